import PyProof.Rows.All
import Wide.All
import OpenK.AllK
import Wide.FinOn
import Lean
import PyProof.EqAt
import PyProof.EqKinds
import PyProof.TupleCall
import PySem.Challenge.RW_holdsets_k38_whole_settled_and_held
import PyProof.NeKinds
import KE.KSortTup
import KE.KDictSum
import PyProof.Draws
import PyProof.EnumFor
import PyProof.EnumMake
import PyProof.ListRange
import PyProof.TupleOfStr
import OpenK.KMake
import OpenK.KOwn
import OpenK.KRaise
import OpenK.KMore
import KE.KTryMore
import KE.KTryOn
import PyProof.NsDelKeeps
import PyProof.Rows.SumAny
import KE.BitLaws
import KE.KMinKey
import PyProof.Rows.CallKwBuiltin
import PyProof.WalksMore
import PyProof.Rows.TupIter
import PyProof.RangeFor
import PyProof.Rows.SeqRoads
import PyProof.Rows.SeqRange
import PyProof.Rows.FStr
import PyProof.DictWalks
import PyProof.Rows.Range3
import PyProof.Rows.TupIn
import PyProof.ReprRoads
import PyProof.ReprLen
import PyProof.FitsInt
import PyProof.AttrMissHeap
import PyProof.AttrMiss
import PyProof.DictUpdate
import PyProof.CollectWalk
import KE.KDictOf
import PyProof.Walks
import PyProof.WalksS
set_option Elab.async false
set_option linter.all false
set_option maxRecDepth 100000
set_option maxHeartbeats 4000000
def PySem.W.Fast.tw4653453067433815607:Unit:=()
def PySem.W.Fast.tw594050220827388881:Unit:=()
def PySem.W.Fast.tw7449680138726407922:Unit:=()
def PySem.W.Fast.tw15495178576899292528:Unit:=()
def PySem.W.Fast.tw8443113543091760643:Unit:=()
def PySem.W.Fast.tw16170565743014161172:Unit:=()
def PySem.W.Fast.tw10109121930635425963:Unit:=()
def PySem.W.Fast.tw3059403456845556584:Unit:=()
def PySem.W.Fast.tw1754720713772081765:Unit:=()
def PySem.W.Fast.tw14969635928374775244:Unit:=()
def PySem.W.Fast.tw15826005463563271779:Unit:=()
def PySem.W.Fast.tw13885929531150671446:Unit:=()
def PySem.W.Fast.tw14699679926837854893:Unit:=()
def PySem.W.Fast.tw3798269384345023066:Unit:=()
def PySem.W.Fast.tw17471875595432975387:Unit:=()
def PySem.W.Fast.tw6402129564108062204:Unit:=()
/-! ### no twins of the greatest written values: they are not needed, and the compiled text stays small -/
def PySem.W.Fast.tw14905023150307460514 : Unit := ()
def PySem.W.Fast.tw77242443512211635 : Unit := ()
def PySem.W.Fast.tw3359685700918056896 : Unit := ()
def PySem.W.Fast.tw8069054288793206835 : Unit := ()
def PySem.W.Fast.tw415694261661792428 : Unit := ()
def PySem.W.Fast.tw2998074927779367222 : Unit := ()
def PySem.W.Fast.tw18206402527615248317 : Unit := ()
def PySem.W.Fast.tw2449641749819622130 : Unit := ()
def PySem.W.Fast.tw7942102841904875767 : Unit := ()
def PySem.W.Fast.tw10354531930342779613 : Unit := ()
def PySem.W.Fast.tw11921672896249871871 : Unit := ()
def PySem.W.Fast.tw5619997555614802037 : Unit := ()
def PySem.W.Fast.tw2335615783953130529 : Unit := ()
def PySem.W.Fast.tw11392233475672731913 : Unit := ()
def PySem.W.Fast.tw1180437468717541364 : Unit := ()
def PySem.W.Fast.tw1645117776591360682 : Unit := ()
def PySem.W.Fast.tw16906424174485789754 : Unit := ()
def PySem.W.Fast.tw7664700647729644450 : Unit := ()
def PySem.W.Fast.tw164926728066821508 : Unit := ()
def PySem.W.Fast.tw1176652675751304834 : Unit := ()
def PySem.W.Fast.tw6674673317220145406 : Unit := ()
def PySem.W.Fast.tw5918072099829586613 : Unit := ()
def PySem.W.Fast.tw12388620257117975151 : Unit := ()
def PySem.W.Fast.tw4043283292626502496 : Unit := ()
def PySem.W.Fast.tw7443672662966923385 : Unit := ()
def PySem.W.Fast.tw1740366302547665074 : Unit := ()
def PySem.W.Fast.tw4189788882578869794 : Unit := ()
def PySem.W.Fast.tw14883697985880912148 : Unit := ()
def PySem.W.Fast.tw10080674966281422970 : Unit := ()
def PySem.W.Fast.tw9770557383316513314 : Unit := ()
def PySem.W.Fast.tw14323929231256531431 : Unit := ()
def PySem.W.Fast.tw3750291282246411845 : Unit := ()
def PySem.W.Fast.tw4333350774400484633 : Unit := ()
def PySem.W.Fast.tw783034895377061936 : Unit := ()
def PySem.W.Fast.tw16471100891427224225 : Unit := ()
def PySem.W.Fast.tw6434643673070204975 : Unit := ()
def PySem.W.Fast.tw7386326188939495687 : Unit := ()
def PySem.W.Fast.tw2267353193580407562 : Unit := ()
def PySem.W.Fast.tw18339622396089639024 : Unit := ()
def PySem.W.Fast.tw7211231579383446601 : Unit := ()
def PySem.W.Fast.tw3362855251049076064 : Unit := ()
def PySem.W.Fast.tw3761181256553632589 : Unit := ()
def PySem.W.Fast.tw1749456471541020594 : Unit := ()
def PySem.W.Fast.tw11108944742361821137 : Unit := ()
def PySem.W.Fast.tw12253637346326523555 : Unit := ()
def PySem.W.Fast.tw13425493212895345879 : Unit := ()
def PySem.W.Fast.tw14628937727448850593 : Unit := ()
def PySem.W.Fast.tw15898813334994006227 : Unit := ()
def PySem.W.Fast.tw10016914515005401415 : Unit := ()
def PySem.W.Fast.tw13022857877234392747 : Unit := ()
def PySem.W.Fast.tw15700235634969293540 : Unit := ()
def PySem.W.Fast.tw16200315856571786189 : Unit := ()
def PySem.W.Fast.tw10549212391152234915 : Unit := ()
def PySem.W.Fast.tw14783058620125750608 : Unit := ()
def PySem.W.Fast.tw15758320209183473437 : Unit := ()
def PySem.W.Fast.tw7867628681197344988 : Unit := ()
def PySem.W.Fast.tw17683127413529928915 : Unit := ()
def PySem.W.Fast.tw14764900816960780219 : Unit := ()
def PySem.W.Fast.tw7327294381221586461 : Unit := ()
def PySem.W.Fast.tw599217913885115030 : Unit := ()
def PySem.W.Fast.tw18263230991527824855 : Unit := ()
def PySem.W.Fast.tw5167280047735028216 : Unit := ()
def PySem.W.Fast.tw822442129104451028 : Unit := ()
def PySem.W.Fast.tw16729410726681254390 : Unit := ()
def PySem.W.Fast.tw10404359646602484360 : Unit := ()
def PySem.W.Fast.tw12480417937785684290 : Unit := ()
def PySem.W.Fast.tw5937506555920345430 : Unit := ()
def PySem.W.Fast.tw9868907861133480894 : Unit := ()
def PySem.W.Fast.tw7379075166943804726 : Unit := ()
def PySem.W.Fast.tw350621736150219297 : Unit := ()
def PySem.W.Fast.tw1403356505299857244 : Unit := ()
def PySem.W.Fast.tw10329570732896186547 : Unit := ()
def PySem.W.Fast.tw3349507809651168739 : Unit := ()
def PySem.W.Fast.tw4402199972549406434 : Unit := ()
def PySem.W.Fast.tw995284572647256721 : Unit := ()
def PySem.W.Fast.tw10640618078565093864 : Unit := ()
def PySem.W.Fast.tw1702266261732695403 : Unit := ()
def PySem.W.Fast.tw6905619384761655933 : Unit := ()
def PySem.W.Fast.tw11613640522107077427 : Unit := ()
def PySem.W.Fast.tw3895062823701972433 : Unit := ()
def PySem.W.Fast.tw12892004414650577035 : Unit := ()
def PySem.W.Fast.tw888706597936880971 : Unit := ()
def PySem.W.Fast.tw10337606507505507563 : Unit := ()
def PySem.W.Fast.tw13232810040623709436 : Unit := ()

namespace L2
open PySem PySem.Spec PyProof.Rows
abbrev Key:=Sum Int Str
def WH:Key→Value→Bool
 | .inl k,v=>Value.isInt k v
 | .inr x,v=>Value.isStrOf x v
def keyH(w:World):Key→Int
 | .inl k=>hashInt k
 | .inr x=>hashStr w x
theorem JX:∀{k:Key}{v:Value},WH k v=true→(∃i t,k=Sum.inl i∧v=Value.int i t)∨(∃x t,k=Sum.inr x∧v=Value.str x t)
 | .inl i,v,h=>by
  obtain⟨t,e⟩:=Value.isInt_shape (k:=i) (v:=v) h
  exact .inl ⟨i,t,rfl,e⟩
 | .inr x,v,h=>by
  obtain⟨t,e⟩:=Value.isStrOf_shape (x:=x) (v:=v) h
  exact .inr ⟨x,t,rfl,e⟩
theorem keyIs_int(i:Int)(t:Tok):WH (.inl i) (.int i t)=true:=by simp[WH,Value.isInt]
theorem keyIs_str(x:Str)(t:Tok):WH (.inr x) (.str x t)=true:=by simp[WH,Value.isStrOf]
theorem key_ll(a b:Int):decide ((Sum.inl a:Key)=Sum.inl b)=(a==b):=by
 by_cases e:a=b
 ·subst e; simp
 ·have h:¬ (Sum.inl a:Key)=Sum.inl b:=fun q=>e (Sum.inl.inj q)
  rw[decide_eq_false h]
  exact(beq_eq_false_iff_ne.mpr e).symm
theorem key_rr(a b:Str):decide ((Sum.inr a:Key)=Sum.inr b)=decide (a=b):=by
 by_cases e:a=b
 ·subst e; simp
 ·have h:¬ (Sum.inr a:Key)=Sum.inr b:=fun q=>e (Sum.inr.inj q)
  rw[decide_eq_false h,decide_eq_false e]
theorem key_lr(a:Int)(b:Str):decide ((Sum.inl a:Key)=Sum.inr b)=false:=decide_eq_false (fun q=>nomatch q)
theorem key_rl(a:Str)(b:Int):decide ((Sum.inr a:Key)=Sum.inl b)=false:=decide_eq_false (fun q=>nomatch q)
def JV(prog:Program)(w:World):PySem.KeyKind prog w Key where
 is:=WH
 hash:=keyH w
 inj:=fun v a b ha hb=>by
  rcases JX ha with⟨i,t,rfl,rfl⟩|⟨x,t,rfl,rfl⟩
  ·rcases JX hb with ⟨j,u,rfl,e⟩ | ⟨y,u,rfl,e⟩
   ·injection e with e1 _; rw [e1]
   ·exact nomatch e
  ·rcases JX hb with ⟨j,u,rfl,e⟩ | ⟨y,u,rfl,e⟩
   ·exact nomatch e
   ·injection e with e1 _; rw [e1]
 byValue:=fun k v h=>by
  rcases JX h with⟨i,t,rfl,rfl⟩|⟨x,t,rfl,rfl⟩<;>rfl
 pyHash:=fun hv h=>by
  rcases JX hv with⟨i,t,rfl,rfl⟩|⟨x,t,rfl,rfl⟩
  ·exact wpAny_pyHash_int h
  ·exact wpAny_pyHash_str h
 eqBool:=fun hu hv h=>by
  rcases JX hu with⟨i,t,rfl,rfl⟩|⟨x,t,rfl,rfl⟩
  ·rcases JX hv with ⟨j,u,rfl,rfl⟩ | ⟨y,u,rfl,rfl⟩
   ·rw [key_ll] at h; exact wpAny_eqBool_int h
   ·rw [key_lr] at h; exact SeqAt.EqAt.int_str i t y u _ _ _ _ h
  ·rcases JX hv with ⟨j,u,rfl,rfl⟩ | ⟨y,u,rfl,rfl⟩
   ·rw [key_rl] at h; exact SeqAt.EqAt.str_int x t j u _ _ _ _ h
   ·rw [key_rr] at h; exact wpAny_eqBool_str h
 «strs»:=fun k x t v h=>by
  rcases JX h with⟨i,u,rfl,e⟩|⟨y,u,rfl,e⟩
  ·exact nomatch e
  ·injection e with e1 _
   subst e1
   cases v<;>rfl
theorem mixKind_int(prog:Program)(w:World)(i:Int)(t:Tok):(JV prog w).is (.inl i) (.int i t)=true:=keyIs_int i t
theorem mixKind_str(prog:Program)(w:World)(x:Str)(t:Tok):(JV prog w).is (.inr x) (.str x t)=true:=keyIs_str x t
end L2
namespace L2
open PySem PySem.Spec PyProof.Rows
inductive V where
 | non | bl (b:Bool) | int (i:Int) | str (x:Str) | byt (b:Array UInt8) | flt (b:UInt64) | ref (a:Addr) | ty (n:String)
 deriving DecidableEq
def RelV:V→Value→Prop
 | .non,u=>u=Value.none
 | .bl b,u=>u=Value.bool b
 | .int i,u=>∃ t,u=Value.int i t
 | .str x,u=>∃ t,u=Value.str x t
 | .byt b,u=>∃ t,u=Value.bytes b t
 | .flt b,u=>∃ t,u=Value.float b t
 | .ref a,u=>u=Value.ref a
 | .ty n,u=>u=Value.type n
abbrev Vals:List V→List Value→Prop:=Paired RelV
theorem Vals.length{xs:List V}{us:List Value}(r:Vals xs us):xs.length=us.length:=Paired.length r
theorem Vals.get:∀{xs:List V}{us:List Value}{i:Nat}{x:V},Vals xs us→xs[i]?=some x→∃u,us[i]?=some u∧RelV x u
 | _,_,_,_,.nil,e=>by simp at e
 | _,_,0,_,.cons r _,e=>by simp at e; subst e; exact ⟨_,rfl,r⟩
 | _,_,i + 1,x,.cons _ t,e=>by
  obtain⟨u,h1,h2⟩:=Vals.get (i:=i) (x:=x) t (by simpa using e)
  exact⟨u,by simpa using h1,h2⟩
theorem Vals.set{x:V}{u:Value}(r:RelV x u):∀{xs:List V}{us:List Value}(i:Nat),Vals xs us→Vals (xs.set i x) (us.set i u)
 | _,_,_,.nil=>.nil
 | _,_,0,.cons _ t=>.cons r t
 | _,_,i + 1,.cons q t=>.cons q (Vals.set r i t)
theorem Vals.append:∀{xs ys:List V}{us ws:List Value},Vals xs us→Vals ys ws→Vals (xs++ys) (us++ws)
 | _,_,_,_,.nil,s=>s
 | _,_,_,_,.cons r t,s=>.cons r (Vals.append t s)
theorem Vals.take:∀{xs:List V}{us:List Value}(n:Nat),Vals xs us→Vals (xs.take n) (us.take n)
 | _,_,0,_=>.nil
 | _,_,_ + 1,.nil=>.nil
 | _,_,n + 1,.cons r t=>.cons r (Vals.take n t)
theorem Vals.drop:∀{xs:List V}{us:List Value}(n:Nat),Vals xs us→Vals (xs.drop n) (us.drop n)
 | _,_,0,r=>r
 | _,_,_ + 1,.nil=>.nil
 | _,_,n + 1,.cons _ t=>Vals.drop n t
def RelO:Option V→Option Value→Prop
 | some v,some u=>RelV v u
 | none,none=>True
 | _,_=>False
def KV{κ:Type}:List (κ×V)→List (κ×Value)→Prop:=Paired fun(p:κ×V) (q:κ×Value)=>p.1=q.1∧RelV p.2 q.2
def kV:Key→V
 | .inl i=>.int i
 | .inr x=>.str x
inductive HO where
 /-- a list -/
 | lst (xs:List V)
 /-- a tuple (never changes) -/
 | tup (xs:List V)
 /-- a dict whose keys are ints and texts;one whose keys are tuples of ints and texts (the empty one is both) -/
 | dK (kvs:List (Key×V)) | dT (kvs:List (List Key×V))
 /-- a set of ints: its members,its size -/
 | set (S:Int→Bool) (n:Nat)
 /-- an instance of the class at C,its dict at dx,its attributes -/
 | ins (C dx:Addr) (fs:List (Str×V))
 /-- the dict of the instance at x -/
 | own (x:Addr)
 /-- the dict of an exception -/
 | xd (fs:List (Str×V))
 /-- a bound method,f of x -/
 | met (f x:Addr)
 /-- a range object lo,lo+1,.. below hi -/
 | rng (lo hi:Int)
 /-- a thing that is known to the object (the script;a dict while a loop walks it): read,never written while it is so -/
 | frz (o:Obj) (u:HO)
 /-- a code object's table -/
 | tbl (ps:Array Value)
 /-- any other thing,by what is true of its one object (a def of one's own: SetO a S n:=HO.ext fun h=>..) -/
 | ext (φ:Heap→Prop)
abbrev Hp:=Addr→Option HO
def upd(H:Hp)(a:Addr)(o:HO):Hp:=fun b=>if b=a then some o else H b
theorem Jb{H:Hp}{a:Addr}{o:HO}:upd H a o a=some o:=by unfold upd;rw[if_pos rfl]
theorem Jh{H:Hp}{a b:Addr}{o:HO}(h:b≠a):upd H a o b=H b:=by unfold upd;rw[if_neg h]
theorem upd_upd{H:Hp}{a:Addr}{o u:HO}:upd (upd H a o) a u=upd H a u:=by
 funext b;unfold upd;split<;>rfl
theorem ZK{H:Hp}{a b:Addr}{o u:HO}(h:H a=some o)(h':H b=some u)(d:o≠u):a≠b:=by
 intro e;subst e;rw[h]at h';exact d (Option.some.inj h')
theorem Jg{H:Hp}{a b:Addr}{o:HO}(h:H a=some o)(h':H b=none):a≠b:=by
 intro e;subst e;rw[h]at h';cases h'
section
variable(P:Program)(w:World)
def ObjOk(H:Hp)(h:Heap)(a:Addr):HO→Prop
 | .lst xs=>xs.length≤sizeLine∧∃ (its:List Value) (n:Nat),Vals xs its∧h.get? a=some { cls:=.type "list",data:=.seq its.toArray n }
 | .tup xs=>xs.length≤sizeLine∧∃ its:List Value,Vals xs its∧IsTup h a its.toArray
 | .dK kvs=>kvs.length≤sizeLine∧(a == sysModules)=false∧∃ vs,KV kvs vs∧h.DictOf (JV P w) a vs
 | .dT kvs=>kvs.length≤sizeLine∧(a == sysModules)=false∧∃ xs:List (List Key×Addr×Value),
   Paired (fun(p:List Key×V) (q:List Key×Addr×Value)=>p.1=q.1∧H q.2.1=some (.tup (p.1.map kV))∧RelV p.2 q.2.2) kvs xs ∧
   ∃o es ep,h.get? a=some o∧o.ExactDict∧o.data=.dict es ep∧es.toList=xs.map (entryOfKey (tupleKind (JV P w)))∧(xs.map (·.1)).Nodup
 | .set S n=>h.SetOf (intKind P w) a S n
 | .ins C dx fs=>H dx=some (.own a)∧fs.length≤1000∧dx≠a∧h.get? a=some (PySem.W.instObj C dx) ∧
   ∃mA,h.Ns1 dx mA∧(∀f,RelO (fs.lookup f) (mA f))∧PySem.Within mA (fs.map (·.1))
 | .own _=>∃ o,h.get? a=some o
 | .xd fs=>∃ mA,h.Ns1 a mA∧∀ f,RelO (fs.lookup f) (mA f)
 | .rng lo hi=>∃ t u v,h.get? a=some { cls:=.type "range",data:=.fields #[.int lo t,.int hi u,.int 1 v] }
 | .frz o u=>h.get? a=some o∧ObjOk H h a u
 | .tbl ps=>h.get? a=some { cls:=.none,data:=.fields ps }
 | .met f x=>h.get? a=some (PySem.W.methodObj (.ref f) (.ref x))
 | .ext φ=>φ h∧(∃ o,h.get? a=some o)∧∀ h1 h2:Heap,φ h1→(∀ o,h1.get? a=some o→h2.get? a=some o)→φ h2
def HOk(H:Hp)(h:Heap):Prop:=∀a o,H a=some o→ObjOk P w H h a o
end
section
variable{P:Program}{w:World}{H H':Hp}{h h':Heap}{a:Addr}{o:HO}
theorem ObjOk.lt(x:ObjOk P w H h a o):a<h.objs.size:=by
 cases o with
 | lst xs=>obtain ⟨_,_,_,_,e⟩:=x; exact Heap.lt_size e
 | tup xs=>obtain ⟨_,_,_,p⟩:=x; exact p.lt
 | dK kvs=>obtain ⟨_,_,_,_,o,_,_,e,_⟩:=x; exact Heap.lt_size e
 | dT kvs=>obtain ⟨_,_,_,_,o,_,_,e,_⟩:=x; exact Heap.lt_size e
 | set S n=>obtain ⟨o,_,_,_,e,_⟩:=x; exact Heap.lt_size e
 | ins C dx fs=>obtain ⟨_,_,_,e,_⟩:=x; exact Heap.lt_size e
 | own y=>obtain ⟨_,e⟩:=x; exact Heap.lt_size e
 | xd fs=>obtain ⟨_,⟨_,_,_,e,_⟩,_⟩:=x; exact Heap.lt_size e
 | rng lo hi=>obtain ⟨_,_,_,e⟩:=x; exact Heap.lt_size e
 | frz ob u=>obtain ⟨e,_⟩:=x; exact Heap.lt_size e
 | tbl ps=>exact Heap.lt_size (show h.get? a=some _ from x)
 | met f y=>exact Heap.lt_size (show h.get? a=some _ from x)
 | ext φ=>obtain ⟨_,⟨_,e⟩,_⟩:=x; exact Heap.lt_size e
theorem Paired.mapP{α β:Type}{F G:α→β→Prop}:∀{l₁:List α}{l₂:List β},Paired F l₁ l₂→(∀a b,F a b→G a b)→Paired G l₁ l₂
 | _,_,.nil,_=>.nil
 | _,_,.cons r t,f=>.cons (f _ _ r) (Paired.mapP t f)
theorem ObjOk.stay(x:ObjOk P w H h a o)(k:∀b u,(b=a∨H b=some (.own a))→h.get? b=some u→h'.get? b=some u)
  (ho:∀b,H b=some (.own a)→H' b=some (.own a)) (ht:∀b xs,H b=some (.tup xs)→H' b=some (.tup xs)):ObjOk P w H' h' a o:=by
 induction o with
 | lst xs=>obtain ⟨z,its,n,r,e⟩:=x; exact ⟨z,its,n,r,k _ _ (.inl rfl) e⟩
 | tup xs=>obtain ⟨z,its,r,ob,e,c⟩:=x; exact ⟨z,its,r,ob,k _ _ (.inl rfl) e,c⟩
 | dK kvs=>obtain ⟨z,y,vs,r,ob,es,ep,e,c⟩:=x; exact ⟨z,y,vs,r,ob,es,ep,k _ _ (.inl rfl) e,c⟩
 | dT kvs =>
  obtain⟨z,y,xs,r,ob,es,ep,e,c⟩:=x
  exact⟨z,y,xs,Paired.mapP r fun p q z=>⟨z.1,ht _ _ z.2.1,z.2.2⟩,ob,es,ep,k _ _ (.inl rfl) e,c⟩
 | set S n=>obtain ⟨ob,es,ep,t,e,c⟩:=x; exact ⟨ob,es,ep,t,k _ _ (.inl rfl) e,c⟩
 | ins C dx fs =>
  obtain⟨d,z,ne,e,mA,⟨od,es,ep,e2,c⟩,r⟩:=x
  exact⟨ho _ d,z,ne,k _ _ (.inl rfl) e,mA,⟨od,es,ep,k _ _ (.inr d) e2,c⟩,r⟩
 | own y=>obtain ⟨ob,e⟩:=x; exact ⟨ob,k _ _ (.inl rfl) e⟩
 | xd fs=>obtain ⟨mA,⟨od,es,ep,e,c⟩,r⟩:=x; exact ⟨mA,⟨od,es,ep,k _ _ (.inl rfl) e,c⟩,r⟩
 | rng lo hi=>obtain ⟨t,u,v,e⟩:=x; exact ⟨t,u,v,k _ _ (.inl rfl) e⟩
 | frz ob u ih=>obtain ⟨e,q⟩:=x; exact ⟨k _ _ (.inl rfl) e,ih q⟩
 | tbl ps =>
  have e:h.get? a=some { cls:=.none,data:=.fields ps }:=x
  show h'.get? a=some { cls:=.none,data:=.fields ps }
  exact k a _ (.inl rfl) e
 | met f y =>
  have e:h.get? a=some (PySem.W.methodObj (.ref f) (.ref y)):=x
  show h'.get? a=some (PySem.W.methodObj (.ref f) (.ref y))
  exact k a _ (.inl rfl) e
 | ext φ=>obtain ⟨p,⟨o,e⟩,st⟩:=x; exact ⟨st _ _ p fun o q=>k _ _ (.inl rfl) q,⟨o,k _ _ (.inl rfl) e⟩,st⟩
theorem HOk.lt(x:HOk P w H h)(e:H a=some o):a<h.objs.size:=(x a o e).lt
theorem HOk.fresh(x:HOk P w H h)(e:h.objs.size≤a):H a=none:=by
 cases q:H a with
 | none=>rfl
 | some u=>exact absurd (Nat.lt_of_lt_of_le (x.lt q) e) (Nat.lt_irrefl _)
theorem HOk.kept(x:HOk P w H h)(k:∀b u,h.get? b=some u→h'.get? b=some u):HOk P w H h':=fun a o e =>
 (x a o e).stay (fun b u _ q=>k b u q) (fun _ q=>q) fun _ _ q=>q
theorem HOk.laid(x:HOk P w H h)(k:∀b u,h.get? b=some u→h'.get? b=some u)(hp:h.objs.size≤a)(new:ObjOk P w (upd H a o) h' a o):HOk P w (upd H a o) h':=fun b u e=>by
 have hn:=x.fresh hp
 by_cases hb:b=a
 ·subst hb; rw [Jb] at e; cases e; exact new
 ·rw [Jh hb] at e
  exact(x b u e).stay (fun c v _ q=>k c v q) (fun c q=>by rw[Jh (Jg q hn)];exact q) fun c xs q=>by rw[Jh (Jg q hn)];exact q
end
def Rd(H:Hp)(a:Addr)(u:HO):Prop:=H a=some u∨∃o,H a=some (.frz o u)
theorem Rd.ok{P:Program}{w:World}{H:Hp}{h:Heap}{a:Addr}{u:HO}(r:Rd H a u)(x:HOk P w H h):ObjOk P w H h a u:=by
 rcases r with r|⟨o,r⟩
 ·exact x a u r
 ·obtain ⟨_,q⟩:=x a _ r
  exact q
def Mut:Option HO→Prop
 | some (.lst _)=>True
 | some (.dK _)=>True
 | some (.dT _)=>True
 | some (.set _ _)=>True
 | some (.ins _ _ _)=>True
 | some (.ext _)=>True
 | _=>False
section
variable{P:Program}{w:World}{H:Hp}{h h':Heap}{x e:Addr}{o':HO}
theorem HOk.write(ok:HOk P w H h)(mu:Mut (H x))(he:e=x∨H e=some (.own x))(k:∀b u,b≠e→h.get? b=some u→h'.get? b=some u)(heo:∃u,h'.get? e=some u)
  (new:ObjOk P w (upd H x o') h' x o'):HOk P w (upd H x o') h':=fun b u q=>by
 have nown:∀c y,H c=some (.own y)→c≠x:=fun c y r z=>by subst z;rw[r]at mu;exact mu
 have ntup:∀c xs,H c=some (.tup xs)→c≠x:=fun c xs r z=>by subst z;rw[r]at mu;exact mu
 by_cases hb:b=x
 ·subst hb; rw [Jb] at q; cases q; exact new
 ·rw [Jh hb] at q
  by_cases hbe:b=e
  ·have q':H b=some (.own x):=by
    rcases he with z|z
    ·exact absurd (hbe.trans z) hb
    ·rw [hbe]; exact z
   rw[q]at q';cases q'
   obtain⟨v,hv⟩:=heo
   exact⟨v,by rw[hbe];exact hv⟩
  ·refine (ok b u q).stay (fun c v hc r=>k c v ?_ r) (fun c r=>by rw [Jh (nown c b r)]; exact r) fun c xs r=>by rw [Jh (ntup c xs r)]; exact r
   rcases hc with rfl|hc
   ·exact hbe
   ·rintro rfl
    rcases he with z|z
    ·exact nown c b hc z
    ·rw [hc] at z; cases z; exact hb rfl
end
structure Un(fs ex:List Addr)(H H':Hp)(h h':Heap):Prop where
 keep:∀b o,h.get? b=some o→H b=none→b∉fs→b∉ex→h'.get? b=some o
 slot:∀b o,h.get? b=some o→H b=none→b∈fs→b∉ex→∃sl,h'.get? b=some { o with slots:=sl }
 free:∀b o,h.get? b=some o→H b=none→b∉ex→H' b=none
 there:∀b o,h.get? b=some o→b∉ex→∃o',h'.get? b=some o'
 tups:∀b xs,H b=some (.tup xs)→H' b=some (.tup xs)
 frzs:∀b o u,H b=some (.frz o u)→H' b=some (.frz o u)
 tbls:∀b ps,H b=some (.tbl ps)→∃more,H' b=some (.tbl (ps++more))
section
variable{fs fs' ex ex':List Addr}{H H1 H2:Hp}{h h1 h2 h':Heap}{a x e:Addr}{o:HO}
theorem Un.any(u:Un fs ex H H1 h h1){b:Addr}{ob:Obj}(q:h.get? b=some ob)(n:H b=none)(hx:b∉ex):∃sl,h1.get? b=some { ob with slots:=sl }:=by
 by_cases hb:b∈fs
 ·exact u.slot b ob q n hb hx
 ·exact ⟨ob.slots,u.keep b ob q n hb hx⟩
theorem Un.kept(k:∀b u,h.get? b=some u→h'.get? b=some u):Un fs ex H H h h' :=
 ⟨fun b ob q _ _ _=>k b ob q,fun b ob q _ _ _=>⟨ob.slots,k b ob q⟩,fun _ _ _ n _=>n,fun b ob q _=>⟨ob,k b ob q⟩,fun _ _ q=>q,fun _ _ _ q=>q,fun _ ps q=>⟨#[],by rw[q];simp⟩⟩
theorem Un.refl:Un fs ex H H h h:=Un.kept fun _ _ q=>q
theorem Un.laid(k:∀b u,h.get? b=some u→h'.get? b=some u)(hp:h.objs.size≤a)(hn:H a=none):Un fs ex H (upd H a o) h h' where
 keep:=fun b u q _ _ _=>k b u q
 slot:=fun b u q _ _ _=>⟨u.slots,k b u q⟩
 free:=fun b u q n _=>by rw[Jh (Nat.ne_of_lt (Nat.lt_of_lt_of_le (Heap.lt_size q) hp))];exact n
 there:=fun b u q _=>⟨u,k b u q⟩
 tups:=fun b xs q=>by rw[Jh (Jg q hn)];exact q
 frzs:=fun b u xs q=>by rw[Jh (Jg q hn)];exact q
 tbls:=fun b ps q=>⟨#[],by rw[Jh (Jg q hn),q];simp⟩
theorem Un.write(mu:Mut (H x))(he:e=x∨H e=some (.own x))(k:∀b u,b≠e→h.get? b=some u→h'.get? b=some u)(heo:∃u,h'.get? e=some u):Un fs ex H (upd H x o) h h':=by
 have hx:∀b,H b=none→b≠x:=fun b n z=>by subst z;rw[n]at mu;exact mu
 have hb:∀b,H b=none→b≠e:=fun b n z=>by
  subst z
  rcases he with r|r
  ·exact hx b n r
  ·rw [n] at r; cases r
 have hm:∀b u,H b=some u→¬ Mut (some u)→b≠x:=fun b u q nm z=>by subst z;rw[q]at mu;exact nm mu
 refine ⟨fun b u q n _ _=>k b u (hb b n) q,fun b u q n _ _=>⟨u.slots,k b u (hb b n) q⟩,fun b u q n _=>by rw [Jh (hx b n)]; exact n,fun b u q _=>?_,
  fun b xs q=>by rw [Jh (hm b _ q fun z=>z)]; exact q,fun b u xs q=>by rw [Jh (hm b _ q fun z=>z)]; exact q,fun b ps q=>⟨#[],by rw [Jh (hm b _ q fun z=>z),q]; simp⟩⟩
 by_cases hbe:b=e
 ·subst hbe; exact heo
 ·exact ⟨u,k b u hbe q⟩
end
def trk(h:Heap)(H:Hp):List Addr:=(List.range h.objs.size).filter fun a=>(H a).isSome
def hidT(h:Heap)(H:Hp):Heap:=PySem.W.hideAll h (trk h H)
theorem hidT_size(h:Heap)(H:Hp):(hidT h H).objs.size=h.objs.size:=PySem.W.hideAll_size _ _
theorem hidT_get{h:Heap}{H:Hp}{b:Addr}{o:Obj}(e:h.get? b=some o)(n:H b=none):(hidT h H).get? b=some o :=
 PySem.W.hideAll_get _ e fun hm=>by
  have q:(H b).isSome=true:=(List.mem_filter.mp hm).2
  rw[n]at q;simp at q
theorem of_hidT{h:Heap}{H:Hp}{b:Addr}{o:Obj}(e:(hidT h H).get? b=some o):h.get? b=some o∧H b=none:=by
 have e':h.get? b=some o:=PySem.W.of_hideAll (trk h H) e
 refine⟨e',?_⟩
 cases q:H b with
 | none=>rfl
 | some x =>
  have hm:b∈trk h H:=List.mem_filter.mpr ⟨List.mem_range.mpr (Heap.lt_size e'),by simp[q]⟩
  have z:(hidT h H).get? b=none:=PySem.W.hideAll_none (trk h H) hm
  rw[z]at e;cases e
end L2
namespace L2
open PySem PySem.Spec PyProof.Rows
structure Mod(K:PySem.W.Frag)(mg:Str→Option Value)(base:Heap):Prop where
 kin:K.In base
 glob:base.Ns mainGlobals mg
 blt:∃mb,base.Ns builtinsNs mb∧∀x:Str,x≠"__name__"→mb x=bootBuiltins x
 nolimit:base.NoLimit
structure Cx where
 prog:Program
 w:World
 K:PySem.W.Frag
 mg:Str→Option Value
 base:Heap
 A:Around
 N:List Str
 s₀:Shared
 H₀:Hp
 env:Env
 outer:List Env
 stack:List Env
 ex:List Addr
 fn:Str→Bool
 calm:Bool
 pn:List (Addr×Obj)
 xe:Value→Shared→Prop
def frs(l:List Env):List Addr:=l.filterMap (·.frame)
abbrev Cx.fs(X:Cx):List Addr:=frs X.outer
def Vis(sc:Scope)(x:Str):Prop:=sc.names.lookup x=some .local∨sc.names.lookup x=some .cell∨sc.names.lookup x=some .free
def Loc(sc:Scope)(x:Str):Prop:=sc.names.lookup x=some .local∨sc.names.lookup x=some .cell
def Look(env:Env)(h:Heap)(m:Str→Option Value)(x:Str)(u:Value):Prop :=
 (env.kindOf x=some .local∧m x=some u)∨((env.kindOf x=some .cell∨env.kindOf x=some .free)∧∃c,env.cells.lookup x=some c∧h.IsCell c (some u))
structure Cx.Ok(X:Cx):Prop where
 mod:Mod X.K X.mg X.base
 kind:X.env.scope.kind=.function
 glob:X.env.globals=mainGlobals
 blt:X.env.builtins=builtinsNs
 above:X.s₀.heap.objs.size≤X.env.locals
 inj:∀x y c,X.env.cells.lookup x=some c→X.env.cells.lookup y=some c→x=y
 has:∀x,(X.env.kindOf x=some .cell∨X.env.kindOf x=some .free)→∃c,X.env.cells.lookup x=some c
 cab:∀x c,X.fn x=true→X.env.cells.lookup x=some c→X.s₀.heap.objs.size≤c
 hd:X.calm=true→X.A.handled=none
 frames:X.A.frames=some X.stack
 stk:X.stack=X.outer∨(X.stack=X.env::X.outer∧X.env.frame=some X.env.locals)
 exf:∀b∈X.ex,b≠X.env.locals∧∀x c,X.env.cells.lookup x=some c→c≠b
 bs:∀b o,X.base.get? b=some o→X.s₀.heap.get? b=some o∧X.H₀ b=none
 bsz:X.base.objs.size≤X.s₀.heap.objs.size
 noex:∀b o,X.base.get? b=some o→b∉X.ex
 exfs:∀b∈X.ex,b∉X.fs
 funs:X.s₀.heap.FunFrames X.base X.outer
 frf:∀b∈X.fs,X.H₀ b=none
structure Inv(X:Cx)(pins:List (Addr×Obj))(σ:List (Option V))(H:Hp)(s:Shared):Prop where
 ok:X.Ok
 os:s.os=X.s₀.os
 bare:AllBare s.gens
 base:Un X.fs X.ex X.H₀ H X.s₀.heap s.heap
 loc:∃m,s.heap.Ns X.env.locals m∧∀(i:Nat)(x:Str)(v:V),X.N[i]?=some x→σ[i]?=some (some v)→Vis X.env.scope x→∃u,RelV v u∧Look X.env s.heap m x u
 cell:∀x c,X.env.cells.lookup x=some c→∃v,s.heap.IsCell c v
 free:H X.env.locals=none
 freeC:∀x c,X.env.cells.lookup x=some c→H c=none
 pin:∀p∈X.pn++pins,s.heap.get? p.1=some p.2∧H p.1=none∧p.1≠X.env.locals∧p.1∉X.fs∧∀v,p.2.data≠.cell v
 hok:HOk X.prog X.w H s.heap
 len:σ.length=X.N.length
section
variable{X:Cx}{pins:List (Addr×Obj)}{σ:List (Option V)}{H H':Hp}{s:Shared}{h':Heap}
theorem Cx.Ok.nofr(ok:X.Ok){b:Addr}{o:Obj}(e:X.base.get? b=some o):b∉X.fs:=fun hb=>by
 have:=(ok.funs.mem hb).1
 rw[e]at this;cases this
theorem Inv.bs(I:Inv X pins σ H s):∀b o,X.base.get? b=some o→s.heap.get? b=some o∧H b=none:=fun b o e =>
 ⟨I.base.keep b o (I.ok.bs b o e).1 (I.ok.bs b o e).2 (I.ok.nofr e) (I.ok.noex b o e),I.base.free b o (I.ok.bs b o e).1 (I.ok.bs b o e).2 (I.ok.noex b o e)⟩
theorem Inv.bk(I:Inv X pins σ H s):∀b o,X.base.get? b=some o→s.heap.get? b=some o:=fun b o e=>(I.bs b o e).1
theorem Inv.mod(I:Inv X pins σ H s):Mod X.K X.mg X.base:=I.ok.mod
theorem Inv.kIn(I:Inv X pins σ H s):X.K.In s.heap:=I.ok.mod.kin.keeps I.bk
theorem Inv.lt(I:Inv X pins σ H s):X.env.locals<s.heap.objs.size:=let⟨_,hn,_⟩:=I.loc;hn.lt
theorem Inv.sz(I:Inv X pins σ H s):X.s₀.heap.objs.size≤s.heap.objs.size:=Nat.le_trans I.ok.above (Nat.le_of_lt I.lt)
theorem Inv.nofs(I:Inv X pins σ H s){a:Addr}(h:s.heap.objs.size≤a):a∉X.fs:=fun hb=>by
 obtain⟨_,o,ho,_⟩:=I.ok.funs.mem hb
 exact absurd (Nat.lt_of_lt_of_le (Heap.lt_size ho) (Nat.le_trans I.sz h)) (Nat.lt_irrefl _)
theorem Inv.cne(I:Inv X pins σ H s):∀x c,X.env.cells.lookup x=some c→c≠X.env.locals:=fun x c e z=>by
 obtain⟨v,o,ho,hd⟩:=I.cell x c e
 obtain⟨m,⟨o',es,ep,ho',hd',_⟩,_⟩:=I.loc
 rw[z,ho']at ho;cases ho;rw[hd']at hd;cases hd
theorem Inv.funs(I:Inv X pins σ H s):s.heap.FunFrames X.base X.outer:=by
 have all:∀(l:List Env),(∀b∈frs l,b∈X.fs)→X.s₀.heap.FunFrames X.base l→s.heap.FunFrames X.base l:=by
  intro l
  induction l with
  | nil=>intro _ _; trivial
  | cons env r ih =>
   intro hs hl
   obtain⟨hk,⟨L,o,hf,hn,ho,hd⟩,hr⟩:=hl
   have hL:L∈X.fs:=hs L (by unfold frs;rw[List.filterMap_cons,hf];exact List.mem_cons_self)
   obtain⟨sl,e⟩:=I.base.slot L o ho (I.ok.frf L hL) hL fun z=>I.ok.exfs L z hL
   exact⟨hk,⟨L,_,hf,hn,e,hd⟩,ih (fun b hb=>hs b (by unfold frs;rw[List.filterMap_cons,hf];exact List.mem_cons_of_mem _ hb)) hr⟩
 exact all X.outer (fun _ hb=>hb) I.ok.funs
theorem Inv.stack(I:Inv X pins σ H s):s.heap.FunFrames X.base X.stack:=by
 rcases I.ok.stk with e|⟨e,hf⟩
 ·rw [e]; exact I.funs
 ·rw [e]
  obtain⟨m,hn,_⟩:=I.loc
  refine .cons (by rw[I.ok.kind];decide) hf hn ?_ I.funs
  exact Heap.get?_none_of_le (Nat.le_trans I.ok.bsz I.ok.above)
theorem Inv.stkSub(I:Inv X pins σ H s):∀b∈frs X.stack,b∈X.env.locals::X.fs:=fun b hb=>by
 rcases I.ok.stk with e|⟨e,hf⟩
 ·rw [e] at hb; exact List.mem_cons_of_mem _ hb
 ·rw [e] at hb
  unfold frs at hb
  rw[List.filterMap_cons,hf]at hb
  exact hb
theorem Inv.stkFree(I:Inv X pins σ H s):∀b∈frs X.stack,H b=none:=fun b hb=>by
 rcases List.mem_cons.mp (I.stkSub b hb)with e|hb
 ·rw [e]; exact I.free
 ·obtain ⟨_,o,ho,_⟩:=I.ok.funs.mem hb
  exact I.base.free b o ho (I.ok.frf b hb) fun z=>I.ok.exfs b z hb
theorem Inv.step{g':Array GenState}{t':Nat}{d':Drawn}{ch:List Addr}(I:Inv X pins σ H s)
  (hch:∀b∈ch,(b∈X.ex∨X.s₀.heap.objs.size≤b)∧b≠X.env.locals∧(∀x c,X.env.cells.lookup x=some c→c≠b)∧∀p∈X.pn++pins,p.1≠b)
  (keep:∀b o,b≠X.env.locals→b∉X.fs→b∉ch→s.heap.get? b=some o→H b=none→h'.get? b=some o)
  (slot:∀b o,b≠X.env.locals→b∈X.fs→b∉ch→s.heap.get? b=some o→H b=none→∃sl,h'.get? b=some { o with slots:=sl }) (free:∀b o,b∉ch→s.heap.get? b=some o→H b=none→H' b=none)
  (there:∀b o,b∉ch→s.heap.get? b=some o→∃o',h'.get? b=some o')
  (tups:∀b xs,H b=some (.tup xs)→H' b=some (.tup xs)) (frzs:∀b o u,H b=some (.frz o u)→H' b=some (.frz o u)) (tbls:∀b ps,H b=some (.tbl ps)→∃more,H' b=some (.tbl (ps++more)))
  (ns:∀m,s.heap.Ns X.env.locals m→h'.Ns X.env.locals m) (hok:HOk X.prog X.w H' h') (hg:AllBare g') :
  Inv X pins σ H' { s with heap:=h',gens:=g',drawn:=d',toks:=t' }:=by
 have neL:∀b o,X.s₀.heap.get? b=some o→b≠X.env.locals:=fun b o e=>Nat.ne_of_lt (Nat.lt_of_lt_of_le (Heap.lt_size e) I.ok.above)
 have neC:∀b o,X.s₀.heap.get? b=some o→b∉X.ex→b∉ch:=fun b o e hx hb=>by
  rcases(hch b hb).1 with z|z
  ·exact hx z
  ·exact absurd (Nat.lt_of_lt_of_le (Heap.lt_size e) z) (Nat.lt_irrefl _)
 have cellK:∀x c,X.env.cells.lookup x=some c→∀v,s.heap.IsCell c v→h'.IsCell c v:=fun x c e v ⟨o,ho,hd⟩=>by
  have nch:c∉ch:=fun z=>(hch c z).2.2.1 x c e rfl
  by_cases hc:c∈X.fs
  ·obtain ⟨sl,q⟩:=slot c o (I.cne x c e) hc nch ho (I.freeC x c e)
   exact⟨_,q,hd⟩
  ·exact ⟨o,keep c o (I.cne x c e) hc nch ho (I.freeC x c e),hd⟩
 refine⟨I.ok,I.os,hg,⟨fun b o e n hb hx=>?_,fun b o e n hb hx=>?_,fun b o e n hx=>?_,fun b o e hx=>?_,fun b xs e=>tups b xs (I.base.tups b xs e),fun b o xs e=>frzs b o xs (I.base.frzs b o xs e),fun b ps e=>?_⟩,?_,fun x c e=>?_,?_,fun x c e=>?_,fun p hp=>?_,hok,I.len⟩
 ·exact keep b o (neL b o e) hb (neC b o e hx) (I.base.keep b o e n hb hx) (I.base.free b o e n hx)
 ·obtain ⟨sl,e1⟩:=I.base.slot b o e n hb hx
  obtain⟨sl',e2⟩:=slot b _ (neL b o e) hb (neC b o e hx) e1 (I.base.free b o e n hx)
  exact⟨sl',e2⟩
 ·obtain ⟨o',e1⟩:=I.base.there b o e hx
  exact free b o' (neC b o e hx) e1 (I.base.free b o e n hx)
 ·obtain ⟨o',e1⟩:=I.base.there b o e hx
  exact there b o' (neC b o e hx) e1
 ·obtain ⟨m1,e1⟩:=I.base.tbls b ps e
  obtain⟨m2,e2⟩:=tbls b _ e1
  exact⟨m1++m2,by rw[e2,Array.append_assoc]⟩
 ·obtain ⟨m,hn,hl⟩:=I.loc
  refine⟨m,ns m hn,fun i x v e1 e2 e3=>?_⟩
  obtain⟨u,r,l⟩:=hl i x v e1 e2 e3
  refine⟨u,r,?_⟩
  rcases l with l|⟨k,c,e,z⟩
  ·exact .inl l
  ·exact .inr ⟨k,c,e,cellK x c e _ z⟩
 ·obtain ⟨v,z⟩:=I.cell x c e
  exact⟨v,cellK x c e v z⟩
 ·obtain ⟨m,⟨o,_,_,ho,_⟩,_⟩:=I.loc
  exact free _ o (fun z=>(hch _ z).2.1 rfl) ho I.free
 ·obtain ⟨v,o,ho,hd⟩:=I.cell x c e
  exact free c o (fun z=>(hch c z).2.2.1 x c e rfl) ho (I.freeC x c e)
 ·obtain ⟨e,n,ne,nf,d⟩:=I.pin p hp
  have nch:p.1∉ch:=fun z=>(hch p.1 z).2.2.2 p hp rfl
  exact⟨keep p.1 p.2 ne nf nch e n,free p.1 p.2 nch e n,ne,nf,d⟩
theorem Inv.un{t':Nat}(I:Inv X pins σ H s)(u:Un X.fs [] H H' s.heap h')(hok:HOk X.prog X.w H' h'):Inv X pins σ H' { s with heap:=h',toks:=t' }:=by
 obtain⟨m,⟨o,es,ep,ho,r⟩,_⟩:=id I.loc
 obtain⟨sl,hL⟩:=u.any ho I.free (by simp)
 exact I.step (g':=s.gens) (d':=s.drawn) (ch:=[]) (fun _ z=>nomatch z) (fun b o _ hb _ e n=>u.keep b o e n hb (by simp)) (fun b o _ hb _ e n=>u.slot b o e n hb (by simp)) (fun b o _ e n=>u.free b o e n (by simp)) (fun b o _ e=>u.there b o e (by simp)) u.tups u.frzs u.tbls (fun m' hm=>by
  obtain⟨o',es',ep',ho',r'⟩:=hm
  rw[ho]at ho';cases ho'
  exact ⟨_,es',ep',hL,r'⟩) hok I.bare
theorem Inv.call{g':Array GenState}{t':Nat}{d':Drawn}{ch:List Addr}(I:Inv X pins σ H s)(u:Un (frs X.stack) ch H H' s.heap h')(hok:HOk X.prog X.w H' h')(hg:AllBare g')
  (hch:∀b∈ch,(b∈X.ex∨X.s₀.heap.objs.size≤b)∧b≠X.env.locals∧(∀x c,X.env.cells.lookup x=some c→c≠b)∧∀p∈X.pn++pins,p.1≠b) :
  Inv X pins σ H' { s with heap:=h',gens:=g',drawn:=d',toks:=t' }:=by
 obtain⟨m,⟨o,es,ep,ho,r⟩,_⟩:=id I.loc
 obtain⟨sl,hL⟩:=u.any ho I.free fun z=>(hch _ z).2.1 rfl
 exact I.step (ch:=ch) hch (fun b o hL hb hc e n=>u.keep b o e n (fun z=>(List.mem_cons.mp (I.stkSub b z)).elim hL hb) hc) (fun b o _ _ hc e n=>u.any e n hc) (fun b o hc e n=>u.free b o e n hc) (fun b o hc e=>u.there b o e hc) u.tups u.frzs u.tbls (fun m' hm=>by
  obtain⟨o',es',ep',ho',r'⟩:=hm
  rw[ho]at ho';cases ho'
  exact ⟨_,es',ep',hL,r'⟩) hok hg
theorem Inv.turned{t':Nat}{it:Addr}(I:Inv X pins σ H s)(k:∀b o,b≠it→s.heap.get? b=some o→h'.get? b=some o)(hn:H it=none)(hL:it≠X.env.locals)
  (h1:it∈X.ex∨X.s₀.heap.objs.size≤it) (h2:∀x c,X.env.cells.lookup x=some c→c≠it) (h3:∀p∈X.pn++pins,p.1≠it):Inv X pins σ H { s with heap:=h',toks:=t' }:=by
 have nit:∀b u,H b=some u→b≠it:=fun b u e z=>by rw[z,hn]at e;cases e
 refine I.step (g':=s.gens) (d':=s.drawn) (ch:=[it]) (fun b hb=>?_) (fun b o _ _ hc e _=>k b o (fun z=>hc (by simp[z])) e) (fun b o _ _ hc e _=>⟨o.slots,k b o (fun z=>hc (by simp[z])) e⟩) (fun _ _ _ _ n=>n)
  (fun b o hc e=>⟨o,k b o (fun z=>hc (by simp[z])) e⟩) (fun _ _ e=>e) (fun _ _ _ e=>e) (fun b ps e=>⟨#[],by rw[e];simp⟩) (fun m hm=>?_) (fun b u e=>?_) I.bare
 ·have e:b=it:=by simpa using hb
  subst e
  exact⟨h1,hL,h2,h3⟩
 ·obtain ⟨o,es,ep,ho,r⟩:=hm
  exact⟨o,es,ep,k _ o (Ne.symm hL) ho,r⟩
 ·refine (I.hok b u e).stay (fun c v hc q=>k c v ?_ q) (fun _ q=>q) fun _ _ q=>q
  rcases hc with z|z
  ·rw [z]; exact nit b u e
  ·exact nit c _ z
theorem Inv.tok(I:Inv X pins σ H s)(t:Nat):Inv X pins σ H { s with toks:=t }:=I.un (h':=s.heap) (t':=t) Un.refl I.hok
theorem Inv.kept{t':Nat}(I:Inv X pins σ H s)(k:∀b u,s.heap.get? b=some u→h'.get? b=some u):Inv X pins σ H { s with heap:=h',toks:=t' }:=I.un (Un.kept k) (I.hok.kept k)
theorem Inv.laid{a:Addr}{o:HO}{t':Nat}(I:Inv X pins σ H s)(k:∀b u,s.heap.get? b=some u→h'.get? b=some u)(hp:s.heap.objs.size≤a)(new:ObjOk X.prog X.w (upd H a o) h' a o) :
  Inv X pins σ (upd H a o) { s with heap:=h',toks:=t' }:=I.un (Un.laid k hp (I.hok.fresh hp)) (I.hok.laid k hp new)
theorem Inv.write{x e:Addr}{o:HO}{t':Nat}(I:Inv X pins σ H s)(mu:Mut (H x))(he:e=x∨H e=some (.own x))(k:∀b u,b≠e→s.heap.get? b=some u→h'.get? b=some u)(heo:∃u,h'.get? e=some u)
  (new:ObjOk X.prog X.w (upd H x o) h' x o):Inv X pins σ (upd H x o) { s with heap:=h',toks:=t' }:=I.un (Un.write mu he k heo) (I.hok.write mu he k heo new)
theorem Inv.weak{σ':List (Option V)}(I:Inv X pins σ H s)(hl:σ'.length=σ.length)(w:∀(i:Nat) v,σ'[i]?=some (some v)→σ[i]?=some (some v)):Inv X pins σ' H s :=
 ⟨I.ok,I.os,I.bare,I.base,let⟨m,hn,hl'⟩:=I.loc;⟨m,hn,fun i x v e1 e2 e3=>hl' i x v e1 (w i v e2) e3⟩,I.cell,I.free,I.freeC,I.pin,I.hok,hl.trans I.len⟩
theorem Inv.pins_of{pins':List (Addr×Obj)}(I:Inv X pins σ H s)(h:∀p∈pins',s.heap.get? p.1=some p.2∧H p.1=none∧p.1≠X.env.locals∧p.1∉X.fs∧∀v,p.2.data≠.cell v):Inv X pins' σ H s :=
 ⟨I.ok,I.os,I.bare,I.base,I.loc,I.cell,I.free,I.freeC,fun p hp=>(List.mem_append.mp hp).elim (fun z=>I.pin p (List.mem_append_left _ z)) (h p),I.hok,I.len⟩
theorem nodup_ix{N:List Str}(hN:N.Nodup){i j:Nat}{x:Str}(a:N[i]?=some x)(b:N[j]?=some x):i=j:=by
 obtain⟨h1,e1⟩:=List.getElem?_eq_some_iff.mp a
 obtain⟨h2,e2⟩:=List.getElem?_eq_some_iff.mp b
 exact(List.getElem_inj hN).mp (e1.trans e2.symm)
theorem store_ok2{M:Model}{A:Around}{E:Value→Shared→Prop}{i:Nat}{x:Str}{v:V}{u:Value}{Q:Unit→Shared→Prop}(I:Inv X pins σ H s)(hN:X.N.Nodup)(hi:X.N[i]?=some x)(hx:Loc X.env.scope x)(r:RelV v u)
  (h:∀s',Inv X pins (σ.set i (some v)) H s'→(∃a,Heap.SameBut a s.heap s'.heap∧(a=X.env.locals∨X.env.cells.lookup x=some a))→Q () s') (hf:X.fn x=true∨X.env.scope.names.lookup x=some .local:=by first|exact .inl rfl|exact .inr rfl|assumption):wpAny M A (storeName X.env x u) Q E s:=by
 obtain⟨m,hn,hl⟩:=id I.loc
 have hcls:(X.env.scope.kind==.class||(X.env.scope.kind==.module&&X.env.locals != X.env.globals))=false:=by rw[I.ok.kind];rfl
 have hiσ:i<σ.length:=by rw[I.len];exact(List.getElem?_eq_some_iff.mp hi).1
 have cne:=I.cne
 have tracked:∀{a:Addr}{h':Heap},(∃o,s.heap.get? a=some o∧H a=none)→Heap.SameBut a s.heap h'→HOk X.prog X.w H h':=fun {a h'} ha hs b ob e=>by
  obtain⟨_,_,hfree⟩:=ha
  refine(I.hok b ob e).stay (fun c w' hc q=>(hs.2 c ?_).trans q) (fun _ q=>q) fun _ _ q=>q
  rintro rfl
  rcases hc with rfl|hc
  ·rw [hfree] at e; cases e
  ·rw [hfree] at hc; cases hc
 rcases hx with hk|hk
 ·refine wpAny_storeName_local hk hn (fun h' hn' hs=>?_) hcls
  obtain⟨oL,_,_,hoL,_⟩:=id hn
  refine h _ ⟨I.ok,I.os,I.bare,⟨fun b o e n hb hx=>?_,fun b o e n hb hx=>?_,I.base.free,fun b o e hx=>?_,I.base.tups,I.base.frzs,I.base.tbls⟩,⟨_,hn',fun j y v' e1 e2 e3=>?_⟩,fun y c e=>?_,I.free,I.freeC,fun p hp=>?_,tracked ⟨oL,hoL,I.free⟩ hs,by simpa using I.len⟩ ⟨_,hs,.inl rfl⟩
  ·exact (hs.2 b (Nat.ne_of_lt (Nat.lt_of_lt_of_le (Heap.lt_size e) I.ok.above))).trans (I.base.keep b o e n hb hx)
  ·obtain ⟨sl,e1⟩:=I.base.slot b o e n hb hx
   exact⟨sl,(hs.2 b (Nat.ne_of_lt (Nat.lt_of_lt_of_le (Heap.lt_size e) I.ok.above))).trans e1⟩
  ·obtain ⟨o',e1⟩:=I.base.there b o e hx
   exact⟨o',(hs.2 b (Nat.ne_of_lt (Nat.lt_of_lt_of_le (Heap.lt_size e) I.ok.above))).trans e1⟩
  ·by_cases hj:j=i
   ·subst hj
    rw[hi]at e1;cases e1
    rw[List.getElem?_set_self hiσ]at e2
    cases e2
    exact⟨u,r,.inl ⟨hk,by simp⟩⟩
   ·rw [List.getElem?_set_ne (Ne.symm hj)] at e2
    obtain⟨u',r',q⟩:=hl j y v' e1 e2 e3
    refine⟨u',r',?_⟩
    rcases q with⟨k,e⟩|⟨k,c,e,z⟩
    ·refine .inl ⟨k,?_⟩
     have:y≠x:=fun e=>hj (nodup_ix hN e1 (e▸hi))
     simp[this,e]
    ·exact .inr ⟨k,c,e,z.sameBut hs (cne y c e)⟩
  ·obtain ⟨w',z⟩:=I.cell y c e
   exact⟨w',z.sameBut hs (cne y c e)⟩
  ·obtain ⟨e,n,ne,nf,d⟩:=I.pin p hp
   exact⟨(hs.2 p.1 ne).trans e,n,ne,nf,d⟩
 ·have hfn:X.fn x=true:=by
   rcases hf with z|z
   ·exact z
   ·rw [z] at hk; cases hk
  obtain⟨c,hc⟩:=I.ok.has x (.inl hk)
  obtain⟨w',z⟩:=I.cell x c hc
  refine wpAny_storeName_cell I.ok.kind hk hc z (fun h' hc' hs=>?_)
  obtain⟨oc,hoc,hocd⟩:=id z
  refine h { s with heap:=h' } ⟨I.ok,I.os,I.bare,⟨fun b o e n hb hx=>?_,fun b o e n hb hx=>?_,I.base.free,fun b o e hx=>?_,I.base.tups,I.base.frzs,I.base.tbls⟩,⟨m,hn.sameBut hs (Ne.symm (cne x c hc)),fun j y v' e1 e2 e3=>?_⟩,fun y c' e=>?_,I.free,I.freeC,fun p hp=>?_,tracked ⟨oc,hoc,I.freeC x c hc⟩ hs,by simpa using I.len⟩ ⟨c,hs,.inr hc⟩
  ·exact (hs.2 b (Nat.ne_of_lt (Nat.lt_of_lt_of_le (Heap.lt_size e) (I.ok.cab x c hfn hc)))).trans (I.base.keep b o e n hb hx)
  ·obtain ⟨sl,e1⟩:=I.base.slot b o e n hb hx
   exact⟨sl,(hs.2 b (Nat.ne_of_lt (Nat.lt_of_lt_of_le (Heap.lt_size e) (I.ok.cab x c hfn hc)))).trans e1⟩
  ·obtain ⟨o',e1⟩:=I.base.there b o e hx
   exact⟨o',(hs.2 b (Nat.ne_of_lt (Nat.lt_of_lt_of_le (Heap.lt_size e) (I.ok.cab x c hfn hc)))).trans e1⟩
  ·by_cases hj:j=i
   ·subst hj
    rw[hi]at e1;cases e1
    rw[List.getElem?_set_self hiσ]at e2
    cases e2
    exact⟨u,r,.inr ⟨.inl hk,c,hc,hc'⟩⟩
   ·rw [List.getElem?_set_ne (Ne.symm hj)] at e2
    obtain⟨u',r',q⟩:=hl j y v' e1 e2 e3
    refine⟨u',r',?_⟩
    rcases q with q|⟨k,c',e,z'⟩
    ·exact .inl q
    ·refine .inr ⟨k,c',e,z'.sameBut hs ?_⟩
     rintro rfl
     exact hj (nodup_ix hN e1 (I.ok.inj _ _ _ e hc▸hi))
  ·by_cases hcc:c'=c
   ·subst hcc; exact ⟨_,hc'⟩
   ·obtain ⟨w2,z2⟩:=I.cell y c' e
    exact⟨w2,z2.sameBut hs hcc⟩
  ·obtain ⟨e,n,ne,nf,d⟩:=I.pin p hp
   refine⟨(hs.2 p.1 ?_).trans e,n,ne,nf,d⟩
   intro q
   rw[q,hoc]at e
   have q':oc=p.2:=Option.some.inj e
   exact d w' (by rw[← q'];exact hocd)
theorem WX{M:Model}{A:Around}{E:Value→Shared→Prop}{i:Nat}{x:Str}{v:V}{u:Value}{Q:Unit→Shared→Prop}(I:Inv X pins σ H s)(hN:X.N.Nodup)(hi:X.N[i]?=some x)(hx:Loc X.env.scope x)(r:RelV v u)
  (h:∀s',Inv X pins (σ.set i (some v)) H s'→Q () s') (hf:X.fn x=true∨X.env.scope.names.lookup x=some .local:=by first|exact .inl rfl|exact .inr rfl|assumption):wpAny M A (storeName X.env x u) Q E s :=
 store_ok2 I hN hi hx r (fun s' I' _=>h s' I') hf
theorem Inv.call'{s':Shared}{ch:List Addr}(I:Inv X pins σ H s)(ho:s'.os=s.os)(u:Un (frs X.stack) ch H H' s.heap s'.heap)(hok:HOk X.prog X.w H' s'.heap)(hg:AllBare s'.gens)
  (hch:∀b∈ch,(b∈X.ex∨X.s₀.heap.objs.size≤b)∧b≠X.env.locals∧(∀x c,X.env.cells.lookup x=some c→c≠b)∧∀p∈X.pn++pins,p.1≠b):Inv X pins σ H' s':=by
 obtain⟨h',g',d',t',o'⟩:=s'
 have e:o'=s.os:=ho
 subst e
 exact I.call (g':=g') (t':=t') (d':=d') u hok hg hch
end
abbrev XK:=Value→Option Addr→Hp→Prop
abbrev St:=List (Option V)
abbrev VK:=V→Hp→Prop
abbrev TE:=St→Hp→VK→Prop
abbrev TT:=St→Hp→(Bool→Hp→Prop)→Prop
abbrev TA:=St→Hp→(List V→Hp→Prop)→Prop
structure Ends where
 nx:St→Hp→Prop
 rt:VK
 bk:St→Hp→Prop:=fun _ _=>False
 ct:St→Hp→Prop:=fun _ _=>False
abbrev TS:=Ends→St→Hp→Prop
def EP(X:Cx)(pins:List (Addr×Obj))(σ:St)(Q:VK)(u:Value)(s':Shared):Prop:=∃v H',Inv X pins σ H' s'∧RelV v u∧Q v H'
def TP(X:Cx)(pins:List (Addr×Obj))(σ:St)(Q:Bool→Hp→Prop)(b:Bool)(s':Shared):Prop:=∃H',Inv X pins σ H' s'∧Q b H'
def AP(X:Cx)(pins:List (Addr×Obj))(σ:St)(Q:List V→Hp→Prop)(us:List Value)(s':Shared):Prop:=∃vs H',Inv X pins σ H' s'∧Vals vs us∧Q vs H'
def SP(X:Cx)(pins:List (Addr×Obj))(D:Ends)(f:Flow)(s':Shared):Prop :=
 match f with
 | .next=>∃ σ' H',Inv X pins σ' H' s'∧D.nx σ' H'
 | .brk=>∃ σ' H',Inv X pins σ' H' s'∧D.bk σ' H'
 | .cont=>∃ σ' H',Inv X pins σ' H' s'∧D.ct σ' H'
 | .ret u=>∃ v σ' H',Inv X pins σ' H' s'∧RelV v u∧D.rt v H'
def PE(X:Cx)(e:Expr)(t:TE):Prop :=
 ∀(pins:List (Addr×Obj))(s:Shared)(σ:St)(H:Hp)(Q:VK),Inv X pins σ H s→t σ H Q→wpAny (model X.prog X.w) X.A (eval e X.env) (EP X pins σ Q) X.xe s
def PT(X:Cx)(e:Expr)(t:TT):Prop :=
 ∀(pins:List (Addr×Obj))(s:Shared)(σ:St)(H:Hp)(Q:Bool→Hp→Prop),Inv X pins σ H s→t σ H Q→wpAny (model X.prog X.w) X.A (isTrue e X.env (eval e X.env)) (TP X pins σ Q) X.xe s
def PW(X:Cx)(e:Expr)(t:TT):Prop :=
 ∀(whole:Sem Value)(pins:List (Addr×Obj))(s:Shared)(σ:St)(H:Hp)(Q:Bool→Hp→Prop),Inv X pins σ H s→t σ H Q→wpAny (model X.prog X.w) X.A (isTrue e X.env whole) (TP X pins σ Q) X.xe s
theorem PW.pt{X:Cx}{e:Expr}{t:TT}(h:PW X e t):PT X e t:=h _
def PA(X:Cx)(es:List Expr)(t:TA):Prop :=
 ∀(pos:Pos)(pins:List (Addr×Obj))(s:Shared)(σ:St)(H:Hp)(Q:List V→Hp→Prop),Inv X pins σ H s→t σ H Q→wpAny (model X.prog X.w) X.A (spliced (backTo pos (starEach es X.env))) (AP X pins σ Q) X.xe s
def PS(X:Cx)(st:Stmt)(t:TS):Prop :=
 ∀(pins:List (Addr×Obj))(s:Shared)(σ:St)(H:Hp)(D:Ends),Inv X pins σ H s→t D σ H→wpAny (model X.prog X.w) X.A (exec st X.env) (SP X pins D) X.xe s
def PSs(X:Cx)(st:List Stmt)(t:TS):Prop :=
 ∀(pins:List (Addr×Obj))(s:Shared)(σ:St)(H:Hp)(D:Ends),Inv X pins σ H s→t D σ H→wpAny (model X.prog X.w) X.A (execs st X.env) (SP X pins D) X.xe s
theorem thn{α:Type}{t:Sem α}{Q Q':α→Shared→Prop}{M:Model}{A:Around}{E:Value→Shared→Prop}{s:Shared}(h:wpAny M A t Q E s)(hQ:∀a s,Q a s→Q' a s):wpAny M A t Q' E s:=wpAny_mono h hQ fun _ _ x=>x
end L2
namespace L2
open PySem PySem.Spec PyProof.Rows
section
variable{X:Cx}
def tVar(i:Nat):TE:=fun σ H Q=>∃v,σ[i]?=some (some v)∧Q v H
def tC(v:V):TE:=fun _ H Q=>Q v H
theorem pe_var{i:Nat}{x:Str}{pos:Pos}(hN:X.N[i]?=some x)(hv:Vis X.env.scope x)(hd:(x==("__debug__":Str))=false:=by decide)(hcd:(x==("__classdict__":Str))=false:=by decide):PE X (.Name x pos) (tVar i):=by
 intro pins s σ H Q I h
 obtain⟨v,e,h⟩:=h
 obtain⟨m,hn,hl⟩:=I.loc
 obtain⟨u,r,l⟩:=hl i x v hN e hv
 have fin:EP X pins σ Q u s:=⟨v,H,I,r,h⟩
 rcases l with⟨hk,hm⟩|⟨hk,c,hc,hcell⟩
 ·exact wpAny_Name (wpAny_loadName_local I.ok.kind hk hn hm fin) hd
 ·rcases hk with hk | hk
  ·exact wpAny_Name (wpAny_loadName_cell I.ok.kind hk hc hcell fin) hd
  ·exact wpAny_Name (wpAny_loadName_free I.ok.kind hk hc hcell fin hcd) hd
theorem Ji{i j pos}:PE X (.Constant (.int i) j pos) (tC (.int i)):=fun _ _ _ H _ I h=>wpAny_Constant_int ⟨.int i,H,I.tok _,⟨_,rfl⟩,h⟩
theorem JY{b j pos}:PE X (.Constant (.bool b) j pos) (tC (.bl b)):=fun _ _ _ H _ I h=>Constant_bool ⟨.bl b,H,I,rfl,h⟩
theorem YD{j pos}:PE X (.Constant .none j pos) (tC .non):=fun _ _ _ H _ I h=>Constant_none ⟨.non,H,I,rfl,h⟩
theorem pe_str{x j pos}:PE X (.Constant (.str x) j pos) (tC (.str x)):=fun _ _ _ H _ I h=>Calls.Constant_str ⟨.str x,H,I.tok _,⟨_,rfl⟩,h⟩
def Gl(X:Cx)(x:Str):Prop:=X.env.kindOf x=some .globalImplicit
theorem ld_glob{E:Value→Shared→Prop}{pins:List (Addr×Obj)}{s:Shared}{σ:St}{H:Hp}{x:Str}{u:Value}{pos:Pos}{Q:Value→Shared→Prop}(I:Inv X pins σ H s)(hg:Gl X x)(hm:X.mg x=some u)(h:Q u s)
  (hd:(x==("__debug__":Str))=false:=by decide):wpAny (model X.prog X.w) X.A (eval (.Name x pos) X.env) Q E s :=
 Calls.Name_function_global I.ok.kind hg (Calls.loadGlobal_global (by rw[I.ok.glob];exact I.mod.glob.keeps I.bk) hm h) hd
theorem ZB{E:Value→Shared→Prop}{pins:List (Addr×Obj)}{s:Shared}{σ:St}{H:Hp}{x:Str}{u:Value}{pos:Pos}{Q:Value→Shared→Prop}(I:Inv X pins σ H s)(hg:Gl X x)(hm:X.mg x=none)(hv:bootBuiltins x=some u)(h:Q u s)
  (hn:x≠"__name__":=by decide) (hd:(x==("__debug__":Str))=false:=by decide):wpAny (model X.prog X.w) X.A (eval (.Name x pos) X.env) Q E s:=by
 obtain⟨mb,h1,h2⟩:=I.mod.blt
 exact Calls.Name_function_global I.ok.kind hg (Calls.loadGlobal_builtin (by rw[I.ok.glob];exact I.mod.glob.keeps I.bk) hm (by rw[I.ok.blt];exact h1.keeps I.bk) ((h2 x hn).trans hv) h) hd
theorem Ug{x:Str}{v:V}{u:Value}{pos:Pos}(hg:Gl X x)(hm:X.mg x=none)(hv:bootBuiltins x=some u)(r:RelV v u)(hn:x≠"__name__":=by decide)(hd:(x==("__debug__":Str))=false:=by decide):PE X (.Name x pos) (tC v) :=
 fun _ _ _ H _ I h=>ZB I hg hm hv ⟨v,H,I,r,h⟩ hn hd
variable{a b:Expr}{ta tb:TE}{pos:Pos}
def PC(X:Cx)(op:CmpOp)(a b:Expr)(t:TE):Prop :=
 ∀(pins:List (Addr×Obj))(s:Shared)(σ:St)(H:Hp)(Q:VK),Inv X pins σ H s→t σ H Q →
  wpAny (model X.prog X.w) X.A (eval a X.env) (fun v s₁=>wpAny (model X.prog X.w) X.A (eval b X.env) (fun u s₂=>wpAny (model X.prog X.w) X.A (compareOp op v u) (EP X pins σ Q) X.xe s₂) X.xe s₁) X.xe s
theorem nobehind(b:Expr){op:CmpOp}(h:op≠.In)(h2:op≠.NotIn):behindInMarks op b=false:=by
 have e1:(op==CmpOp.In)=false:=by cases op<;>first|rfl|exact absurd rfl h
 have e2:(op==CmpOp.NotIn)=false:=by cases op<;>first|rfl|exact absurd rfl h2
 cases b<;>simp[behindInMarks,e1,e2]
def tIsN(ta:TE):TE:=fun σ H Q=>ta σ H fun x H1=>Q (.bl (decide (x=.non))) H1
theorem RelV.none_iff{x:V}{v:Value}(r:RelV x v):(v==Value.none)=decide (x=.non):=by
 cases x with
 | non=>cases r; rfl
 | bl _=>cases r; rfl
 | int _=>obtain ⟨t,rfl⟩:=r; rfl
 | str _=>obtain ⟨t,rfl⟩:=r; rfl
 | byt _=>obtain ⟨t,rfl⟩:=r; rfl
 | flt _=>obtain ⟨t,rfl⟩:=r; rfl
 | ref _=>cases r; rfl
 | ty _=>cases r; rfl
theorem pc_isN{j pos'}(ha:PE X a ta):PC X .Is a (.Constant .none j pos') (tIsN ta):=by
 intro pins s σ H Q I h
 refine thn (ha pins s σ H _ I h) fun v s1 ⟨x,H1,I1,r1,q1⟩=>?_
 exact Constant_none (is_none_gen ⟨.bl _,H1,I1,by rw[r1.none_iff];rfl,q1⟩)
def tB(t:TE):TT:=fun σ H Q=>t σ H fun x H1=>∃c,x=.bl c∧Q c H1
theorem pe_cmp{op:CmpOp}{t:TE}(h:PC X op a b t)(h1:behindInMarks op b=false:=by first|exact nobehind _ (by decide) (by decide)|rfl):PE X (.Compare a [op] [b] pos) t:=fun pins s σ H Q I hw=>wpAny_Compare1 (h pins s σ H Q I hw) h1
theorem YU{op:CmpOp}{t:TE}(h:PC X op a b t)(h1:behindInMarks op b=false:=by first|exact nobehind _ (by decide) (by decide)|rfl):PT X (.Compare a [op] [b] pos) (tB t):=by
 intro pins s σ H Q I hw
 refine wpAny_isTrue_Compare1 (thn (h pins s σ H _ I hw) fun v s1 h1=>thn h1 fun u s2 h2=>thn h2 fun c s3 ⟨x,H1,I1,r1,q1⟩=>?_) h1
 obtain⟨d,rfl,q⟩:=q1
 cases r1
 exact wpAny_truthy_bool ⟨H1,I1,q⟩
theorem pt_val{e:Expr}{t:TE}(h:PE X e t)(he:∀whole,isTrue e X.env whole=(do let v ← whole;standAt e.pos;holding [v] (truthy v)):=by intro _;rfl):PT X e (tB t):=by
 intro pins s σ H Q I hw
 refine isTrue_plain (thn (h pins s σ H _ I hw) fun v s1 ⟨x,H1,I1,r1,q1⟩=>?_) (he _)
 obtain⟨d,rfl,q⟩:=q1
 cases r1
 exact wpAny_truthy_bool ⟨H1,I1,q⟩
variable{tA tB':TT}{rest:List Expr}
def tAnd(t u:TT):TT:=fun σ H Q=>t σ H fun c H1=>if c=true then u σ H1 Q else Q false H1
def tOr(t u:TT):TT:=fun σ H Q=>t σ H fun c H1=>if c=true then Q true H1 else u σ H1 Q
def tNot(t:TT):TT:=fun σ H Q=>t σ H fun c H1=>Q (!c) H1
theorem YX(ha:PT X a tA):PW X (.BoolOp .And [a] pos) tA:=by
 intro wh pins s σ H Q I h
 refine isTrue_and (thn (ha pins s σ H Q I h) fun c s1 e=>?_)
 cases c with
 | true=>exact isTrue_and_nil e
 | false=>exact e
theorem WS(ha:PT X a tA):PW X (.BoolOp .Or [a] pos) tA:=by
 intro wh pins s σ H Q I h
 refine isTrue_or (thn (ha pins s σ H Q I h) fun c s1 e=>?_)
 cases c with
 | false=>exact isTrue_or_nil e
 | true=>exact e
theorem ZS(ha:PT X a tA)(hb:PW X (.BoolOp .And (b::rest) pos) tB'):PW X (.BoolOp .And (a::b::rest) pos) (tAnd tA tB'):=by
 intro wh pins s σ H Q I h
 refine isTrue_and (thn (ha pins s σ H _ I h) fun c s1 ⟨H1,I1,q1⟩=>?_)
 cases c with
 | true=>exact hb wh pins s1 σ H1 Q I1 q1
 | false=>exact ⟨H1,I1,q1⟩
theorem Qu(ha:PT X a tA)(hb:PW X (.BoolOp .Or (b::rest) pos) tB'):PW X (.BoolOp .Or (a::b::rest) pos) (tOr tA tB'):=by
 intro wh pins s σ H Q I h
 refine isTrue_or (thn (ha pins s σ H _ I h) fun c s1 ⟨H1,I1,q1⟩=>?_)
 cases c with
 | true=>exact ⟨H1,I1,q1⟩
 | false=>exact hb wh pins s1 σ H1 Q I1 q1
theorem Wo(ha:PT X a tA):PT X (.UnaryOp .Not a pos) (tNot tA):=by
 intro pins s σ H Q I h
 exact isTrue_not (ha pins s σ H (fun c H1=>Q (!c) H1) I h)
def tAndV(ta tb:TE):TE:=fun σ H Q=>ta σ H fun x H1=>∃c,x=.bl c∧if c=true then tb σ H1 Q else Q (.bl false) H1
def tNotV(ta:TE):TE:=fun σ H Q=>ta σ H fun x H1=>∃c,x=.bl c∧Q (.bl (!c)) H1
theorem WT{op}{t:TE}(h:PE X a t):PE X (.BoolOp op [a] pos) t:=fun pins s σ H Q I hw=>BoolOp_one (h pins s σ H Q I hw)
theorem Wq(ha:PE X a ta)(hb:PE X (.BoolOp .And (b::rest) pos) tb):PE X (.BoolOp .And (a::b::rest) pos) (tAndV ta tb):=by
 intro pins s σ H Q I h
 refine BoolOp_and (thn (ha pins s σ H _ I h) fun v s1 ⟨x,H1,I1,r1,q1⟩=>?_)
 obtain⟨c,rfl,q1⟩:=q1
 cases r1
 refine wpAny_truthy_bool ?_
 cases c with
 | true=>exact hb pins s1 σ H1 Q I1 q1
 | false=>exact ⟨.bl false,H1,I1,rfl,q1⟩
theorem pe_not(ha:PE X a ta):PE X (.UnaryOp .Not a pos) (tNotV ta):=by
 intro pins s σ H Q I h
 refine UnaryOp_ (thn (ha pins s σ H _ I h) fun v s1 ⟨x,H1,I1,r1,q1⟩=>?_)
 obtain⟨c,rfl,q1⟩:=q1
 cases r1
 exact not_of (wpAny_truthy_bool ⟨.bl (!c),H1,I1,rfl,q1⟩)
end
end L2
namespace L2
open PySem PySem.Spec PyProof.Rows
def SqL(K:PySem.W.Frag)(H:Hp)(a:Addr)(xs:List V):Prop :=
 Rd H a (.lst xs) ∨
  ∃(o:Obj)(its:Array Value)(n:Nat),K.lookup a=some o∧o.cls=.type "list"∧o.dict=none∧o.data=.seq its n∧its.size≤sizeLine∧Vals xs its.toList
def SqT(K:PySem.W.Frag)(H:Hp)(a:Addr)(xs:List V):Prop :=
 Rd H a (.tup xs) ∨
  ∃(o:Obj)(its:Array Value)(n:Nat),K.lookup a=some o∧o.cls=.type "tuple"∧o.data=.seq its n∧its.size≤sizeLine∧Vals xs its.toList
def absV:Value→Option V
 | .none=>some .non
 | .bool b=>some (.bl b)
 | .int i _=>some (.int i)
 | .str x _=>some (.str x)
 | .bytes b _=>some (.byt b)
 | .float b _=>some (.flt b)
 | .ref a=>some (.ref a)
 | .type n=>some (.ty n)
 | _=>none
theorem RelV.abs{x:V}{u:Value}(r:RelV x u):absV u=some x:=by
 cases x with
 | non=>cases r; rfl
 | bl _=>cases r; rfl
 | int _=>obtain ⟨t,rfl⟩:=r; rfl
 | str _=>obtain ⟨t,rfl⟩:=r; rfl
 | byt _=>obtain ⟨t,rfl⟩:=r; rfl
 | flt _=>obtain ⟨t,rfl⟩:=r; rfl
 | ref _=>cases r; rfl
 | ty _=>cases r; rfl
theorem RelV.inj{x y:V}{u:Value}(r:RelV x u)(q:RelV y u):x=y:=Option.some.inj (r.abs.symm.trans q.abs)
theorem Vals.inj:∀{xs ys:List V}{us:List Value},Vals xs us→Vals ys us→xs=ys
 | _,_,_,.nil,.nil=>rfl
 | _,_,_,.cons r t,.cons r' t'=>by rw [r.inj r',Vals.inj t t']
section
variable{X:Cx}{pins:List (Addr×Obj)}{σ:St}{H:Hp}{s:Shared}{a:Addr}{xs ys:List V}
theorem SqL.of{K:PySem.W.Frag}(h:H a=some (.lst xs)):SqL K H a xs:=.inl (.inl h)
theorem SqT.of{K:PySem.W.Frag}(h:H a=some (.tup xs)):SqT K H a xs:=.inl (.inl h)
theorem Inv.list(I:Inv X pins σ H s)(h:SqL X.K H a xs):∃its:List Value,Vals xs its∧PlainL s.heap a its.toArray∧xs.length≤sizeLine:=by
 rcases h with h|⟨o,its,n,hk,hc,hd,hs,hz,r⟩
 ·obtain ⟨z,its,n,r,e⟩:=h.ok I.hok
  exact⟨its,r,⟨_,n,e,rfl,rfl,rfl⟩,z⟩
 ·refine ⟨its.toList,r,⟨o,n,I.kIn a o hk,hc,hd,by simpa using hs⟩,?_⟩
  have e:=r.length
  simp only[Array.length_toList]at e
  omega
theorem Inv.tuple(I:Inv X pins σ H s)(h:SqT X.K H a xs):∃its:List Value,Vals xs its∧IsTup s.heap a its.toArray∧xs.length≤sizeLine:=by
 rcases h with h|⟨o,its,n,hk,hc,hs,hz,r⟩
 ·obtain ⟨z,its,r,p⟩:=h.ok I.hok
  exact⟨its,r,p,z⟩
 ·refine ⟨its.toList,r,⟨o,I.kIn a o hk,hc,n,by simpa using hs⟩,?_⟩
  have e:=r.length
  simp only[Array.length_toList]at e
  omega
theorem Inv.list_inj(I:Inv X pins σ H s)(h:SqL X.K H a xs)(h':SqL X.K H a ys):xs=ys:=by
 obtain⟨its,r,⟨o,n,e,_,_,d⟩,_⟩:=I.list h
 obtain⟨its',r',⟨o',n',e',_,_,d'⟩,_⟩:=I.list h'
 rw[e]at e';cases e'
 rw[d]at d'
 injection d' with d1 _
 have:its=its':=by simpa using congrArg Array.toList d1
 subst this
 exact r.inj r'
theorem Inv.tuple_inj(I:Inv X pins σ H s)(h:SqT X.K H a xs)(h':SqT X.K H a ys):xs=ys:=by
 obtain⟨its,r,⟨o,e,_,n,d⟩,_⟩:=I.tuple h
 obtain⟨its',r',⟨o',e',_,n',d'⟩,_⟩:=I.tuple h'
 rw[e]at e';cases e'
 rw[d]at d'
 injection d' with d1 _
 have:its=its':=by simpa using congrArg Array.toList d1
 subst this
 exact r.inj r'
end
abbrev Cx.wish(X:Cx)(E:Value→Shared→Prop):Cx:={ X with xe:=E }
abbrev Cx.nox(X:Cx):Cx:=X.wish fun _ _=>False
theorem Cx.Ok.wish{X:Cx}(ok:X.Ok)(E:Value→Shared→Prop):(X.wish E).Ok :=
 ⟨ok.mod,ok.kind,ok.glob,ok.blt,ok.above,ok.inj,ok.has,ok.cab,ok.hd,ok.frames,ok.stk,ok.exf,ok.bs,ok.bsz,ok.noex,ok.exfs,ok.funs,ok.frf⟩
theorem Cx.Ok.unwish{X:Cx}{E:Value→Shared→Prop}(ok:(X.wish E).Ok):X.Ok :=
 ⟨ok.mod,ok.kind,ok.glob,ok.blt,ok.above,ok.inj,ok.has,ok.cab,ok.hd,ok.frames,ok.stk,ok.exf,ok.bs,ok.bsz,ok.noex,ok.exfs,ok.funs,ok.frf⟩
section
variable{X:Cx}{pins:List (Addr×Obj)}{σ:St}{H:Hp}{s:Shared}{E:Value→Shared→Prop}
theorem Inv.wish(I:Inv X pins σ H s)(E:Value→Shared→Prop):Inv (X.wish E) pins σ H s:=⟨I.ok.wish E,I.os,I.bare,I.base,I.loc,I.cell,I.free,I.freeC,I.pin,I.hok,I.len⟩
theorem Inv.unwish(I:Inv (X.wish E) pins σ H s):Inv X pins σ H s:=⟨I.ok.unwish,I.os,I.bare,I.base,I.loc,I.cell,I.free,I.freeC,I.pin,I.hok,I.len⟩
theorem SP.unwish{D:Ends}{f:Flow}{s':Shared}(h:SP (X.wish E) pins D f s'):SP X pins D f s':=by
 cases f with
 | next=>obtain ⟨σ',H',I,q⟩:=h; exact ⟨σ',H',I.unwish,q⟩
 | brk=>obtain ⟨σ',H',I,q⟩:=h; exact ⟨σ',H',I.unwish,q⟩
 | cont=>obtain ⟨σ',H',I,q⟩:=h; exact ⟨σ',H',I.unwish,q⟩
 | ret u=>obtain ⟨v,σ',H',I,r,q⟩:=h; exact ⟨v,σ',H',I.unwish,r,q⟩
theorem PSs.nox{st:List Stmt}{t:TS}(h:PSs X.nox st t):PSs X st t:=fun pins s σ H D I hw =>
 wpAny_mono (h pins s σ H D (I.wish _) hw) (fun _ _ q=>q.unwish) fun _ _ z=>False.elim z
end
section
variable{X:Cx}{st:Stmt}{rest:List Stmt}{t u:TS}{e:Expr}{te:TE}{pos:Pos}
def tNext:TS:=fun D σ H=>D.nx σ H
def tSeq(t u:TS):TS:=fun D σ H=>t { D with nx:=u D } σ H
theorem Jy:PSs X [] tNext:=fun _ _ σ H _ I h=>wpAny_execs_nil ⟨σ,H,I,h⟩
theorem Jd(h1:PS X st t)(h2:PSs X rest u):PSs X (st::rest) (tSeq t u):=by
 intro pins s σ H D I h
 refine wpAny_execs_cons (thn (h1 pins s σ H { D with nx:=u D } I h) fun f s1 q=>?_)
 cases f with
 | next =>
  obtain⟨σ',H',I',q⟩:=q
  exact h2 pins s1 σ' H' D I' q
 | ret v=>exact q
 | brk=>exact q
 | cont=>exact q
theorem Je(h1:PS X st t):PSs X [st] t:=by
 intro pins s σ H D I h
 refine wpAny_execs_cons (thn (h1 pins s σ H D I h) fun f s1 q=>?_)
 cases f with
 | next=>exact wpAny_execs_nil q
 | ret v=>exact q
 | brk=>exact q
 | cont=>exact q
theorem Inv.quiet{pins:List (Addr×Obj)}{σ:St}{H:Hp}{s:Shared}(I:Inv X pins σ H s):interactive X.env=false:=by simp[interactive,I.ok.kind]
def tDrop(te:TE):TS:=fun D σ H=>te σ H fun _ H1=>D.nx σ H1
theorem Zo(he:PE X e te)(hs:swapsWith e none pos.line X.env=pure false:=by rfl):PS X (.Expr e pos) (tDrop te):=by
 intro pins s σ H D I h
 exact wpAny_Expr_any (thn (he pins s σ H _ I h) fun v s1 ⟨x,H1,I1,r1,q1⟩=>⟨σ,H1,I1,q1⟩) I.quiet hs
def tRet(te:TE):TS:=fun D σ H=>te σ H D.rt
theorem Jm(he:PE X e te):PS X (.Return (some e) pos) (tRet te):=by
 intro pins s σ H D I h
 exact wpAny_Return_some (thn (he pins s σ H _ I h) fun v s1 ⟨x,H1,I1,r1,q1⟩=>⟨x,σ,H1,I1,r1,q1⟩)
def tIfS(c:TT)(t u:TS):TS:=fun D σ H=>c σ H fun b H1=>if b=true then t D σ H1 else u D σ H1
theorem JU{c:Expr}{a b:List Stmt}{tc:TT}(hc:PT X c tc)(ha:PSs X a t)(hb:PSs X b u):PS X (.If c a b pos) (tIfS tc t u):=by
 intro pins s σ H D I h
 refine wpAny_If (thn (hc pins s σ H _ I h) fun d s1 ⟨H1,I1,q1⟩=>?_)
 cases d with
 | true=>exact ha pins s1 σ H1 D I1 q1
 | false=>exact hb pins s1 σ H1 D I1 q1
end
abbrev TG:=V→St→Hp→(St→Hp→Prop)→Prop
abbrev TGs:=List V→St→Hp→(St→Hp→Prop)→Prop
def PG(X:Cx)(target:Expr)(t:TG):Prop :=
 ∀(pins:List (Addr×Obj))(s:Shared)(σ:St)(H:Hp)(v:V)(u:Value)(Q:St→Hp→Prop),Inv X pins σ H s→RelV v u→t v σ H Q →
  wpAny (model X.prog X.w) X.A (assign target X.env u) (fun _ s'=>∃σ' H',Inv X pins σ' H' s'∧Q σ' H') X.xe s
def PGs(X:Cx)(ts:List Expr)(t:TGs):Prop :=
 ∀(pins:List (Addr×Obj))(s:Shared)(σ:St)(H:Hp)(vs:List V)(us:List Value)(Q:St→Hp→Prop),Inv X pins σ H s→Vals vs us→t vs σ H Q →
  wpAny (model X.prog X.w) X.A (assignInOrder ((assignEach ts X.env).map (·.2)) us) (fun _ s'=>∃σ' H',Inv X pins σ' H' s'∧Q σ' H') X.xe s
abbrev TSet:=V→V→V→Hp→(Hp→Prop)→Prop
def PSet(X:Cx)(t:TSet):Prop :=
 ∀(pins:List (Addr×Obj))(s:Shared)(σ:St)(H:Hp)(o i v:V)(ov iv u:Value)(Q:Hp→Prop),Inv X pins σ H s→RelV o ov→RelV i iv→RelV v u→t o i v H Q →
  wpAny (model X.prog X.w) X.A (setItem ov iv u) (fun _ s'=>∃H',Inv X pins σ H' s'∧Q H') X.xe s
section
variable{X:Cx}{pos:Pos}
def Zr(i:Nat):TG:=fun v σ H Q=>Q (σ.set i (some v)) H
theorem Jk{i:Nat}{x:Str}(hN:X.N.Nodup)(hi:X.N[i]?=some x)(hx:Loc X.env.scope x)(hf:X.fn x=true∨X.env.scope.names.lookup x=some .local:=by first|exact .inl rfl|exact .inr rfl|assumption):PG X (.Name x pos) (Zr i):=by
 intro pins s σ H v u Q I r h
 exact wpAny_assign_Name (WX I hN hi hx r (fun s' I'=>⟨_,H,I',h⟩) hf)
def gNil:TGs:=fun vs σ H Q=>vs=[]∧Q σ H
def gCons(t:TG)(u:TGs):TGs:=fun vs σ H Q=>∃v r,vs=v::r∧t v σ H fun σ' H'=>u r σ' H' Q
theorem Yr:PGs X [] gNil:=by
 intro pins s σ H vs us Q I r h
 obtain⟨e,h⟩:=h
 subst e
 cases r
 exact assignInOrder_nil ⟨σ,H,I,h⟩
theorem Jz{e:Expr}{es:List Expr}{t:TG}{u:TGs}(h1:PG X e t)(h2:PGs X es u)
  (hs:(assignEach (e::es) X.env).map (·.2)=assign e X.env::(assignEach es X.env).map (·.2):=by rfl):PGs X (e::es) (gCons t u):=by
 intro pins s σ H vs us Q I r h
 obtain⟨v,vr,e1,h⟩:=h
 subst e1
 cases r with
 | cons r rr =>
  rw[hs]
  refine assignInOrder_cons (thn (h1 pins s σ H _ _ _ I r h) fun _ s1 ⟨σ1,H1,I1,q1⟩=>?_)
  exact h2 pins s1 σ1 H1 _ _ Q I1 rr q1
def gTup(K:PySem.W.Frag)(n:Nat)(t:TGs):TG:=fun v σ H Q=>∃a xs,v=.ref a∧SqT K H a xs∧xs.length=n∧t xs σ H Q
theorem YV{es:List Expr}{k:Nat}{t:TGs}{n:Nat}(hc:X.calm=true)(h:PGs X es t)
  (hn:(assignEach es X.env).length=n:=by rfl) (hst:(assignEach es X.env).findIdx? (·.1)=none:=by rfl):PG X (.Tuple es k pos) (gTup X.K n t):=by
 intro pins s σ H v u Q I r hw
 obtain⟨a,xs,e1,hq,hl,hw⟩:=hw
 subst e1
 cases r
 obtain⟨its,rv,ht,hz⟩:=I.tuple hq
 refine assign_Tuple_tuple (I.ok.hd hc) ht (by simp[hn,← hl,rv.length]) hst fun h' hx=>?_
 have I1:Inv X pins σ H { s with heap:=h' }:=I.kept (t':=s.toks) fun b o e=>hx b o (Nat.ne_of_lt (Heap.lt_size e)) e
 exact h pins _ σ H xs _ Q I1 (by simpa using rv) hw
def gSub(to ti:TE)(t:TSet):TG:=fun v σ H Q=>to σ H fun o H1=>ti σ H1 fun i H2=>t o i v H2 fun H3=>Q σ H3
theorem pg_sub{o i:Expr}{to ti:TE}{t:TSet}(ho:PE X o to)(hi:PE X i ti)(hs:PSet X t)
  (ha:∀ v,assign (.Subscript o i pos) X.env v=(do
   let ov ← holding [v] (eval o X.env)
   let iv ← holding [v,ov] (eval i X.env)
   standAt pos
   holding [v,ov,iv] (setItem ov iv v)
   release [v,ov,iv] []):=by intro _; rfl):PG X (.Subscript o i pos) (gSub to ti t):=by
 intro pins s σ H v u Q I r h
 rw[ha]
 refine wpAny_bind (wpAny_holding (thn (ho pins s σ H _ I h) fun ov s1 ⟨x,H1,I1,r1,q1⟩=>?_))
 refine wpAny_bind (wpAny_holding (thn (hi pins s1 σ H1 _ I1 q1) fun iv s2 ⟨y,H2,I2,r2,q2⟩=>?_))
 refine wpAny_bind (wpAny_standAt (wpAny_bind (wpAny_holding (thn (hs pins s2 σ H2 x y v ov iv u _ I2 r1 r2 r q2) fun _ s3 ⟨H3,I3,q3⟩=>?_))))
 exact wpAny_release ⟨σ,H3,I3,q3⟩
def tAsg(te:TE)(g:TG):TS:=fun D σ H=>te σ H fun x H1=>g x σ H1 D.nx
theorem ps_asg{tg e:Expr}{te:TE}{g:TG}(he:PE X e te)(hg:PG X tg g)(hs:swapsWithSole [tg] e pos.line X.env=pure false:=by rfl)(hw:swappedStores [tg] e X.env=pure none:=by rfl)
  (h1:(assignEach [tg] X.env).map (·.2)=[assign tg X.env]:=by rfl):PS X (.Assign [tg] e pos) (tAsg te g):=by
 intro pins s σ H D I h
 refine wpAny_Assign_stores (thn (he pins s σ H _ I h) fun v s1 ⟨x,H1,I1,r1,q1⟩=>?_) hs hw
 rw[h1]
 exact thn (hg pins s1 σ H1 x v _ I1 r1 q1) fun _ s2 q=>q
theorem Jn{i:Nat}{x:Str}{e:Expr}{te:TE}{pos':Pos}(hN:X.N.Nodup)(hi:X.N[i]?=some x)(hx:Loc X.env.scope x)(he:PE X e te)(hs:swapsWith e (some (.Name x pos')) pos.line X.env=pure false:=by rfl)(hf:X.fn x=true∨X.env.scope.names.lookup x=some .local:=by first|exact .inl rfl|exact .inr rfl|assumption) :
  PS X (.Assign [.Name x pos'] e pos) (tAsg te (Zr i)):=by
 intro pins s σ H D I h
 refine wpAny_Assign_Name (thn (he pins s σ H _ I h) fun v s1 ⟨y,H1,I1,r1,q1⟩=>?_) hs
 exact WX I1 hN hi hx r1 (fun s2 I2=>⟨_,H1,I2,q1⟩) hf
def tPar(i j:Nat)(ta:TA):TS:=fun D σ H=>ta σ H fun vs H1=>∃v w,vs=[v,w]∧D.nx ((σ.set i (some v)).set j (some w)) H1
theorem ps_par{i j:Nat}{x y:Str}{a b:Expr}{ta:TA}{px py pt:Pos}{kt k2 pt2}(hc:X.calm=true)(hN:X.N.Nodup)(hi:X.N[i]?=some x)(hj:X.N[j]?=some y)(hij:i≠j)
  (hx:X.env.scope.names.lookup x=some .local) (hy:X.env.scope.names.lookup y=some .local) (ha:PA X [a,b] ta)
  (hw:swappedStores [.Tuple [.Name x px,.Name y py] kt pt] (.Tuple [a,b] k2 pt2) X.env=pure (some [x,y]))
  (hs:swapsWithSole [.Tuple [.Name x px,.Name y py] kt pt] (.Tuple [a,b] k2 pt2) pos.line X.env=pure false:=by rfl) :
  PS X (.Assign [.Tuple [.Name x px,.Name y py] kt pt] (.Tuple [a,b] k2 pt2) pos) (tPar i j ta):=by
 intro pins s σ H D I h
 rw[exec_Assign_arm]
 refine wpAny_bind (wpAny_standAt ?_)
 rw[hs]
 refine wpAny_bind (wpAny_pure ?_)
 rw[if_neg (by decide)]
 refine wpAny_bind (Tuple_ (thn (ha _ pins s σ H _ I h) fun us s1 ⟨vs,H1,I1,r1,q1⟩=>?_))
 obtain⟨v,w,e1,q1⟩:=q1
 subst e1
 obtain⟨u1,u2,rfl,rv,rw'⟩:∃u1 u2,us=[u1,u2]∧RelV v u1∧RelV w u2:=by
  cases r1 with
  | cons p q =>
   cases q with
   | cons p' q' =>
    cases q'
    exact⟨_,_,rfl,p,p'⟩
 refine wpAny_newObj_type ?_ (by show 2≤sizeLine;decide)
 have I2:Inv X pins σ H1 { s1 with heap:=s1.heap.push { cls:=.type "tuple",data:=.seq [u1,u2].toArray } }:=I1.kept (t':=s1.toks) fun b o e=>Heap.get?_push_of_some _ e
 rw[hw]
 refine wpAny_bind (wpAny_pure ?_)
 show wpAny (model X.prog X.w) X.A (do rule "assign.swapped-stores";let items ← unpackItems (.ref s1.heap.objs.size) 2 none;assignInOrder [fun v=>bindName X.env y v,fun v=>bindName X.env x v] items.reverse;pure Flow.next) _ _ _
 refine wpAny_bind (wpAny_rule (wpAny_bind (unpackItems_tuple (items:=#[u1,u2]) (I.ok.hd hc) (IsTup.new s1.heap _) fun h' hx'=>?_)))
 have I3:=I2.kept (h':=h') (t':=s1.toks) fun b o e=>hx' b o (Nat.ne_of_lt (Heap.lt_size e)) e
 show wpAny _ _ (assignInOrder [fun v=>bindName X.env y v,fun v=>bindName X.env x v] [u2,u1] >>= fun _=>pure Flow.next) _ _ _
 refine wpAny_bind (assignInOrder_cons (wpAny_bindName (WX I3 hN hj (.inl hy) rw' (fun s2 I4=>?_) (.inr hy))))
 refine assignInOrder_cons (wpAny_bindName (WX I4 hN hi (.inl hx) rv (fun s3 I5=>assignInOrder_nil (wpAny_pure ?_)) (.inr hx)))
 rw[List.set_comm _ _ (Ne.symm hij)]at I5
 exact⟨_,H1,I5,q1⟩
end
section
variable{X:Cx}{pos:Pos}
def tWhile(c:TT)(tb:TS):TS:=fun D σ H=>∃W:Nat→St→Hp→Prop,(∃m,W m σ H)∧∀m σ H,W m σ H →
 c σ H fun b H1=>if b=true then ∃N:St→Hp→Prop,(∀σ' H',N σ' H'→∃m',m'<m∧W m' σ' H')∧tb { D with nx:=N,ct:=N,bk:=D.nx } σ H1 else D.nx σ H1
theorem Wp{c:Expr}{body:List Stmt}{tc:TT}{tb:TS}(hp:PassesOwn (model X.prog X.w) X.A X.env X.xe)(hc:PT X c tc)(hb:PSs X body tb):PS X (.While c body [] pos) (tWhile tc tb):=by
 intro pins s σ H D I h
 obtain⟨W,⟨m0,w0⟩,turn⟩:=h
 refine wpAny_While (codeAny_whileLoop (fun n s'=>∃σ' H',Inv X pins σ' H' s'∧W n σ' H') ?_ m0 ⟨σ,H,I,w0⟩)
 rintro n s1 ⟨σ1,H1,I1,w1⟩
 refine wpAny_passesOwn hp (thn (hc pins s1 σ1 H1 _ I1 (turn n σ1 H1 w1)) fun b s2 ⟨H2,I2,q2⟩=>?_)
 cases b with
 | true =>
  obtain⟨N,hN,q2⟩:=q2
  rw[if_pos rfl]
  refine wpAny_passesOwn hp (thn (hb pins s2 σ1 H2 _ I2 q2) fun f s3 q3=>?_)
  cases f with
  | next =>
   obtain⟨σ3,H3,I3,n3⟩:=q3
   obtain⟨m',hm,w3⟩:=hN σ3 H3 n3
   exact⟨m',hm,σ3,H3,I3,w3⟩
  | cont =>
   obtain⟨σ3,H3,I3,n3⟩:=q3
   obtain⟨m',hm,w3⟩:=hN σ3 H3 n3
   exact⟨m',hm,σ3,H3,I3,w3⟩
  | brk=>exact q3
  | ret v=>exact q3
 | false =>
  rw[if_neg Bool.false_ne_true]
  exact wpAny_execs_nil ⟨σ1,H2,I2,q2⟩
end
structure It where
 go:Nat→Hp→Prop
 yld:Nat→Hp→V→Hp→Prop
 stop:Nat→Hp→Prop
def FpOk(X:Cx)(pins:List (Addr×Obj))(H:Hp)(b:Addr):Prop :=
 H b=none∧b≠X.env.locals∧b∉X.fs∧(b∈X.ex∨X.s₀.heap.objs.size≤b)∧(∀x c,X.env.cells.lookup x=some c→c≠b)∧∀p∈X.pn++pins,p.1≠b
theorem Inv.fpOk{X:Cx}{pins:List (Addr×Obj)}{σ:St}{H H':Hp}{s:Shared}{b:Addr}(I:Inv X pins σ H s)(hb:s.heap.objs.size≤b)(hn:H' b=none):FpOk X pins H' b:=by
 refine⟨hn,Nat.ne_of_gt (Nat.lt_of_lt_of_le I.lt hb),I.nofs hb,.inr (Nat.le_trans I.sz hb),fun x c e z=>?_,fun p hp z=>?_⟩
 ·obtain ⟨v,q⟩:=I.cell x c e
  exact absurd (Nat.lt_of_lt_of_le q.lt (by rw[z];exact hb)) (Nat.lt_irrefl _)
 ·exact absurd (Nat.lt_of_lt_of_le (Heap.lt_size (I.pin p hp).1) (by rw [z]; exact hb)) (Nat.lt_irrefl _)
structure Turn(P:Program)(w:World)(K:PySem.W.Frag)(tg:Expr)(J:It)(fp:List Addr)(it:Addr)(tn:Nat→Heap→Prop):Prop where
 mem:it∈fp
 obj:∀i h,tn i h→∀b∈fp,∃o,h.get? b=some o∧∀v,o.data≠.cell v
 keep:∀i h h',tn i h→(∀b∈fp,∀o,h.get? b=some o→h'.get? b=some o)→tn i h'
 item:∀(X:Cx),X.prog=P→X.w=w→X.K=K→X.calm=true→∀(i:Nat)(pins:List (Addr×Obj))(s:Shared)(σ:St)(H:Hp)(E:Value→Shared→Prop),Inv X pins σ H s→(∀b∈fp,FpOk X pins H b)→tn i s.heap→J.go i H →
  wpAny (model P w) X.A (pyNext (.ref it)) (fun r s1=>∃ u,r=some u ∧
   wpAny (model P w) X.A (letOwnedTupleGo tg (.ref it) u) (fun _ s2=>∃ x H',Inv X pins σ H' s2∧RelV x u∧J.yld i H x H'∧tn (i + 1) s2.heap∧∀ b∈fp,H' b=none) E s1) E s
 done:∀(X:Cx),X.prog=P→X.w=w→X.K=K→X.calm=true→∀(i:Nat)(pins:List (Addr×Obj))(s:Shared)(σ:St)(H:Hp)(E:Value→Shared→Prop),Inv X pins σ H s→(∀b∈fp,FpOk X pins H b)→tn i s.heap→J.stop i H →
  wpAny (model P w) X.A (pyNext (.ref it)) (fun r s1=>r=none∧Inv X pins σ H s1) E s
 self:∀(A:Around)(i:Nat)(s:Shared)(Q:Value→Shared→Prop)(E:Value→Shared→Prop),tn i s.heap→Q (.ref it) s→wpAny (model P w) A (pyIter (.ref it)) Q E s
abbrev TI:=St→Hp→(It→Hp→Prop)→Prop
def PIE(X:Cx)(pins:List (Addr×Obj))(σ:St)(tg:Expr)(R:It→Hp→Prop)(itv:Value)(s2:Shared):Prop :=
 ∃(it:Addr)(fp:List Addr)(tn:Nat→Heap→Prop)(J:It)(H':Hp),itv=.ref it∧Inv X pins σ H' s2∧Turn X.prog X.w X.K tg J fp it tn∧tn 0 s2.heap∧(∀b∈fp,FpOk X pins H' b)∧R J H'
def PI(X:Cx)(tg iter:Expr)(wi:TI):Prop :=
 ∀(pins:List (Addr×Obj))(s:Shared)(σ:St)(H:Hp)(R:It→Hp→Prop),Inv X pins σ H s→wi σ H R →
  wpAny (model X.prog X.w) X.A (eval iter X.env) (fun v s1=>wpAny (model X.prog X.w) X.A (pyIter v) (PIE X pins σ tg R) X.xe s1) X.xe s
theorem go_of{M:Model}{A:Around}{E:Value→Shared→Prop}{s:Shared}{tg:Expr}{it:Addr}{u:Value}{o:Obj}{n:String}{vs:Array Value}{Q:Unit→Shared→Prop}(ho:s.heap.get? it=some o)(hc:o.cls=.type n)(hd:o.data=.fields vs)
  (hn:["enumerate","zip","dict_itemiterator","dict_reverseitemiterator","odict_iterator","itertools.zip_longest","itertools.pairwise"].contains n=false) (hQ:Q () s):wpAny M A (letOwnedTupleGo tg (.ref it) u) Q E s:=by
 unfold letOwnedTupleGo
 cases tg<;>first
  | exact wpAny_pure hQ
  | (cases u <;> first
    | exact wpAny_pure hQ
    | (refine wpAny_bind (wpAny_load ho ?_)
       rw[hc,hd]
       show wpAny M A (if (["enumerate","zip","dict_itemiterator","dict_reverseitemiterator","odict_iterator","itertools.zip_longest","itertools.pairwise"].contains n&&vs[0]?==some (rawInt _))=true then _ else _) Q E s
       rw[if_neg (by intro h;rw[hn,Bool.false_and]at h;cases h)]
       exact wpAny_pure hQ))
def Itl(K:PySem.W.Frag)(a:Addr):It :=
 ⟨fun i H=>∃xs x,SqL K H a xs∧xs[i]?=some x,fun i H x H'=>H'=H∧∀xs,SqL K H a xs→xs[i]?=some x,fun i H=>∃xs,SqL K H a xs∧xs.length≤i⟩
def Itt(K:PySem.W.Frag)(a:Addr):It :=
 ⟨fun i H=>∃xs x,SqT K H a xs∧xs[i]?=some x,fun i H x H'=>H'=H∧∀xs,SqT K H a xs→xs[i]?=some x,fun i H=>∃xs,SqT K H a xs∧xs.length≤i⟩
def Itr(lo:Int)(n:Nat):It:=⟨fun i _=>i<n,fun i H x H'=>H'=H∧x=.int (lo+i),fun i _=>n≤i⟩
theorem turn_list{P:Program}{w:World}{K:PySem.W.Frag}{tg:Expr}(a it:Addr):Turn P w K tg (Itl K a) [it] it (fun i h=>h.IsListIter it a i) where
 mem:=by simp
 obj:=fun i h st b hb=>by
  have e:b=it:=by simpa using hb
  subst e
  obtain⟨o,e,c,d⟩:=st
  exact⟨o,e,fun v z=>by rw[d]at z;cases z⟩
 keep:=fun i h h' st k=>st.at fun o e=>k it (by simp) o e
 item:=by
  intro X hP hw hK hc i pins s σ H E I hf st hg
  subst hP hw hK
  obtain⟨xs,x,hq,hx⟩:=hg
  obtain⟨its,rv,p,hz⟩:=I.list hq
  obtain⟨u,hu,ru⟩:=rv.get hx
  obtain⟨f0,f1,f2,f3,f4,f5⟩:=hf it (by simp)
  refine wpAny_pyNext_list_item st p.isList (x:=u) (by simpa using hu) fun h' st' sb=>?_
  have I1:Inv X pins σ H { s with heap:=h' }:=I.turned (t':=s.toks) (fun b o hb e=>(sb.2 b hb).trans e) f0 f1 f3 f4 f5
  obtain⟨o,e,c,d⟩:=id st'
  exact⟨u,rfl,go_of (s:={ s with heap:=h' }) e c d (by decide) ⟨x,H,I1,ru,⟨rfl,fun ys hy=>by rw[I.list_inj hy hq];exact hx⟩,st',fun b hb=>(hf b hb).1⟩⟩
 done:=by
  intro X hP hw hK hc i pins s σ H E I hf st hg
  subst hP hw hK
  obtain⟨xs,hq,hx⟩:=hg
  obtain⟨its,rv,p,hz⟩:=I.list hq
  obtain⟨f0,f1,f2,f3,f4,f5⟩:=hf it (by simp)
  have hl:=rv.length
  exact wpAny_pyNext_list_end (I.ok.hd hc) st p.isList (by simp;omega) fun h' eb=>⟨rfl,I.turned (t':=s.toks) (fun b o hb e=>eb b o hb e) f0 f1 f3 f4 f5⟩
 self:=fun _ _ _ _ _ st h=>wpAny_pyIter_listiter st h
theorem turn_tuple{P:Program}{w:World}{K:PySem.W.Frag}{tg:Expr}(a it:Addr):Turn P w K tg (Itt K a) [it] it (fun i h=>h.IsTupleIter it a i) where
 mem:=by simp
 obj:=fun i h st b hb=>by
  have e:b=it:=by simpa using hb
  subst e
  obtain⟨o,e,c,d⟩:=st
  exact⟨o,e,fun v z=>by rw[d]at z;cases z⟩
 keep:=fun i h h' st k=>st.at fun o e=>k it (by simp) o e
 item:=by
  intro X hP hw hK hc i pins s σ H E I hf st hg
  subst hP hw hK
  obtain⟨xs,x,hq,hx⟩:=hg
  obtain⟨its,rv,p,hz⟩:=I.tuple hq
  obtain⟨u,hu,ru⟩:=rv.get hx
  obtain⟨f0,f1,f2,f3,f4,f5⟩:=hf it (by simp)
  refine wpAny_pyNext_tuple_item st (show s.heap.IsTuple a its.toArray from p) (x:=u) (by simpa using hu) fun h' st' sb=>?_
  have I1:Inv X pins σ H { s with heap:=h' }:=I.turned (t':=s.toks) (fun b o hb e=>(sb.2 b hb).trans e) f0 f1 f3 f4 f5
  obtain⟨o,e,c,d⟩:=id st'
  exact⟨u,rfl,go_of (s:={ s with heap:=h' }) e c d (by decide) ⟨x,H,I1,ru,⟨rfl,fun ys hy=>by rw[I.tuple_inj hy hq];exact hx⟩,st',fun b hb=>(hf b hb).1⟩⟩
 done:=by
  intro X hP hw hK hc i pins s σ H E I hf st hg
  subst hP hw hK
  obtain⟨xs,hq,hx⟩:=hg
  obtain⟨its,rv,p,hz⟩:=I.tuple hq
  obtain⟨f0,f1,f2,f3,f4,f5⟩:=hf it (by simp)
  have hl:=rv.length
  exact wpAny_pyNext_tuple_end (I.ok.hd hc) st (show s.heap.IsTuple a its.toArray from p) (by simp;omega) fun h' eb=>⟨rfl,I.turned (t':=s.toks) (fun b o hb e=>eb b o hb e) f0 f1 f3 f4 f5⟩
 self:=fun _ _ _ _ _ st h=>wpAny_pyIter_tupleiter st h
theorem turn_range{P:Program}{w:World}{K:PySem.W.Frag}{tg:Expr}(it:Addr)(lo:Int)(n:Nat):Turn P w K tg (Itr lo n) [it] it (fun i h=>IsRangeIter h it (lo+(i:Nat)*1) ((n:Int)-(i:Nat)) 1) where
 mem:=by simp
 obj:=fun i h st b hb=>by
  have e:b=it:=by simpa using hb
  subst e
  exact ⟨_,st,fun v z=>by
   have z':Data.fields _=Data.cell v:=z
   cases z'⟩
 keep:=fun i h h' st k=>k it (by simp) _ st
 item:=by
  intro X hP hw hK hc i pins s σ H E I hf st hg
  subst hP hw hK
  obtain⟨f0,f1,f2,f3,f4,f5⟩:=hf it (by simp)
  have W:=Walks.range (prog:=X.prog) (w:=X.w) (I.ok.hd hc) it lo 1 n
  refine W.item i s _ _ hg st fun v h' tk hv st' kk=>?_
  obtain⟨t,rfl⟩:=hv
  have I1:Inv X pins σ H { s with heap:=h',toks:=tk }:=I.turned (fun b o hb e=>kk b o (by simpa using hb) e) f0 f1 f3 f4 f5
  refine⟨_,rfl,go_of (s:={ s with heap:=h',toks:=tk }) (n:="range_iterator") st' rfl rfl (by decide) ⟨.int (lo+i),H,I1,⟨t,?_⟩,⟨rfl,rfl⟩,st',fun b hb=>(hf b hb).1⟩⟩
  rw[Int.mul_one]
 done:=by
  intro X hP hw hK hc i pins s σ H E I hf st hg
  subst hP hw hK
  obtain⟨f0,f1,f2,f3,f4,f5⟩:=hf it (by simp)
  exact wpAny_pyNext_range_end (I.ok.hd hc) st (by have:n≤i:=hg;omega) fun h' eb=>⟨rfl,I.turned (t':=s.toks) (fun b o hb e=>eb b o hb e) f0 f1 f3 f4 f5⟩
 self:=fun _ _ _ _ _ st h=>wpAny_pyIter_rangeiter st h
end L2
namespace L2
open PySem PySem.Spec PyProof.Rows
section
variable{X:Cx}{tg:Expr}
def iList(K:PySem.W.Frag)(tl:TE):TI:=fun σ H R=>tl σ H fun x H1=>∃a,x=.ref a∧(∃xs,SqL K H1 a xs)∧R (Itl K a) H1
def iTup(K:PySem.W.Frag)(tl:TE):TI:=fun σ H R=>tl σ H fun x H1=>∃a,x=.ref a∧(∃xs,SqT K H1 a xs)∧R (Itt K a) H1
theorem JR{l:Expr}{tl:TE}(hl:PE X l tl):PI X tg l (iList X.K tl):=by
 intro pins s σ H R I h
 refine thn (hl pins s σ H _ I h) fun v s1 ⟨x,H1,I1,r1,q1⟩=>?_
 obtain⟨a,e,⟨xs,hq⟩,q⟩:=q1
 subst e
 cases r1
 obtain⟨its,rv,p,hz⟩:=I1.list hq
 refine wpAny_pyIter_list p.isList ?_
 refine⟨s1.heap.objs.size,[s1.heap.objs.size],_,_,H1,rfl,I1.kept (t':=s1.toks) fun b o e=>Heap.get?_push_of_some _ e,turn_list a _,⟨_,Heap.get?_push_size _ rfl,rfl,rfl⟩,fun b hb=>?_,q⟩
 have e:b=s1.heap.objs.size:=by simpa using hb
 subst e
 exact I1.fpOk (Nat.le_refl _) (I1.hok.fresh (Nat.le_refl _))
theorem YC{l:Expr}{tl:TE}(hl:PE X l tl):PI X tg l (iTup X.K tl):=by
 intro pins s σ H R I h
 refine thn (hl pins s σ H _ I h) fun v s1 ⟨x,H1,I1,r1,q1⟩=>?_
 obtain⟨a,e,⟨xs,hq⟩,q⟩:=q1
 subst e
 cases r1
 obtain⟨its,rv,p,hz⟩:=I1.tuple hq
 refine wpAny_pyIter_tuple (show s1.heap.IsTuple a its.toArray from p) ?_
 refine⟨s1.heap.objs.size,[s1.heap.objs.size],_,_,H1,rfl,I1.kept (t':=s1.toks) fun b o e=>Heap.get?_push_of_some _ e,turn_tuple a _,⟨_,Heap.get?_push_size _ rfl,rfl,rfl⟩,fun b hb=>?_,q⟩
 have e:b=s1.heap.objs.size:=by simpa using hb
 subst e
 exact I1.fpOk (Nat.le_refl _) (I1.hok.fresh (Nat.le_refl _))
theorem range_it{pins:List (Addr×Obj)}{σ:St}{H:Hp}{s:Shared}{R:It→Hp→Prop}{E:Value→Shared→Prop}{lo hi:Int}{t u v:Tok}{tk:Nat}(I:Inv X pins σ H s)(h1:-(2^62)≤lo)(h2:lo<2^62)(h3:-(2^62)≤hi)(h4:hi<2^62)
  (q:R (Itr lo (hi-lo).toNat) H):wpAny (model X.prog X.w) X.A (pyIter (.ref s.heap.objs.size)) (PIE X pins σ tg R) E { s with heap:=s.heap.push { cls:=.type "range",data:=.fields #[.int lo t,.int hi u,.int 1 v] },toks:=tk }:=by
 refine wpAny_pyIter_range (IsRange.new ..) (small_one h1 h2 h3 h4) ?_
 have I1:Inv X pins σ H { s with heap:=s.heap.push { cls:=.type "range",data:=.fields #[.int lo t,.int hi u,.int 1 v] },toks:=tk }:=I.kept fun b o e=>Heap.get?_push_of_some _ e
 refine ⟨(s.heap.push { cls:=.type "range",data:=.fields #[.int lo t,.int hi u,.int 1 v] }).objs.size,[(s.heap.push { cls:=.type "range",data:=.fields #[.int lo t,.int hi u,.int 1 v] }).objs.size],_,_,H,rfl,
  I1.kept (t':=tk) fun b o e=>Heap.get?_push_of_some _ e,turn_range _ lo (hi - lo).toNat,?_,fun b hb=>?_,q⟩
 ·have e1:lo + ((0:Nat):Int) * 1=lo:=by simp
  have e2:(((hi-lo).toNat:Nat):Int)-((0:Nat):Int)=Builtin.Range.rangeSize lo hi 1:=by rw[rangeSize_one];split<;>omega
  show IsRangeIter _ _ (lo+((0:Nat):Int)*1) ((((hi-lo).toNat:Nat):Int)-((0:Nat):Int)) 1
  rw[e1,e2]
  exact Heap.get?_push_size _ rfl
 ·have e:b=(s.heap.push { cls:=.type "range",data:=.fields #[.int lo t,.int hi u,.int 1 v] }).objs.size:=by simpa using hb
  subst e
  exact I1.fpOk (Nat.le_refl _) (I1.hok.fresh (Nat.le_refl _))
def iRng1(ta:TA):TI:=fun σ H R=>ta σ H fun vs H1=>∃j:Int,vs=[.int j]∧-(2^62)≤j∧j<2^62∧R (Itr 0 j.toNat) H1
theorem JQ{a:Expr}{ta:TA}{p pos:Pos}(hg:Gl X "range")(hm:X.mg "range"=none)(ha:PA X [a] ta)(hs:starEach [a] X.env=[(false,eval a X.env)]:=by rfl):PI X tg (.Call (.Name "range" p) [a] [] pos) (iRng1 ta):=by
 intro pins s σ H R I h
 refine Call_ (ZB I hg hm boot_range (PyProof.Rows.callWith_type1 (thn (ha pos pins s σ H _ I h) fun us s1 ⟨vs,H1,I1,r1,q1⟩=>?_) hs rfl))
 obtain⟨j,e,q1,q2,q⟩:=q1
 subst e
 cases r1 with
 | cons r rr =>
  cases rr
  obtain⟨t,rfl⟩:=r
  exact call_range_1 (range_it I1 (by omega) (by omega) q1 q2 (by simpa using q))
def tFor(wi:TI)(g:TG)(tb:TS):TS:=fun D σ H=>wi σ H fun J H1=>∃W:Nat→Nat→St→Hp→Prop,(∃m,W 0 m σ H1)∧∀i m σ H,W i m σ H →
 (J.stop i H∧D.nx σ H)∨(J.go i H∧∃N:St→Hp→Prop,(∀σ' H',N σ' H'→∃m',m'<m∧W (i+1) m' σ' H')∧∀x H',J.yld i H x H'→g x σ H' fun σ2 H2=>tb { D with nx:=N,ct:=N,bk:=D.nx } σ2 H2)
def ZT(fp:List Addr)(h:Heap):List (Addr×Obj):=fp.filterMap fun b=>(h.get? b).map fun o=>(b,o)
theorem ZV{fp:List Addr}{h:Heap}{b:Addr}{o:Obj}(hb:b∈fp)(e:h.get? b=some o):(b,o)∈ZT fp h:=List.mem_filterMap.mpr ⟨b,hb,by rw[e];rfl⟩
theorem of_pinsAt{fp:List Addr}{h:Heap}{p:Addr×Obj}(hp:p∈ZT fp h):p.1∈fp∧h.get? p.1=some p.2:=by
 obtain⟨b,hb,e⟩:=List.mem_filterMap.mp hp
 cases q:h.get? b with
 | none=>rw [q] at e; cases e
 | some o =>
  rw[q]at e
  have e':(b,o)=p:=Option.some.inj e
  subst e'
  exact⟨hb,q⟩
theorem Inv.pinned{pins:List (Addr×Obj)}{σ:St}{H:Hp}{s:Shared}{fp:List Addr}(I:Inv X pins σ H s)(hf:∀b∈fp,FpOk X pins H b)(ho:∀b∈fp,∃o,s.heap.get? b=some o∧∀v,o.data≠.cell v):Inv X (pins++ZT fp s.heap) σ H s :=
 I.pins_of fun p hp=>(List.mem_append.mp hp).elim (fun z=>I.pin p (List.mem_append_right _ z)) fun z=>by
  obtain⟨hb,e⟩:=of_pinsAt z
  obtain⟨f0,f1,f2,_⟩:=hf p.1 hb
  obtain⟨o,e',d⟩:=ho p.1 hb
  rw[e]at e';cases e'
  exact⟨e,f0,f1,f2,d⟩
theorem Inv.unpinned{pins pl:List (Addr×Obj)}{σ:St}{H:Hp}{s:Shared}(I:Inv X (pins++pl) σ H s):Inv X pins σ H s:=I.pins_of fun p hp=>I.pin p (List.mem_append_right _ (List.mem_append_left _ hp))
theorem Yi{iter:Expr}{body:List Stmt}{wi:TI}{g:TG}{tb:TS}{pos:Pos}(hp:PassesOwn (model X.prog X.w) X.A X.env X.xe)(hc:X.calm=true)(hi:PI X tg iter wi)(hg:PG X tg g)(hb:PSs X body tb)
  (hs:∀x,foldedSetIterable iter X.env x=pure x:=by intro _;rfl):PS X (.For tg iter body [] pos) (tFor wi g tb):=by
 intro pins s σ H D I h
 refine wpAny_For (thn (hi pins s σ H _ I h) fun v s1 h1=>thn h1 fun itv s2 h2=>?_) hs
 obtain⟨it,fp,tn,J,H2,e,I2,T,st2,f2,W,⟨m0,w0⟩,turn⟩:=h2
 subst e
 -- what stays true of the iterator's objects through the loop
 have stat:∀{H':Hp},(∀b∈fp,H' b=none)→∀b∈fp,FpOk X pins H' b:=fun hn b hb=>⟨hn b hb,(f2 b hb).2⟩
 refine codeAny_forLoop_any (fun n s'=>∃i σ' H',Inv X pins σ' H' s'∧tn i s'.heap∧(∀b∈fp,H' b=none)∧W i n σ' H') ?_ m0 ⟨0,σ,H2,I2,st2,fun b hb=>(f2 b hb).1,w0⟩
 rintro n s3 ⟨i,σ3,H3,I3,st3,fr3,w3⟩
 rcases turn i n σ3 H3 w3 with⟨stop,qn⟩|⟨go,N,hN,step⟩
 ·refine wpAny_passesOwn hp (thn (T.done X rfl rfl rfl hc i pins s3 σ3 H3 X.xe I3 (stat fr3) st3 stop) fun r s4 ⟨hr,I4⟩=>?_)
  subst hr
  exact wpAny_execs_nil ⟨σ3,H3,I4,qn⟩
 ·refine wpAny_passesOwn hp (thn (T.item X rfl rfl rfl hc i pins s3 σ3 H3 X.xe I3 (stat fr3) st3 go) fun r s4 ⟨u,hr,h4⟩=>?_)
  subst hr
  refine wpAny_passesOwn hp (thn h4 fun _ s5 ⟨x,H5,I5,r5,y5,st5,fr5⟩=>?_)
  have I5':=I5.pinned (stat fr5) (T.obj _ _ st5)
  refine wpAny_passesOwn hp (thn (hg _ s5 σ3 H5 x u _ I5' r5 (step x H5 y5)) fun _ s6 ⟨σ6,H6,I6,q6⟩=>?_)
  refine wpAny_passesOwn hp (thn (hb _ s6 σ6 H6 _ I6 q6) fun f s7 q7=>?_)
  have again:∀{σ7:St}{H7:Hp},Inv X (pins++ZT fp s5.heap) σ7 H7 s7→N σ7 H7→∃m,m<n∧∃i σ' H',Inv X pins σ' H' s7∧tn i s7.heap∧(∀b∈fp,H' b=none)∧W i m σ' H':=fun {σ7 H7} I7 n7=>by
   obtain⟨m',hm,w7⟩:=hN σ7 H7 n7
   refine⟨m',hm,i+1,σ7,H7,I7.unpinned,T.keep _ _ _ st5 fun b hb o e=>(I7.pin (b,o) (List.mem_append_right _ (List.mem_append_right _ (ZV hb e)))).1,fun b hb=>?_,w7⟩
   obtain⟨o,e,d⟩:=T.obj _ _ st5 b hb
   exact(I7.pin (b,o) (List.mem_append_right _ (List.mem_append_right _ (ZV hb e)))).2.1
  cases f with
  | next=>obtain ⟨σ7,H7,I7,n7⟩:=q7; exact again I7 n7
  | cont=>obtain ⟨σ7,H7,I7,n7⟩:=q7; exact again I7 n7
  | brk=>obtain ⟨σ7,H7,I7,q7⟩:=q7; exact ⟨σ7,H7,I7.unpinned,q7⟩
  | ret v=>obtain ⟨x7,σ7,H7,I7,r7,q7⟩:=q7; exact ⟨x7,σ7,H7,I7.unpinned,r7,q7⟩
end
theorem YO{K:PySem.W.Frag}{a:Addr}{xs:List V}{g:TG}{tb:TS}{D:Ends}{σ:St}{H:Hp}(Pv:Nat→St→Hp→Prop)(h0:Pv 0 σ H)(hl:∀i σ H,i≤xs.length→Pv i σ H→SqL K H a xs)
  (hs:∀i x σ H,xs[i]?=some x→Pv i σ H→g x σ H fun σ2 H2=>tb { D with nx:=Pv (i+1),ct:=Pv (i+1),bk:=D.nx } σ2 H2) (hd:∀σ H,Pv xs.length σ H→D.nx σ H) :
  ∃W:Nat→Nat→St→Hp→Prop,(∃m,W 0 m σ H)∧∀i m σ H,W i m σ H →
   ((Itl K a).stop i H∧D.nx σ H)∨((Itl K a).go i H∧∃N:St→Hp→Prop,(∀σ' H',N σ' H'→∃m',m'<m∧W (i+1) m' σ' H')∧∀x H',(Itl K a).yld i H x H'→g x σ H' fun σ2 H2=>tb { D with nx:=N,ct:=N,bk:=D.nx } σ2 H2):=by
 refine⟨fun i m σ H=>m=xs.length-i∧i≤xs.length∧Pv i σ H,⟨xs.length,by simp,Nat.zero_le _,h0⟩,?_⟩
 rintro i m σ H ⟨rfl,hi,p⟩
 have q:=hl i σ H hi p
 by_cases hlt:i<xs.length
 ·refine .inr ⟨⟨xs,xs[i],q,by simp [hlt]⟩,Pv (i + 1),fun σ' H' p'=>⟨xs.length - (i + 1),by omega,rfl,hlt,p'⟩,fun x H' y=>?_⟩
  obtain⟨e,y⟩:=y
  subst e
  exact hs i x σ _ (y xs q) p
 ·have e:i=xs.length:=by omega
  subst e
  exact .inl ⟨⟨xs,q,Nat.le_refl _⟩,hd σ H p⟩
theorem Qb{K:PySem.W.Frag}{a:Addr}{xs:List V}{g:TG}{tb:TS}{D:Ends}{σ:St}{H:Hp}(Pv:Nat→St→Hp→Prop)(h0:Pv 0 σ H)(hl:∀i σ H,i≤xs.length→Pv i σ H→SqT K H a xs)
  (hs:∀i x σ H,xs[i]?=some x→Pv i σ H→g x σ H fun σ2 H2=>tb { D with nx:=Pv (i+1),ct:=Pv (i+1),bk:=D.nx } σ2 H2) (hd:∀σ H,Pv xs.length σ H→D.nx σ H) :
  ∃W:Nat→Nat→St→Hp→Prop,(∃m,W 0 m σ H)∧∀i m σ H,W i m σ H →
   ((Itt K a).stop i H∧D.nx σ H)∨((Itt K a).go i H∧∃N:St→Hp→Prop,(∀σ' H',N σ' H'→∃m',m'<m∧W (i+1) m' σ' H')∧∀x H',(Itt K a).yld i H x H'→g x σ H' fun σ2 H2=>tb { D with nx:=N,ct:=N,bk:=D.nx } σ2 H2):=by
 refine⟨fun i m σ H=>m=xs.length-i∧i≤xs.length∧Pv i σ H,⟨xs.length,by simp,Nat.zero_le _,h0⟩,?_⟩
 rintro i m σ H ⟨rfl,hi,p⟩
 have q:=hl i σ H hi p
 by_cases hlt:i<xs.length
 ·refine .inr ⟨⟨xs,xs[i],q,by simp [hlt]⟩,Pv (i + 1),fun σ' H' p'=>⟨xs.length - (i + 1),by omega,rfl,hlt,p'⟩,fun x H' y=>?_⟩
  obtain⟨e,y⟩:=y
  subst e
  exact hs i x σ _ (y xs q) p
 ·have e:i=xs.length:=by omega
  subst e
  exact .inl ⟨⟨xs,q,Nat.le_refl _⟩,hd σ H p⟩
theorem UB{lo:Int}{n:Nat}{g:TG}{tb:TS}{D:Ends}{σ:St}{H:Hp}(Pv:Nat→St→Hp→Prop)(h0:Pv 0 σ H)
  (hs:∀i σ H,i<n→Pv i σ H→g (.int (lo+i)) σ H fun σ2 H2=>tb { D with nx:=Pv (i+1),ct:=Pv (i+1),bk:=D.nx } σ2 H2) (hd:∀σ H,Pv n σ H→D.nx σ H) :
  ∃W:Nat→Nat→St→Hp→Prop,(∃m,W 0 m σ H)∧∀i m σ H,W i m σ H →
   ((Itr lo n).stop i H∧D.nx σ H)∨((Itr lo n).go i H∧∃N:St→Hp→Prop,(∀σ' H',N σ' H'→∃m',m'<m∧W (i+1) m' σ' H')∧∀x H',(Itr lo n).yld i H x H'→g x σ H' fun σ2 H2=>tb { D with nx:=N,ct:=N,bk:=D.nx } σ2 H2):=by
 refine⟨fun i m σ H=>m=n-i∧i≤n∧Pv i σ H,⟨n,by simp,Nat.zero_le _,h0⟩,?_⟩
 rintro i m σ H ⟨rfl,hi,p⟩
 by_cases hlt:i<n
 ·refine .inr ⟨hlt,Pv (i + 1),fun σ' H' p'=>⟨n - (i + 1),by omega,rfl,hlt,p'⟩,fun x H' y=>?_⟩
  obtain⟨e,y⟩:=y
  subst e y
  exact hs i σ _ hlt p
 ·have e:i=n:=by omega
  subst e
  exact .inl ⟨Nat.le_refl _,hd σ H p⟩
end L2
namespace L2
open PySem PySem.Spec PyProof.Rows
abbrev R2:=V→V→Hp→VK→Prop
def OpR(X:Cx)(f:Value→Value→Sem Value)(r:R2):Prop :=
 ∀(pins:List (Addr×Obj))(s:Shared)(σ:St)(H:Hp)(x y:V)(v u:Value)(Q:VK),Inv X pins σ H s→RelV x v→RelV y u→r x y H Q →
  wpAny (model X.prog X.w) X.A (f v u) (EP X pins σ Q) X.xe s
def UnR(X:Cx)(f:Value→Sem Value)(r:V→Hp→VK→Prop):Prop :=
 ∀(pins:List (Addr×Obj))(s:Shared)(σ:St)(H:Hp)(x:V)(v:Value)(Q:VK),Inv X pins σ H s→RelV x v→r x H Q →
  wpAny (model X.prog X.w) X.A (f v) (EP X pins σ Q) X.xe s
def Yo(X:Cx)(f:Value)(r:List V→Hp→VK→Prop):Prop :=
 ∀(pins:List (Addr×Obj))(s:Shared)(σ:St)(H:Hp)(xs:List V)(us:List Value)(Q:VK),Inv X pins σ H s→Vals xs us→r xs H Q →
  wpAny (model X.prog X.w) X.A (call f us) (EP X pins σ Q) X.xe s
def tOp(r:R2)(ta tb:TE):TE:=fun σ H Q=>ta σ H fun x H1=>tb σ H1 fun y H2=>r x y H2 Q
def tUn(r:V→Hp→VK→Prop)(ta:TE):TE:=fun σ H Q=>ta σ H fun x H1=>r x H1 Q
def rI(C:Int→Int→Prop)(g:Int→Int→V):R2:=fun x y H Q=>∃i j,x=.int i∧y=.int j∧C i j∧Q (g i j) H
def rI0(g:Int→Int→V):R2:=fun x y H Q=>∃i j,x=.int i∧y=.int j∧Q (g i j) H
def rU(g:Int→V):V→Hp→VK→Prop:=fun x H Q=>∃i,x=.int i∧Q (g i) H
section
variable{X:Cx}{a b c:Expr}{ta tb tc:TE}{pos:Pos}
theorem binT(ha:PE X a ta)(hb:PE X b tb){pins:List (Addr×Obj)}{s:Shared}{σ:St}{H:Hp}{R:V→V→Hp→Prop}(I:Inv X pins σ H s)
  (h:ta σ H fun x H1=>tb σ H1 fun y H2=>R x y H2) {Q:Value→Shared→Prop} {f:Value→Value→Sem Value}
  (hf:∀v u s2 x y H2,Inv X pins σ H2 s2→RelV x v→RelV y u→R x y H2→wpAny (model X.prog X.w) X.A (f v u) Q X.xe s2) :
  wpAny (model X.prog X.w) X.A (eval a X.env) (fun v s₁=>wpAny (model X.prog X.w) X.A (eval b X.env) (fun u s₂=>wpAny (model X.prog X.w) X.A (f v u) Q X.xe s₂) X.xe s₁) X.xe s:=by
 refine thn (ha pins s σ H _ I h) fun v s1 ⟨x,H1,I1,r1,q1⟩=>?_
 refine thn (hb pins s1 σ H1 _ I1 q1) fun u s2 ⟨y,H2,I2,r2,q2⟩=>?_
 exact hf v u s2 x y H2 I2 r1 r2 q2
theorem JM{op:Operator}{r:R2}(ho:OpR X (binaryOp op) r)(ha:PE X a ta)(hb:PE X b tb):PE X (.BinOp a op b pos) (tOp r ta tb):=by
 intro pins s σ H Q I h
 exact wpAny_BinOp (binT ha hb I h fun v u s2 x y H2 I2 rx ry q=>ho pins s2 σ H2 x y v u Q I2 rx ry q)
theorem pe_un{op:UnaryOp}{r:V→Hp→VK→Prop}(ho:UnR X (unaryOp op) r)(ha:PE X a ta):PE X (.UnaryOp op a pos) (tUn r ta):=by
 intro pins s σ H Q I h
 exact UnaryOp_ (thn (ha pins s σ H _ I h) fun v s1 ⟨x,H1,I1,r1,q1⟩=>ho pins s1 σ H1 x v Q I1 r1 q1)
theorem opI{f:Value→Value→Sem Value}{C:Int→Int→Prop}{g:Int→Int→Int}
  (rule:∀(i j:Int)(t u:Tok)(s:Shared)(Q:Value→Shared→Prop)(E:Value→Shared→Prop),C i j→Q (.int (g i j) s.toks) { s with toks:=s.toks+1 }→wpAny (model X.prog X.w) X.A (f (.int i t) (.int j u)) Q E s) :
  OpR X f (rI C fun i j=>.int (g i j)):=by
 intro pins s σ H x y v u Q I rx ry h
 obtain⟨i,j,rfl,rfl,hc,q⟩:=h
 obtain⟨t,rfl⟩:=rx
 obtain⟨t',rfl⟩:=ry
 exact rule i j t t' s _ _ hc ⟨.int (g i j),H,I.tok _,⟨_,rfl⟩,q⟩
theorem opI0{f:Value→Value→Sem Value}{g:Int→Int→Int}
  (rule:∀(i j:Int)(t u:Tok)(s:Shared)(Q:Value→Shared→Prop)(E:Value→Shared→Prop),Q (.int (g i j) s.toks) { s with toks:=s.toks+1 }→wpAny (model X.prog X.w) X.A (f (.int i t) (.int j u)) Q E s) :
  OpR X f (rI0 fun i j=>.int (g i j)):=by
 intro pins s σ H x y v u Q I rx ry h
 obtain⟨i,j,rfl,rfl,q⟩:=h
 obtain⟨t,rfl⟩:=rx
 obtain⟨t',rfl⟩:=ry
 exact rule i j t t' s _ _ ⟨.int (g i j),H,I.tok _,⟨_,rfl⟩,q⟩
theorem opB0{f:Value→Value→Sem Value}{g:Int→Int→Bool}
  (rule:∀(i j:Int)(t u:Tok)(s:Shared)(Q:Value→Shared→Prop)(E:Value→Shared→Prop),Q (.bool (g i j)) s→wpAny (model X.prog X.w) X.A (f (.int i t) (.int j u)) Q E s) :
  OpR X f (rI0 fun i j=>.bl (g i j)):=by
 intro pins s σ H x y v u Q I rx ry h
 obtain⟨i,j,rfl,rfl,q⟩:=h
 obtain⟨t,rfl⟩:=rx
 obtain⟨t',rfl⟩:=ry
 exact rule i j t t' s _ _ ⟨.bl (g i j),H,I,rfl,q⟩
def CDiv(i j:Int):Prop:=0<j∧j<1073741824
def CPow(i j:Int):Prop:=0≤j∧j≤1000000∧i.natAbs<2^64
def CMul(i j:Int):Prop:=(-(2^64)<i∧i<2^64)∨(-(2^64)<j∧j<2^64)
theorem CMul.ok{i j:Int}(h:CMul i j):IntMulOk i j:=by
 rcases h with⟨h1,h2⟩|⟨h1,h2⟩
 ·exact .of_left (intBits_le_64 h1 h2)
 ·exact .of_right (intBits_le_64 h1 h2)
theorem two_pow_nn(k:Nat):(0:Int)≤2^k:=by
 rw[two_pow_cast]
 exact Int.natCast_nonneg _
theorem ZU:OpR X (binaryOp .Add) (rI0 fun i j=>.int (i+j)):=opI0 fun _ _ _ _ _ _ _ q=>add_int q
theorem op_sub:OpR X (binaryOp .Sub) (rI0 fun i j=>.int (i-j)):=opI0 fun _ _ _ _ _ _ _ q=>sub_int q
theorem op_mul:OpR X (binaryOp .Mult) (rI CMul fun i j=>.int (i*j)):=opI fun _ _ _ _ _ _ _ hc q=>mul_int q hc.ok
theorem op_fdiv:OpR X (binaryOp .FloorDiv) (rI CDiv fun i j=>.int (i/j)):=opI fun i j _ _ _ _ _ hc q=>by
 have h1:(0:Int)<j:=hc.1
 have h2:j<1073741824:=hc.2
 exact floordiv_int (by omega) (by rw[Int.fdiv_eq_ediv_of_nonneg i (by omega)];exact q) (.inl (PyProof.noPylong_small (by omega)))
theorem ZA:OpR X (binaryOp .Mod) (rI (fun _ j=>0<j) fun i j=>.int (i%j)):=opI fun i j _ _ _ _ _ hc q=>by
 have h1:(0:Int)<j:=hc
 exact mod_int' (by omega) (by rw[Int.fmod_eq_emod_of_nonneg i (by omega)];exact q)
theorem op_pow:OpR X (binaryOp .Pow) (rI CPow fun i j=>.int (i^j.toNat)):=opI fun _ _ _ _ _ _ _ hc q=>pow_int_small hc.1 hc.2.1 hc.2.2 q
theorem op_shl:OpR X (binaryOp .LShift) (rI CPow fun i j=>.int (i*2^j.toNat)):=opI fun _ _ _ _ _ _ _ hc q=>lshift_int_small hc.1 hc.2.1 hc.2.2 q
theorem op_shr:OpR X (binaryOp .RShift) (rI (fun _ j=>0≤j) fun i j=>.int (i/2^j.toNat)):=opI fun i j _ _ _ _ _ hc q =>
 rshift_int hc (by rw[Int.fdiv_eq_ediv_of_nonneg i (two_pow_nn _)];exact q)
theorem op_and:OpR X (binaryOp .BitAnd) (rI0 fun i j=>.int (Builtin.bitAnd i j)):=opI0 fun _ _ _ _ _ _ _ q=>and_int q
theorem unI{f:Value→Sem Value}{g:Int→Int}
  (rule:∀(i:Int)(t:Tok)(s:Shared)(Q:Value→Shared→Prop)(E:Value→Shared→Prop),Q (.int (g i) s.toks) { s with toks:=s.toks+1 }→wpAny (model X.prog X.w) X.A (f (.int i t)) Q E s) :
  UnR X f (rU fun i=>.int (g i)):=by
 intro pins s σ H x v Q I rx h
 obtain⟨i,rfl,q⟩:=h
 obtain⟨t,rfl⟩:=rx
 exact rule i t s _ _ ⟨.int (g i),H,I.tok _,⟨_,rfl⟩,q⟩
theorem un_neg:UnR X (unaryOp .USub) (rU fun i=>.int (-i)):=unI fun _ _ _ _ _ q=>neg_int q
end
def scal:V→V→Bool
 | .non,.non=>true | .non,.int _=>true | .int _,.non=>true | .non,.bl _=>true | .bl _,.non=>true | .non,.str _=>true | .str _,.non=>true
 | .int _,.int _=>true | .bl _,.bl _=>true | .str _,.str _=>true | .byt _,.byt _=>true
 | .int _,.str _=>true | .str _,.int _=>true | .bl _,.str _=>true | .str _,.bl _=>true
 | _,_=>false
def rEq:R2:=fun x y H Q=>scal x y=true∧Q (.bl (decide (x=y))) H
def rNe:R2:=fun x y H Q=>scal x y=true∧Q (.bl (!decide (x=y))) H
theorem dec_int{i j:Int}:decide (V.int i=V.int j)=(i==j):=by
 rw[Bool.eq_iff_iff]
 simp
theorem dec_bl{i j:Bool}:decide (V.bl i=V.bl j)=(i==j):=by
 rw[Bool.eq_iff_iff]
 simp
theorem dec_str{i j:Str}:decide (V.str i=V.str j)=(i==j):=by
 rw[Bool.eq_iff_iff]
 simp
theorem dec_byt{i j:Array UInt8}:decide (V.byt i=V.byt j)=(i.toList==j.toList):=by
 rw[Bool.eq_iff_iff]
 cases i
 cases j
 simp
section
variable{X:Cx}{a b c:Expr}{ta tb tc:TE}{pos:Pos}
theorem JF{pins:List (Addr×Obj)}{σ:St}{H:Hp}{s:Shared}{Q:VK}{k k':Bool}(I:Inv X pins σ H s)(q:Q (.bl k) H)(e:k=k'):EP X pins σ Q (.bool k') s:=by
 subst e
 exact⟨.bl k,H,I,rfl,q⟩
theorem ZI:OpR X (compareOp .Eq) rEq:=by
 intro pins s σ H x y v u Q I rx ry h
 obtain⟨hs,q⟩:=h
 cases x with
 | non =>
  cases rx
  cases y with
  | non=>cases ry; exact PySem.EqNone.eq_none_none (JF I q (by simp))
  | bl j=>cases ry; exact PySem.EqNone.eq_none_bool (JF I q (by simp))
  | int j=>obtain ⟨t',rfl⟩:=ry; exact PySem.EqNone.eq_none_int (JF I q (by simp))
  | str j=>obtain ⟨t',rfl⟩:=ry; exact PySem.EqNone.eq_none_str (JF I q (by simp))
  | _=>exact absurd (show false=true from hs) Bool.false_ne_true
 | bl i =>
  cases rx
  cases y with
  | non=>cases ry; exact PySem.EqNone.eq_bool_none (JF I q (by simp))
  | bl j=>cases ry; exact eq_bool (JF I q dec_bl)
  | str j=>obtain ⟨t',rfl⟩:=ry; exact PySem.EqMixed.eq_bool_str (JF I q (by simp))
  | _=>exact absurd (show false=true from hs) Bool.false_ne_true
 | int i =>
  obtain⟨t,rfl⟩:=rx
  cases y with
  | non=>cases ry; exact PySem.EqNone.eq_int_none (JF I q (by simp))
  | int j=>obtain ⟨t',rfl⟩:=ry; exact eq_int (JF I q dec_int)
  | str j=>obtain ⟨t',rfl⟩:=ry; exact PySem.EqMixed.eq_int_str (JF I q (by simp))
  | _=>exact absurd (show false=true from hs) Bool.false_ne_true
 | str i =>
  obtain⟨t,rfl⟩:=rx
  cases y with
  | non=>cases ry; exact PySem.EqNone.eq_str_none (JF I q (by simp))
  | bl j=>cases ry; exact PySem.EqMixed.eq_str_bool (JF I q (by simp))
  | int j=>obtain ⟨t',rfl⟩:=ry; exact PySem.EqMixed.eq_str_int (JF I q (by simp))
  | str j=>obtain ⟨t',rfl⟩:=ry; exact eq_str (JF I q dec_str)
  | _=>exact absurd (show false=true from hs) Bool.false_ne_true
 | byt i =>
  obtain⟨t,rfl⟩:=rx
  cases y with
  | byt j=>obtain ⟨t',rfl⟩:=ry; exact PySem.W.eq_bytes (JF I q dec_byt)
  | _=>exact absurd (show false=true from hs) Bool.false_ne_true
 | _=>cases y <;> exact absurd (show false=true from hs) Bool.false_ne_true
theorem UL:OpR X (compareOp .NotEq) rNe:=by
 intro pins s σ H x y v u Q I rx ry h
 obtain⟨hs,q⟩:=h
 cases x with
 | non =>
  cases rx
  cases y with
  | non=>cases ry; exact PySem.EqNone.ne_none_none (JF I q (by simp))
  | bl j=>cases ry; exact PySem.EqNone.ne_none_bool (JF I q (by simp))
  | int j=>obtain ⟨t',rfl⟩:=ry; exact PySem.EqNone.ne_none_int (JF I q (by simp))
  | str j=>obtain ⟨t',rfl⟩:=ry; exact PySem.EqNone.ne_none_str (JF I q (by simp))
  | _=>exact absurd (show false=true from hs) Bool.false_ne_true
 | bl i =>
  cases rx
  cases y with
  | non=>cases ry; exact PySem.EqNone.ne_bool_none (JF I q (by simp))
  | bl j=>cases ry; exact ne_bool (JF I q (congrArg not dec_bl))
  | str j=>obtain ⟨t',rfl⟩:=ry; exact PySem.EqMixed.ne_bool_str (JF I q (by simp))
  | _=>exact absurd (show false=true from hs) Bool.false_ne_true
 | int i =>
  obtain⟨t,rfl⟩:=rx
  cases y with
  | non=>cases ry; exact PySem.EqNone.ne_int_none (JF I q (by simp))
  | int j=>obtain ⟨t',rfl⟩:=ry; exact ne_int (JF I q (congrArg not dec_int))
  | str j=>obtain ⟨t',rfl⟩:=ry; exact PySem.EqMixed.ne_int_str (JF I q (by simp))
  | _=>exact absurd (show false=true from hs) Bool.false_ne_true
 | str i =>
  obtain⟨t,rfl⟩:=rx
  cases y with
  | non=>cases ry; exact PySem.EqNone.ne_str_none (JF I q (by simp))
  | bl j=>cases ry; exact PySem.EqMixed.ne_str_bool (JF I q (by simp))
  | int j=>obtain ⟨t',rfl⟩:=ry; exact PySem.EqMixed.ne_str_int (JF I q (by simp))
  | str j=>obtain ⟨t',rfl⟩:=ry; exact ne_str (JF I q (congrArg not dec_str))
  | _=>exact absurd (show false=true from hs) Bool.false_ne_true
 | byt i =>
  obtain⟨t,rfl⟩:=rx
  cases y with
  | byt j=>obtain ⟨t',rfl⟩:=ry; exact PySem.W.ne_bytes (JF I q (congrArg not dec_byt))
  | _=>exact absurd (show false=true from hs) Bool.false_ne_true
 | _=>cases y <;> exact absurd (show false=true from hs) Bool.false_ne_true
theorem op_lt:OpR X (compareOp .Lt) (rI0 fun i j=>.bl (decide (i<j))):=opB0 fun _ _ _ _ _ _ _ q=>lt_int q
theorem op_le:OpR X (compareOp .LtE) (rI0 fun i j=>.bl (decide (i≤j))):=opB0 fun _ _ _ _ _ _ _ q=>le_int q
theorem op_gt:OpR X (compareOp .Gt) (rI0 fun i j=>.bl (decide (j<i))):=opB0 fun _ _ _ _ _ _ _ q=>gt_int q
theorem op_ge:OpR X (compareOp .GtE) (rI0 fun i j=>.bl (decide (j≤i))):=opB0 fun _ _ _ _ _ _ _ q=>ge_int q
theorem op_isN:OpR X (compareOp .Is) (fun x y H Q=>y=.non∧Q (.bl (decide (x=.non))) H):=by
 intro pins s σ H x y v u Q I rx ry h
 obtain⟨rfl,q⟩:=h
 cases ry
 refine is_none_gen (JF I q ?_)
 cases x<;>first
  | (cases rx; rfl)
  | (obtain ⟨t,rfl⟩:=rx; rfl)
theorem Uh:OpR X (compareOp .IsNot) (fun x y H Q=>y=.non∧Q (.bl (!decide (x=.non))) H):=by
 intro pins s σ H x y v u Q I rx ry h
 obtain⟨rfl,q⟩:=h
 cases ry
 refine isnot_none_gen (JF I q ?_)
 cases x<;>first
  | (cases rx; rfl)
  | (obtain ⟨t,rfl⟩:=rx; rfl)
theorem Jq(b:Expr){op:CmpOp}(h:op≠.In:=by decide)(h2:op≠.NotIn:=by decide):behindInMarks op b=false:=by
 have e1:(op==CmpOp.In)=false:=by cases op<;>first|rfl|exact absurd rfl h
 have e2:(op==CmpOp.NotIn)=false:=by cases op<;>first|rfl|exact absurd rfl h2
 cases b<;>simp[behindInMarks,e1,e2]
theorem Yf{op:CmpOp}{r:R2}(ho:OpR X (compareOp op) r)(ha:PE X a ta)(hb:PE X b tb)(hm:behindInMarks op b=false):PE X (.Compare a [op] [b] pos) (tOp r ta tb):=by
 intro pins s σ H Q I h
 exact wpAny_Compare1 (binT ha hb I h fun v u s2 x y H2 I2 rx ry q=>ho pins s2 σ H2 x y v u Q I2 rx ry q) hm
def tTest(t:TE):TT:=fun σ H Q=>t σ H fun x H'=>∃k,x=.bl k∧Q k H'
theorem Js{op:CmpOp}{r:R2}(ho:OpR X (compareOp op) r)(ha:PE X a ta)(hb:PE X b tb)(hm:behindInMarks op b=false):PT X (.Compare a [op] [b] pos) (tTest (tOp r ta tb)):=by
 intro pins s σ H Q I h
 refine wpAny_isTrue_Compare1 (thn (ha pins s σ H _ I h) fun v s1 ⟨x,H1,I1,r1,q1⟩=>thn (hb pins s1 σ H1 _ I1 q1) fun u s2 ⟨y,H2,I2,r2,q2⟩ =>
  thn (ho pins s2 σ H2 x y v u _ I2 r1 r2 q2) fun c s3 ⟨z,H3,I3,r3,k,e,q3⟩=>?_) hm
 subst e
 cases r3
 exact wpAny_truthy_bool ⟨H3,I3,q3⟩
def tChain(r r':R2)(ta tb tc:TE):TE:=fun σ H Q=>ta σ H fun x H1=>tb σ H1 fun y H2=>r x y H2 fun z H3=>∃k,z=.bl k ∧
 (if k=true then tc σ H3 fun w' H4=>r' y w' H4 Q else Q (.bl false) H3)
theorem pe_chain{op op':CmpOp}{r r':R2}(ho:OpR X (compareOp op) r)(ho':OpR X (compareOp op') r')(ha:PE X a ta)(hb:PE X b tb)(hc:PE X c tc)
  (hm:lastMarks [op,op'] [b,c]=false:=by with_unfolding_all rfl):PE X (.Compare a [op,op'] [b,c] pos) (tChain r r' ta tb tc):=by
 intro pins s σ H Q I h
 refine Compare_chain (thn (ha pins s σ H _ I h) fun v s1 ⟨x,H1,I1,r1,q1⟩=>chain_link (thn (hb pins s1 σ H1 _ I1 q1) fun u s2 ⟨y,H2,I2,r2,q2⟩ =>
  thn (ho pins s2 σ H2 x y v u _ I2 r1 r2 q2) fun d s3 ⟨z,H3,I3,r3,k,e,q3⟩=>?_)) hm
 subst e
 cases r3
 refine wpAny_truthy_bool ?_
 cases k with
 | false=>exact ite_ff ⟨.bl false,H3,I3,rfl,q3⟩
 | true=>exact ite_tt (chain_last (thn (hc pins s3 σ H3 _ I3 q3) fun w' s4 ⟨z',H4,I4,r4,q4⟩=>ho' pins s4 σ H4 y z' u w' Q I4 r2 r4 q4))
theorem QC:(sizeLine:Nat)<2^63:=by rw[sizeLine_eq];decide
theorem Yu{x:V}{us:List Value}(r:Vals [x] us):∃u,us=[u]∧RelV x u:=by
 cases r with
 | cons r1 r2=>cases r2; exact ⟨_,rfl,r1⟩
theorem vals2{x y:V}{us:List Value}(r:Vals [x,y] us):∃u w',us=[u,w']∧RelV x u∧RelV y w':=by
 cases r with
 | cons r1 r2 =>
  cases r2 with
  | cons r3 r4=>cases r4; exact ⟨_,_,rfl,r1,r3⟩
theorem call_max2(hc:X.calm=true):Yo X (.builtin "max") (fun xs H Q=>∃i j,xs=[.int i,.int j]∧Q (.int (if j>i then j else i)) H):=by
 intro pins s σ H xs us Q I r h
 obtain⟨i,j,rfl,q⟩:=h
 obtain⟨u,w',rfl,⟨t,rfl⟩,⟨t',rfl⟩⟩:=vals2 r
 refine max_two_ints (I.ok.hd hc) fun h' tk k=>⟨_,H,I.kept k,?_,q⟩
 by_cases hj:j>i
 ·rw [if_pos hj,if_pos hj]; exact ⟨_,rfl⟩
 ·rw [if_neg hj,if_neg hj]; exact ⟨_,rfl⟩
theorem call_min2(hc:X.calm=true):Yo X (.builtin "min") (fun xs H Q=>∃i j,xs=[.int i,.int j]∧Q (.int (if j<i then j else i)) H):=by
 intro pins s σ H xs us Q I r h
 obtain⟨i,j,rfl,q⟩:=h
 obtain⟨u,w',rfl,⟨t,rfl⟩,⟨t',rfl⟩⟩:=vals2 r
 refine min_two_ints (I.ok.hd hc) fun h' tk k=>⟨_,H,I.kept k,?_,q⟩
 by_cases hj:j<i
 ·rw [if_pos hj,if_pos hj]; exact ⟨_,rfl⟩
 ·rw [if_neg hj,if_neg hj]; exact ⟨_,rfl⟩
theorem call_int1:Yo X (.type "int") (fun xs H Q=>(∃i,xs=[.int i]∧Q (.int i) H)∨∃k,xs=[.bl k]∧Q (.int (if k then 1 else 0)) H):=by
 intro pins s σ H xs us Q I r h
 rcases h with⟨i,rfl,q⟩|⟨k,rfl,q⟩
 ·obtain ⟨u,rfl,t,rfl⟩:=Yu r
  exact call_int_int ⟨.int i,H,I,⟨_,rfl⟩,q⟩
 ·obtain ⟨u,rfl,r1⟩:=Yu r
  cases r1
  exact call_int_bool ⟨.int (if k then 1 else 0),H,I.tok _,⟨_,rfl⟩,q⟩
end
end L2
namespace L2
open PySem PySem.Spec PyProof.Rows
structure ObjM(h:Heap)(x dx C:Addr)(mA:Str→Option Value):Prop where
 obj:h.get? x=some (PySem.W.instObj C dx)
 ns:h.Ns1 dx mA
 ne:dx≠x
theorem lookIn_ns{h:Heap}{dx:Addr}{mA:Str→Option Value}(n:h.Ns1 dx mA):∃od,h.get? dx=some od∧∀name,PySem.W.lookIn name od=some (mA name):=by
 obtain⟨o,es,ep,ho,hd,hk,_,hm⟩:=n
 refine⟨o,ho,fun name=>?_⟩
 have e:=hm name
 unfold nsFind findBy at e
 rw[← Array.find?_toList]at e
 unfold PySem.W.lookIn
 rw[hd]
 dsimp only
 split
 ·rename_i y q
  rw[q]at e
  exact congrArg some e
 ·rename_i q
  rw[q]at e
  have a:es.toList.any (·.refKey)=false:=by
   rw[List.any_eq_false]
   intro y hy
   obtain⟨z,t,hkey⟩:=hk y (Array.mem_toList_iff.mp hy)
   simp[DictEntry.refKey,hkey]
  have a':¬ es.toList.any (·.refKey)=true:=by rw[a];exact Bool.false_ne_true
  rw[if_neg a']
  exact congrArg some e
theorem ObjM.look{h:Heap}{x dx C:Addr}{mA:Str→Option Value}(I:ObjM h x dx C mA):∃od,PySem.W.InstAt h x (PySem.W.instObj C dx) C (some od)∧∀name,PySem.W.lookIn name od=some (mA name) :=
 let⟨od,ho,hl⟩:=lookIn_ns I.ns
 ⟨od,⟨I.obj,rfl,rfl,ho⟩,hl⟩
section
variable{prog:Program}{w:World}{A:Around}{E:Value→Shared→Prop}{s:Shared}{K:PySem.W.Frag}{x dx C f:Addr}{mA:Str→Option Value}{name:Str}{v:Value}
end
theorem RelO.some_of{v:V}{o:Option Value}(r:RelO (some v) o):∃u,o=some u∧RelV v u:=by
 cases o with
 | none=>exact (show False from r).elim
 | some u=>exact ⟨u,rfl,r⟩
section
variable{P:Program}{w:World}{H H':Hp}{h h':Heap}{a C dx:Addr}{fs fs':List (Str×V)}
theorem ins_get(hok:HOk P w H h)(e:H a=some (.ins C dx fs)):∃mA,ObjM h a dx C mA∧(∀f,RelO (fs.lookup f) (mA f))∧PySem.Within mA (fs.map (·.1))∧fs.length≤1000∧H dx=some (.own a):=by
 obtain⟨d,z,ne,ob,mA,n,r,q⟩:=(show ObjOk P w H h a (.ins C dx fs)from hok a _ e)
 exact⟨mA,⟨ob,n,ne⟩,r,q,z,d⟩
end
structure Cls(K:PySem.W.Frag)(C:Addr):Prop where
 pg:PySem.W.plainGet K C Str.empty=true
 hd:PySem.W.hasDictIn K C=true
 po:PySem.W.plainOver K C=true
 sa:PySem.W.findIn K (.ref C) "__setattr__"=some (some (.builtin "object.__setattr__"))
theorem Cls.get{K:PySem.W.Frag}{C:Addr}(c:Cls K C)(f:Str):PySem.W.plainGet K C f=true:=c.pg
section
variable{X:Cx}{pins:List (Addr×Obj)}{σ:St}{H:Hp}{s:Shared}{a C dx:Addr}{fs:List (Str×V)}{f:Str}{v:V}{A:Around}{E:Value→Shared→Prop}
end
section
variable{X:Cx}{o e value:Expr}{f:Str}{pos pos' tpos:Pos}{ta tv:TE}
end
section
variable{X:Cx}{pins:List (Addr×Obj)}{σ:St}{H:Hp}{s:Shared}{A:Around}{E:Value→Shared→Prop}{Q:Value→Shared→Prop}{c:Value}{b:Bool}
inductive TyOf(K:PySem.W.Frag)(H:Hp):V→Value→Prop where
 | non:TyOf K H .non (.type "NoneType")
 | bl (x:Bool):TyOf K H (.bl x) (.type "bool")
 | int (i:Int):TyOf K H (.int i) (.type "int")
 | str (x:Str):TyOf K H (.str x) (.type "str")
 | flt (x:UInt64):TyOf K H (.flt x) (.type "float")
 | lst {a:Addr} {xs:List V} (e:H a=some (.lst xs)):TyOf K H (.ref a) (.type "list")
 | frz {a:Addr} {o:Obj} {xs:List V} (e:H a=some (.frz o (.lst xs))):TyOf K H (.ref a) (.type "list")
 | tup {a:Addr} {xs:List V} (e:H a=some (.tup xs)):TyOf K H (.ref a) (.type "tuple")
 | dK {a:Addr} {kvs:List (Key×V)} (e:H a=some (.dK kvs)):TyOf K H (.ref a) (.type "dict")
 | dT {a:Addr} {kvs:List (List Key×V)} (e:H a=some (.dT kvs)):TyOf K H (.ref a) (.type "dict")
 | ins {a C dx:Addr} {fs:List (Str×V)} (e:H a=some (.ins C dx fs)) (cl:Cls K C) (ha:PySem.W.findIn K (.ref C) "__class__"=some (some (.builtin "object.__class__")))
   (hn:PySem.W.specialIn K (.builtin "object.__class__") "__get__"=some (some (.builtin "getset_descriptor.__get__"))) (htk:PySem.W.takesIn K (.builtin "object.__class__")=some true)
   (hm:PySem.W.mroIn K C (.type "object")=some true):TyOf K H (.ref a) (.ref C)
theorem isinst_ok{x:V}{u t:Value}(I:Inv X pins σ H s)(rx:RelV x u)(ty:TyOf X.K H x t)(e:PySem.W.kitOne X.K t c=some b)(h:∀tk,Q (.bool b) { s with toks:=tk }) :
  wpAny (model X.prog X.w) A (call (.builtin "isinstance") [u,c]) Q E s:=by
 cases ty with
 | non=>cases (show u=Value.none from rx); exact PySem.W.kia_one PySem.W.kitx_none I.kIn True.intro e (fun z=>nomatch z) h
 | bl y=>cases (show u=Value.bool y from rx); exact PySem.W.kia_one PySem.W.kitx_bool I.kIn True.intro e (fun z=>nomatch z) h
 | int i=>obtain ⟨t,q⟩:=(show ∃ t,u=Value.int i t from rx); cases q; exact PySem.W.kia_one PySem.W.kitx_int I.kIn True.intro e (fun z=>nomatch z) h
 | str y=>obtain ⟨t,q⟩:=(show ∃ t,u=Value.str y t from rx); cases q; exact PySem.W.kia_one PySem.W.kitx_str I.kIn True.intro e (fun z=>nomatch z) h
 | flt y=>obtain ⟨t,q⟩:=(show ∃ t,u=Value.float y t from rx); cases q; exact PySem.W.kia_one PySem.W.kitx_float I.kIn True.intro e (fun z=>nomatch z) h
 | @lst a xs ea =>
  cases (show u=Value.ref a from rx)
  obtain⟨_,_,n,_,h1⟩:=(show ObjOk X.prog X.w H s.heap a (.lst xs)from I.hok a _ ea)
  exact PySem.W.kia_one PySem.W.kitx_list I.kIn ⟨_,h1,rfl⟩ e (fun z=>nomatch z) h
 | @frz a ob xs ea =>
  cases (show u=Value.ref a from rx)
  obtain⟨_,_,_,n,_,h1⟩:=(show ObjOk X.prog X.w H s.heap a (.frz ob (.lst xs))from I.hok a _ ea)
  exact PySem.W.kia_one PySem.W.kitx_list I.kIn ⟨_,h1,rfl⟩ e (fun z=>nomatch z) h
 | @tup a xs ea =>
  cases (show u=Value.ref a from rx)
  obtain⟨_,_,_,p⟩:=(show ObjOk X.prog X.w H s.heap a (.tup xs)from I.hok a _ ea)
  obtain⟨o,h1,h2,_⟩:=p
  exact PySem.W.kia_one PySem.W.kitx_tuple I.kIn ⟨o,h1,h2⟩ e (fun z=>nomatch z) h
 | @dK a kvs ea =>
  cases (show u=Value.ref a from rx)
  obtain⟨_,_,vs,_,p⟩:=(show ObjOk X.prog X.w H s.heap a (.dK kvs)from I.hok a _ ea)
  obtain⟨o,es,ep,h1,h2,_⟩:=p
  exact PySem.W.kia_one PySem.W.kitx_dict I.kIn ⟨o,h1,h2.1⟩ e (fun z=>nomatch z) h
 | @dT a kvs ea =>
  cases (show u=Value.ref a from rx)
  obtain⟨_,_,xs,_,o,es,ep,h1,h2,_⟩:=(show ObjOk X.prog X.w H s.heap a (.dT kvs)from I.hok a _ ea)
  exact PySem.W.kia_one PySem.W.kitx_dict I.kIn ⟨o,h1,h2.1⟩ e (fun z=>nomatch z) h
 | @ins a C dx fs ea cl ha hn htk hm =>
  cases (show u=Value.ref a from rx)
  obtain⟨mA,O,_⟩:=ins_get I.hok ea
  obtain⟨od,J,_⟩:=O.look
  exact PySem.W.kia_one (PySem.W.kitx_own (cl.get _) cl.hd ha hn htk hm) I.kIn J e (fun z=>nomatch z) h
end
end L2
namespace L2
open PySem PySem.Spec PyProof.Rows
structure Room(k:Nat)(A:Around):Prop where
 hd:A.handled=none
 dp:A.depth+3*k+5<recursionLimit
 un:A.units+16*k+200<cLine
 gd:A.guards=some []
theorem Room.mono{j k:Nat}{A:Around}(r:Room k A)(h:j≤k):Room j A:=⟨r.hd,by have:=r.dp;omega,by have:=r.un;omega,r.gd⟩
theorem Room.deeper{k:Nat}{A:Around}(r:Room (k+1) A)(env:Env):Room k (A.deeper env) :=
 ⟨r.hd,by have:=r.dp;show A.depth+1+3*k+5<_;omega,by have:=r.un;show A.units+3+16*k+200<_;omega,r.gd⟩
theorem Room.depth{k:Nat}{A:Around}(r:Room k A):A.depth<recursionLimit:=by have:=r.dp;omega
theorem Room.units{k:Nat}{A:Around}(r:Room k A):A.units+64<cLine:=by have:=r.un;omega
theorem Room.units0{k:Nat}{A:Around}(r:Room k A):A.units<cLine:=by have:=r.un;omega
def tNil:TA:=fun _ H Q=>Q [] H
def tCons(ta:TE)(tr:TA):TA:=fun σ H Q=>ta σ H fun x H1=>tr σ H1 fun xs H2=>Q (x::xs) H2
section
variable{X:Cx}{e:Expr}{es:List Expr}{te:TE}{t:TA}{pos:Pos}
theorem Jc:PA X [] tNil:=fun _ _ _ _ H Q I h=>Calls.spliced_nil ⟨[],H,I,.nil,h⟩
theorem Ja(ha:PE X e te)(hr:PA X es t)(hs:starEach (e::es) X.env=(false,eval e X.env)::starEach es X.env:=by rfl):PA X (e::es) (tCons te t):=by
 intro pos pins s σ H Q I h
 rw[hs]
 show wpAny _ _ (spliced ((false,eval e X.env)::backTo pos (starEach es X.env))) _ _ s
 refine Calls.spliced_cons (thn (ha pins s σ H _ I h) fun u s1 ⟨x,H1,I1,r1,q1⟩=>?_)
 exact thn (hr pos pins s1 σ H1 _ I1 q1) fun us s2 ⟨xs,H2,I2,r2,q2⟩=>⟨x::xs,H2,I2,.cons r1 r2,q2⟩
def tTup(t:TA):TE:=fun σ H Q=>t σ H fun xs H1=>xs.length≤sizeLine∧∀p,H1 p=none→Q (.ref p) (upd H1 p (.tup xs))
def tLst(t:TA):TE:=fun σ H Q=>t σ H fun xs H1=>xs.length≤sizeLine∧∀p,H1 p=none→Q (.ref p) (upd H1 p (.lst xs))
theorem Yj{x1}(h:PA X es t):PE X (.Tuple es x1 pos) (tTup t):=by
 intro pins s σ H Q I hq
 refine wpAny_Tuple_spliced (thn (h pos pins s σ H _ I hq) fun us s1 ⟨xs,H1,I1,r,z,q⟩=>⟨by rw[← r.length];exact z,?_⟩)
 have hf:H1 s1.heap.objs.size=none:=I1.hok.fresh (Nat.le_refl _)
 refine⟨.ref s1.heap.objs.size,upd H1 s1.heap.objs.size (.tup xs),I1.laid (t':=s1.toks) (fun b u e=>Heap.get?_push_of_some _ e) (Nat.le_refl _) ?_,rfl,q _ hf⟩
 exact⟨z,us,r,⟨_,Heap.get?_push_size _ rfl,rfl,_,rfl⟩⟩
theorem JZ(h:PA X es t):PE X (.List es pos) (tLst t):=by
 intro pins s σ H Q I hq
 refine wpAny_List_spliced (thn (h pos pins s σ H _ I hq) fun us s1 ⟨xs,H1,I1,r,z,q⟩=>⟨by rw[← r.length];exact z,?_⟩)
 have hf:H1 s1.heap.objs.size=none:=I1.hok.fresh (Nat.le_refl _)
 refine⟨.ref s1.heap.objs.size,upd H1 s1.heap.objs.size (.lst xs),I1.laid (t':=s1.toks) (fun b u e=>Heap.get?_push_of_some _ e) (Nat.le_refl _) ?_,rfl,q _ hf⟩
 exact⟨z,us,0,r,Heap.get?_push_size _ rfl⟩
end
abbrev Sp:=List V→Hp→VK→XK→Prop
abbrev CXT:=List Env→Hp→Shared→XK→Value→Shared→Prop
structure Env0(P:Program)(w:World)(K:PySem.W.Frag)(mg:Str→Option Value)(base:Heap)(A:Around)(outer:List Env)(s:Shared)(H:Hp):Prop where
 frames:A.frames=some outer
 mod:Mod K mg base
 bs:∀b o,base.get? b=some o→s.heap.get? b=some o∧H b=none
 bsz:base.objs.size≤s.heap.objs.size
 funs:s.heap.FunFrames base outer
 frf:∀b∈frs outer,H b=none
 hok:HOk P w H s.heap
 bare:AllBare s.gens
def CE(outer:List Env)(P:Program)(w:World)(H:Hp)(s:Shared)(Q:VK)(u:Value)(s':Shared):Prop :=
 ∃v H',s'.os=s.os∧AllBare s'.gens∧Un (frs outer) [] H H' s.heap s'.heap∧HOk P w H' s'.heap∧RelV v u∧Q v H'
def CR(CX:CXT)(outer:List Env)(P:Program)(w:World)(H:Hp)(s:Shared)(Q:VK)(E:XK)(r:Result)(s':Shared):Prop :=
 match r with
 | .ok (.ret u)=>CE outer P w H s Q u s'
 | .ok _=>False
 | .error e=>CX outer H s E e s'
structure FnOk(P:Program)(w:World)(K:PySem.W.Frag)(mg:Str→Option Value)(base:Heap)(CX:CXT)(k:Nat)(f:Addr)(fd:FuncData)(ps:List Str)(sp:Sp):Prop where
 len:∀vs H Q E,sp vs H Q E→vs.length=ps.length
 run:∀(A:Around)(outer:List Env)(s:Shared)(H:Hp)(args:Args)(us:List Value)(vs:List V)(Q:VK)(E:XK),Room k A→Env0 P w K mg base A outer s H→BindsTo s fd args (ps.zip us)→Vals vs us→sp vs H Q E →
  codeAny (model P w) A (.call (.ref f) args) (CR CX outer P w H s Q E) s
section
variable{X:Cx}{pins:List (Addr×Obj)}{σ:St}{H:Hp}{s s':Shared}
theorem Inv.env0(I:Inv X pins σ H s):Env0 X.prog X.w X.K X.mg X.base X.A X.stack s H :=
 ⟨I.ok.frames,I.ok.mod,I.bs,Nat.le_trans I.ok.bsz I.sz,I.stack,I.stkFree,I.hok,I.bare⟩
theorem Inv.after{Q:VK}{u:Value}(I:Inv X pins σ H s)(h:CE X.stack X.prog X.w H s Q u s'):EP X pins σ Q u s':=by
 obtain⟨v,H',os,bare,un,hok,r,q⟩:=h
 obtain⟨hh,g,d,t,os'⟩:=s'
 obtain rfl:os'=s.os:=os
 exact⟨v,H',I.call (h':=hh) (g':=g) (d':=d) (t':=t) (ch:=[]) un hok bare (fun b z=>absurd z (by simp)),r,q⟩
end
def tCall(sp:Sp)(dvs:List V)(E:XK)(t:TA):TE:=fun σ H Q=>t σ H fun vs H1=>sp (vs++dvs) H1 Q E
def Binds(K:PySem.W.Frag)(fd:FuncData)(ps:List Str)(ds:List Value):Prop :=
 ∀(s:Shared)(us:List Value),K.In s.heap→(us++ds).length=ps.length→BindsTo s fd ⟨us,[]⟩ (ps.zip (us++ds))
theorem Binds.all{K:PySem.W.Frag}{fd:FuncData}{ps:List Str}(h:∀us:List Value,us.length=ps.length→bindArgs fd ⟨us,[]⟩=pure (ps.zip us)):Binds K fd ps []:=fun s us _ hl=>by
 rw[List.append_nil]at hl ⊢
 exact .of_eq (h us hl)
def Passes(CX:CXT)(X:Cx)(E:XK):Prop:=∀(pins:List (Addr×Obj))(σ:St)(H:Hp)(s:Shared)(e:Value)(s':Shared),Inv X pins σ H s→CX X.stack H s E e s'→X.xe e s'
section
variable{X:Cx}{CX:CXT}{k:Nat}{f C:Addr}{fd:FuncData}{ps:List Str}{sp:Sp}{dvs:List V}{ds:List Value}{E:XK}{x m:Str}{p pos apos:Pos}{e o:Expr}{es:List Expr}{ta:TE}{t:TA}
theorem run_fn{pins:List (Addr×Obj)}{σ:St}{H:Hp}{s:Shared}{Q:VK}{us:List Value}{vs:List V}(F:FnOk X.prog X.w X.K X.mg X.base CX k f fd ps sp)(hr:Room k X.A)(hb:Binds X.K fd ps ds)(hd:Vals dvs ds)(hx:Passes CX X E)
  (I:Inv X pins σ H s) (r:Vals vs us) (h:sp (vs++dvs) H Q E):wpAny (model X.prog X.w) X.A (call (.ref f) us) (EP X pins σ Q) X.xe s:=by
 have r2:Vals (vs++dvs) (us++ds):=r.append hd
 have hl:(us++ds).length=ps.length:=by rw[← r2.length];exact F.len _ _ _ _ h
 refine wpAny_call (codeAny_mono (F.run X.A X.stack s H ⟨us,[]⟩ (us++ds) (vs++dvs) Q E hr I.env0 (hb s us I.kIn hl) r2 h) fun r s' hq=>?_)
 cases r with
 | error e=>exact hx pins σ H s e s' I hq
 | ok fl =>
  cases fl with
  | ret u=>exact I.after hq
  | next=>exact False.elim hq
  | brk=>exact False.elim hq
  | cont=>exact False.elim hq
theorem pe_call(F:FnOk X.prog X.w X.K X.mg X.base CX k f fd ps sp)(hr:Room k X.A)(hg:Gl X x)(hm:X.mg x=some (.ref f))(hk:PySem.W.keepIn X.K (.ref f)=true)(hb:Binds X.K fd ps ds)(hd:Vals dvs ds)(hx:Passes CX X E)
  (ha:PA X (e::es) t) (hdb:(x==("__debug__":Str))=false:=by decide) (he:starEach (e::es) X.env=(false,eval e X.env)::starEach es X.env:=by rfl) (hpl:(backTo pos (starEach es X.env)).any (·.1)=false:=by rfl) :
  PE X (.Call (.Name x p) (e::es) [] pos) (tCall sp dvs E t):=by
 intro pins s σ H Q I h
 refine wpAny_Call_Name_kw (ld_glob I hg hm ?_ hdb)
 refine PySem.W.callWith_K (h₀:=X.base) I.ok.mod.kin hk (thn (ha pos pins s σ H _ I h) fun us s1 ⟨vs,H1,I1,r,q⟩=>⟨I1.kIn,?_⟩) he hpl
 exact run_fn F hr hb hd hx I1 r q
end
def PK(X:Cx)(kws:List Keyword)(t:TA):Prop :=
 ∀(pos:Pos)(pins:List (Addr×Obj))(s:Shared)(σ:St)(H:Hp)(Q:List V→Hp→Prop),Inv X pins σ H s→t σ H Q→wpAny (model X.prog X.w) X.A (evalAll ((backToKw pos (keywordEach kws X.env)).map (·.2))) (AP X pins σ Q) X.xe s
section
variable{X:Cx}{CX:CXT}{k:Nat}{f C:Addr}{fd:FuncData}{ps ks:List Str}{sp:Sp}{E:XK}{x m:Str}{p pos apos kpos:Pos}{e o:Expr}{es:List Expr}{kws:List Keyword}{te ta:TE}{t tk:TA}{nm:Option Str}
theorem pk_nil:PK X [] tNil:=fun _ _ _ _ H Q I h=>wpAny_evalAll_nil ⟨[],H,I,.nil,h⟩
theorem pk_cons(ha:PE X e te)(hr:PK X kws t):PK X (⟨nm,e,kpos⟩::kws) (tCons te t):=by
 intro pos pins s σ H Q I h
 show wpAny _ _ (evalAll ((do let v ← eval e X.env;standAt pos;pure v)::(backToKw pos (keywordEach kws X.env)).map (·.2))) _ _ s
 refine wpAny_evalAll_cons (wpAny_bind (thn (ha pins s σ H _ I h) fun u s1 ⟨x,H1,I1,r1,q1⟩=>wpAny_bind (wpAny_standAt (wpAny_pure ?_))))
 exact thn (hr pos pins s1 σ H1 _ I1 q1) fun us s2 ⟨xs,H2,I2,r2,q2⟩=>⟨x::xs,H2,I2,.cons r1 r2,q2⟩
variable{g:List Value→List Value→List Value}{gV:List V→List V→List V}
end
structure FnScope(N P:List Str)(sc:Scope):Prop where
 kind:sc.kind=.function
 co:sc.isCoroutine=false
 gen:sc.isGenerator=false
 nd:N.Nodup
 pre:N.take P.length=P
 par:∀x∈P,sc.names.lookup x=some .local∨sc.names.lookup x=some .cell
 nofree:∀y∈sc.names,y.2≠.free
theorem bindL_out{kindOf:Str→Option NameKind}{x:Str}:∀{binds:List (Str×Value)}{m:Str→Option Value},(∀v,(x,v)∉binds)→bindL kindOf binds m x=m x
 | [],_,_=>rfl
 | (n,v)::r,m,h=>by
  unfold bindL
  rw[bindL_out fun w hw=>h w (List.mem_cons_of_mem _ hw)]
  split
  ·have:x≠n:=by rintro rfl; exact h v List.mem_cons_self
   simp[this]
  ·rfl
theorem bindC_out{kindOf:Str→Option NameKind}{x:Str}:∀{binds:List (Str×Value)}{m:Str→Option Value},(∀v,(x,v)∉binds)→bindC kindOf binds m x=m x
 | [],_,_=>rfl
 | (n,v)::r,m,h=>by
  unfold bindC
  rw[bindC_out fun w hw=>h w (List.mem_cons_of_mem _ hw)]
  split
  ·rfl
  ·have:x≠n:=by rintro rfl; exact h v List.mem_cons_self
   simp[this]
theorem bindL_get{kindOf:Str→Option NameKind}{x:Str}{v:Value}:∀{P:List Str}{vs:List Value}{i:Nat}{m:Str→Option Value},P.Nodup→P[i]?=some x→vs[i]?=some v→kindOf x=some .local →
  bindL kindOf (P.zip vs) m x=some v
 | [],_,_,_,_,h,_,_=>by simp at h
 | _::_,[],_,_,_,_,h,_=>by simp at h
 | p::P,w::vs,0,m,nd,h1,h2,hk=>by
  simp at h1 h2;subst h1;subst h2
  show bindL kindOf ((p,w)::P.zip vs) m p=_
  unfold bindL
  rw[bindL_out fun v hv=>(List.nodup_cons.mp nd).1 (List.of_mem_zip hv).1,if_pos hk]
  simp
 | p::P,w::vs,i + 1,m,nd,h1,h2,hk=>by
  show bindL kindOf ((p,w)::P.zip vs) m x=_
  unfold bindL
  exact bindL_get (i:=i) (List.nodup_cons.mp nd).2 (by simpa using h1) (by simpa using h2) hk
theorem bindC_get{kindOf:Str→Option NameKind}{x:Str}{v:Value}:∀{P:List Str}{vs:List Value}{i:Nat}{m:Str→Option Value},P.Nodup→P[i]?=some x→vs[i]?=some v→kindOf x≠some .local →
  bindC kindOf (P.zip vs) m x=some v
 | [],_,_,_,_,h,_,_=>by simp at h
 | _::_,[],_,_,_,_,h,_=>by simp at h
 | p::P,w::vs,0,m,nd,h1,h2,hk=>by
  simp at h1 h2;subst h1;subst h2
  show bindC kindOf ((p,w)::P.zip vs) m p=_
  unfold bindC
  rw[bindC_out fun v hv=>(List.nodup_cons.mp nd).1 (List.of_mem_zip hv).1,if_neg hk]
  simp
 | p::P,w::vs,i + 1,m,nd,h1,h2,hk=>by
  show bindC kindOf ((p,w)::P.zip vs) m x=_
  unfold bindC
  exact bindC_get (i:=i) (List.nodup_cons.mp nd).2 (by simpa using h1) (by simpa using h2) hk
def start(N:List Str)(vs:List V):St:=vs.map some++List.replicate (N.length-vs.length) none
def cxOf(CX:CXT)(P:Program)(w:World)(K:PySem.W.Frag)(mg:Str→Option Value)(base:Heap)(N:List Str)(qual:Str)(scope:Scope)(f:Addr)(cd:Value)(A:Around)(outer:List Env)(s:Shared)(H:Hp)(E:XK):Cx where
 prog:=P
 w:=w
 K:=K
 mg:=mg
 base:=base
 A:=A.deeper (envOfC qual scope s.heap.objs.size f cd)
 N:=N
 s₀:=s
 H₀:=H
 env:=envOfC qual scope s.heap.objs.size f cd
 outer:=outer
 stack:=envOfC qual scope s.heap.objs.size f cd::outer
 ex:=[]
 calm:=true
 fn:=fun _=>true
 pn:=[]
 xe:=fun e s'=>wpAny (model P w) (A.deeper (envOfC qual scope s.heap.objs.size f cd)) (leaving (envOfC qual scope s.heap.objs.size f cd) e) (fun _ s''=>CX outer H s E e s'') (fun e' s''=>CX outer H s E e' s'') s'
theorem cell_has{sc:Scope}{n:Nat}{x:Str}(h:sc.names.lookup x=some .cell):∃c,(cellsFrom n sc.names []).lookup x=some c:=by
 have q:=PySem.W.cellsFrom_some sc.names n [] (.inl h)
 exact Option.isSome_iff_exists.mp q
theorem inv_start{CX:CXT}{P:Program}{w:World}{K:PySem.W.Frag}{mg:Str→Option Value}{base:Heap}{N ps:List Str}{qual:Str}{scope:Scope}{f:Addr}{cd:Value}{A:Around}{outer:List Env}{s s1:Shared}{H:Hp}{E:XK}{us:List Value}{vs:List V}
  (S:FnScope N ps scope) (hd:A.handled=none) (e0:Env0 P w K mg base A outer s H) (hl:vs.length=ps.length) (r:Vals vs us)
  (x:InCallC s s.heap.objs.size (bindL (envOfC qual scope s.heap.objs.size f cd).kindOf (ps.zip us) fun _=>none) (cellsFrom (s.heap.objs.size+1) scope.names []) (bindC (envOfC qual scope s.heap.objs.size f cd).kindOf (ps.zip us) fun _=>none) s1) :
  Inv (cxOf CX P w K mg base N qual scope f cd A outer s H E) [] (start N vs) H s1:=by
 have hpl:ps.length≤N.length:=by have:=congrArg List.length S.pre;rw[List.length_take]at this;omega
 obtain⟨h1,tk,rfl,hk⟩:=x.done
 have noA:∀b:Addr,b∉(cxOf CX P w K mg base N qual scope f cd A outer s H E).ex:=fun b z=>absurd (show b∈([]:List Addr)from z) (by simp)
 refine ⟨⟨e0.mod,S.kind,rfl,rfl,Nat.le_refl _,fun y z c h1 h2=>?_,fun y hy=>?_,fun y c _ h=>?_,fun _=>hd,Around.frames_deeper e0.frames,.inr ⟨rfl,rfl⟩,fun b z=>absurd z (noA b),e0.bs,e0.bsz,fun b _ _=>noA b,fun b z=>absurd z (noA b),e0.funs,e0.frf⟩,
  rfl,e0.bare,Un.kept hk,⟨_,x.toInCall.ns,fun i y v h1 h2 h3=>?_⟩,fun y c h=>⟨_,x.cell y c h⟩,e0.hok.fresh (Nat.le_refl _),fun y c h=>?_,fun p hp=>absurd (show p∈([]:List (Addr×Obj)) from hp) (by simp),e0.hok.kept hk,?_⟩
 ·exact name_of_addr x.apart (PySem.mem_of_lookup h1) (PySem.mem_of_lookup h2)
 ·have hy:scope.names.lookup y=some .cell∨scope.names.lookup y=some .free:=hy
  rcases hy with hy|hy
  ·exact cell_has hy
  ·exact absurd rfl (S.nofree _ (PySem.mem_of_lookup hy))
 ·exact Nat.le_of_lt (x.above y c (PySem.mem_of_lookup h))
 ·have hi:i < vs.length:=by
   unfold start at h2
   by_cases hi:i<vs.length
   ·exact hi
   ·rw [List.getElem?_append_right (by simpa using hi)] at h2
    rw[List.getElem?_replicate]at h2
    split at h2<;>cases h2
  have ha:vs[i]?=some v:=by
   unfold start at h2
   rw[List.getElem?_append_left (by simpa using hi),List.getElem?_map]at h2
   cases e:vs[i]? with
   | none=>rw [e] at h2; cases h2
   | some a=>rw [e] at h2; cases h2; rfl
  obtain⟨u,hu,rv⟩:=r.get ha
  have hp:ps[i]?=some y:=by
   rw[← S.pre,List.getElem?_take_of_lt (by omega)];exact h1
  have ndP:ps.Nodup:=by rw[← S.pre];exact S.nd.sublist (List.take_sublist _ _)
  refine⟨u,rv,?_⟩
  rcases S.par y (List.mem_of_getElem? hp)with k|k
  ·exact .inl ⟨k,bindL_get ndP hp hu k⟩
  ·obtain ⟨c,e⟩:=cell_has (n:=s.heap.objs.size + 1) k
   refine .inr ⟨.inl k,c,e,?_⟩
   have q:=x.cell y c e
   rw[bindC_get ndP hp hu (by show scope.names.lookup y≠_;rw[k];decide)]at q
   exact q
 ·exact e0.hok.fresh (Nat.le_of_lt (x.above y c (PySem.mem_of_lookup h)))
 ·unfold start
  show _=N.length
  rw[List.length_append,List.length_map,List.length_replicate]
  omega
theorem fn_of{CX:CXT}{P:Program}{w:World}{K:PySem.W.Frag}{mg:Str→Option Value}{base:Heap}{k:Nat}{f:Addr}{name qual:Str}{params:Arguments}{body:List Stmt}{scope:Scope}{dV kV doc pm cdv ct oc:Value}{an od:Option Addr}
  {osl:Array (Option Value)} {N ps:List Str} {sp:Sp} (lk:K.lookup f=some ⟨oc,od,.func (PySem.W.fnOf name qual params body scope dV kV doc pm an cdv ct),osl⟩) (hcd:PySem.W.codeIn K cdv qual=true) (S:FnScope N ps scope)
  (len:∀vs H Q E,sp vs H Q E→vs.length=ps.length)
  (hbody:∀ (A:Around) (outer:List Env) (s:Shared) (H:Hp) (vs:List V) (Q:VK) (E:XK),Room k (A.deeper (envOfC qual scope s.heap.objs.size f cdv))→sp vs H Q E →
   ∃ t,PSs (cxOf CX P w K mg base N qual scope f cdv A outer s H E) body t∧t { nx:=fun _ H'=>Q .non H',rt:=Q } (start N vs) H) :
  FnOk P w K mg base CX (k+1) f (PySem.W.fnOf name qual params body scope dV kV doc pm an cdv ct) ps sp:=by
 refine⟨len,fun A outer s H args us vs Q E hr e0 hb r hsp=>?_⟩
 have hl:=len _ _ _ _ hsp
 have KX:K.In s.heap:=e0.mod.kin.keeps fun b o e=>(e0.bs b o e).1
 have lim:s.heap.NoLimit:=e0.mod.nolimit.keeps fun b o e=>(e0.bs b o e).1
 have hkind:∀y∈ps.zip us,scope.names.lookup y.1=some .local∨(scope.names.lookup y.1=some .cell∧((cellsFrom (s.heap.objs.size+1) scope.names []).lookup y.1).isSome=true):=fun⟨n,v⟩ hy=>by
  rcases S.par n (List.of_mem_zip hy).1 with q|q
  ·exact .inl q
  ·exact .inr ⟨q,PySem.W.cellsFrom_some _ _ _ (.inl q)⟩
 refine codeAny_call_function hr.depth (KX _ _ lk) rfl S.co S.gen rfl (PySem.W.codeRec_of KX hcd) (hb _ _ _ _ ?_)
 refine wpAny_newFunctionEnv_cells S.kind hkind fun env he s1 x=>?_
 subst he
 refine⟨lim.keeps x.toInCall.keep,codeAny_func ?_⟩
 obtain⟨t,ht,hq⟩:=hbody A outer s H vs Q E (hr.deeper _) hsp
 have I:Inv (cxOf CX P w K mg base N qual scope f cdv A outer s H E) [] (start N vs) H s1:=inv_start S hr.hd e0 hl r x
 refine wpAny_mono (ht [] s1 (start N vs) H _ I hq) (fun fl s' hs=>?_) fun e s' hs=>hs
 have fin:∀{σ':St}{H':Hp}{v:V}{u:Value},Inv (cxOf CX P w K mg base N qual scope f cdv A outer s H E) [] σ' H' s'→RelV v u→Q v H'→CE outer P w H s Q u s' :=
  fun {σ' H' v u} J rv q=>⟨v,H',J.os,J.bare,J.base,J.hok,rv,q⟩
 cases fl with
 | ret u =>
  obtain⟨v,σ',H',J,rv,q⟩:=hs
  exact fin J rv q
 | next =>
  obtain⟨σ',H',J,q⟩:=hs
  exact fin (v:=V.non) (u:=Value.none) J rfl q
 | brk =>
  obtain⟨_,_,_,q⟩:=hs
  exact False.elim q
 | cont =>
  obtain⟨_,_,_,q⟩:=hs
  exact False.elim q
end L2
namespace L2
open PySem PySem.Spec PyProof.Rows
section
variable{X:Cx}{x:Str}{p pos:Pos}{e:Expr}{es:List Expr}{t:TA}{id T:String}{r:List V→Hp→VK→Prop}
def tCB(r:List V→Hp→VK→Prop)(t:TA):TE:=fun σ H Q=>t σ H fun vs H1=>r vs H1 Q
theorem Jr(hc:Yo X (.builtin id) r)(hg:Gl X x)(hm:X.mg x=none)(hv:bootBuiltins x=some (.builtin id))(ha:PA X (e::es) t)(hn:x≠"__name__":=by decide)(hdb:(x==("__debug__":Str))=false:=by decide)
  (he:starEach (e::es) X.env=(false,eval e X.env)::starEach es X.env:=by rfl) (hpl:(backTo pos (starEach es X.env)).any (·.1)=false:=by rfl):PE X (.Call (.Name x p) (e::es) [] pos) (tCB r t):=by
 intro pins s σ H Q I h
 refine wpAny_Call_Name_kw (ZB I hg hm hv ?_ hn hdb)
 exact PyProof.Rows.callWith_builtin1 (thn (ha pos pins s σ H _ I h) fun us s1 ⟨vs,H1,I1,r1,q1⟩=>hc pins s1 σ H1 vs us Q I1 r1 q1) he hpl
theorem JK(hc:Yo X (.type T) r)(hg:Gl X x)(hm:X.mg x=none)(hv:bootBuiltins x=some (.type T))(ha:PA X (e::es) t)(hn:x≠"__name__":=by decide)(hdb:(x==("__debug__":Str))=false:=by decide)
  (he:starEach (e::es) X.env=(false,eval e X.env)::starEach es X.env:=by rfl) (hpl:(backTo pos (starEach es X.env)).any (·.1)=false:=by rfl):PE X (.Call (.Name x p) (e::es) [] pos) (tCB r t):=by
 intro pins s σ H Q I h
 refine wpAny_Call_Name_kw (ZB I hg hm hv ?_ hn hdb)
 exact PyProof.Rows.callWith_type1 (thn (ha pos pins s σ H _ I h) fun us s1 ⟨vs,H1,I1,r1,q1⟩=>hc pins s1 σ H1 vs us Q I1 r1 q1) he hpl
end
end L2
namespace HT
open PySem PyProof.Rows
section
open PySem.SeqAt
open PySem.AutoSeq1 (wpAny_loadPart')
open PySem.MeetsSeq PySem.MeetsSeq2 PySem.MeetsSeq3
end
section
variable{prog:Program}{w:World}{A:Around}{E:Value→Shared→Prop}{s:Shared}
theorem cat_tup{t b:Addr}{vs ws:List Value}{Q:Value→Shared→Prop}(ht:IsTup s.heap t vs.toArray)(hb:IsTup s.heap b ws.toArray)(hv:vs≠[])
  (h1:ws=[]→Q (.ref t) s) (h2:ws≠[]→Q (.ref s.heap.objs.size) { s with heap:=s.heap.push { cls:=.type "tuple",data:=.seq (vs++ws).toArray } })
  (hsz:vs.length+ws.length≤sizeLine):wpAny (model prog w) A (binaryOp .Add (.ref t) (.ref b)) Q E s:=by
 obtain⟨⟨cls,dd,data,sl⟩,ho,hc,n,hd⟩:=id ht
 obtain⟨⟨cls2,dd2,data2,sl2⟩,ho2,hc2,n2,hd2⟩:=id hb
 simp only at hc hd hc2 hd2
 subst hc hd hc2 hd2
 have e:vs.toArray++ws.toArray=(vs++ws).toArray:=by simp
 by_cases hw:ws=[]
 ·exact concat_meets ⟨_,ho,rfl⟩ ⟨_,ho2,rfl⟩ noFill_tuple_add seq_tuple_add PySem.F.slot_tuple_add PySem.F.entry_tuple_add (PySem.F.args_tuple_add_2 _ _)
   (tuple_addW1 t b vs.toArray ws.toArray n n2 dd dd2 sl sl2 (by simpa using hv) (by simp[hw])) ⟨ho,ho2,h1 hw⟩
 ·refine concat_meets ⟨_,ho,rfl⟩ ⟨_,ho2,rfl⟩ noFill_tuple_add seq_tuple_add PySem.F.slot_tuple_add PySem.F.entry_tuple_add (PySem.F.args_tuple_add_2 _ _)
   (tuple_addW2 t b vs.toArray ws.toArray n n2 dd dd2 sl sl2 (by simpa using hv) (by simpa using hw) (by rw[List.size_toArray,List.size_toArray];exact hsz)) ⟨ho,ho2,?_⟩
  rw[e]
  exact h2 hw
def sIx(n d:Nat):Option Int→Nat
 | none=>d
 | some v=>if v < 0 then (v + (n:Int)).toNat else min v.toNat n
theorem sIx_nat(n d k:Nat):sIx n d (some (k:Int))=min k n:=by
 show(if (k:Int)<0 then((k:Int)+(n:Int)).toNat else min (k:Int).toNat n)=min k n
 rw[if_neg (by omega),Int.toNat_natCast]
theorem sIx_le(n d:Nat)(hd:d≤n)(o:Option Int):sIx n d o≤n:=by
 cases o with
 | none=>exact hd
 | some v =>
  show(if v<0 then(v+(n:Int)).toNat else min v.toNat n)≤n
  by_cases hv:v<0
  ·rw [if_pos hv]; omega
  ·rw [if_neg hv]; exact Nat.min_le_right _ _
theorem clip_eq(v:Int)(n d:Nat):(if v<0 then max (v+(n:Int)) 0 else min v (n:Int))=((sIx n d (some v):Nat):Int):=by
 show(if v<0 then max (v+(n:Int)) 0 else min v (n:Int))=(((if v<0 then(v+(n:Int)).toNat else min v.toNat n):Nat):Int)
 by_cases hv:v<0
 ·simp only [if_pos hv]; omega
 ·simp only [if_neg hv]; omega
theorem adjust_gen(lo hi:Option Int)(n:Nat):Builtin.Slice.sliceAdjust lo hi 1 (n:Int)=(((sIx n 0 lo:Nat):Int),((sIx n n hi:Nat):Int)):=by
 have h1:¬ ((1:Int)<0):=by omega
 unfold Builtin.Slice.sliceAdjust
 simp only[h1,if_false]
 refine Prod.ext ?_ ?_
 ·cases lo with
  | none=>rfl
  | some v=>exact clip_eq v n 0
 ·cases hi with
  | none=>rfl
  | some v=>exact clip_eq v n n
theorem places_gen(i j:Nat):Builtin.Slice.slicePlaces (i:Int) (j:Int) 1=j-i:=by
 unfold Builtin.Slice.slicePlaces
 have h1:(1:Int)>0:=by omega
 simp only[h1,if_true,Int.ediv_one]
 split<;>omega
theorem Ql{v:Value}{o:Option Int}{Q:Option Int→Shared→Prop}(p:IsPart v o)(h:Q o s):wpAny (model prog w) A (Builtin.Slice.slicePartIndex v) Q E s:=by
 cases p with
 | none=>exact slicePart_none h
 | int i t=>exact slicePart_int h
theorem sliceApplied_gen{sl:Addr}{vl vu:Value}{lo hi:Option Int}{n:Nat}{Q:Int×Int×Nat→Shared→Prop}(hs:s.heap.IsSliceOf sl vl vu .none)(pl:IsPart vl lo)(pu:IsPart vu hi)
  (h:Q (((sIx n 0 lo:Nat):Int),1,sIx n n hi-sIx n 0 lo) s):wpAny (model prog w) A (Builtin.Slice.sliceApplied (.ref sl) (pure (n:Int))) Q E s:=by
 obtain⟨os,hos,hcs,hds⟩:=id hs
 unfold Builtin.Slice.sliceApplied Builtin.Slice.sliceFields
 refine wpAny_bind (wpAny_bind (wpAny_field hos hds (x:=vl) rfl (wpAny_bind (wpAny_field hos hds (x:=vu) rfl (wpAny_bind (wpAny_field hos hds (x:=.none) rfl (wpAny_pure ?_)))))))
 refine wpAny_bind (slicePart_none ?_)
 show wpAny _ _ (if ((1:Int)==0)=true then _ else _) _ _ s
 rw[if_neg (by decide)]
 refine wpAny_bind (Ql pl (wpAny_bind (Ql pu (wpAny_bind (wpAny_pure ?_)))))
 show wpAny _ _ (match Builtin.Slice.sliceAdjust lo hi 1 (n:Int) with|(lo,hi)=>pure (lo,(1:Int),Builtin.Slice.slicePlaces lo hi 1)) _ _ s
 rw[adjust_gen lo hi n]
 show wpAny _ _ (pure (((sIx n 0 lo:Nat):Int),(1:Int),Builtin.Slice.slicePlaces ((sIx n 0 lo:Nat):Int) ((sIx n n hi:Nat):Int) 1)) _ _ s
 rw[places_gen]
 exact wpAny_pure h
theorem pick_gen(xs:Array Value)(i k:Nat):((List.range k).filterMap fun(m:Nat)=>xs[((i:Int)+(m:Int)*1).toNat]?).toArray=((xs.toList.drop i).take k).toArray:=by
 have e:(fun(m:Nat)=>xs[((i:Int)+(m:Int)*1).toNat]?)=fun m=>xs[i+m]?:=by
  funext m
  have:((i:Int)+(m:Int)*1).toNat=i+m:=by omega
  rw[this]
 rw[e]
 have:=pick_run xs i k
 rw[List.filterMap_map]at this
 have e2:((fun x=>xs[x]?)∘fun x=>i+x)=fun m=>xs[i+m]?:=rfl
 rw[e2]at this
 rw[this]
theorem getItem_tuple_cut{t sl:Addr}{items:Array Value}{vl vu:Value}{lo hi:Option Int}{Q:Value→Shared→Prop}(ht:IsTup s.heap t items)(hs:s.heap.IsSliceOf sl vl vu .none)(pl:IsPart vl lo)(pu:IsPart vu hi)
  (hw:¬ (sIx items.size 0 lo=0∧sIx items.size items.size hi=items.size))
  (h:Q (.ref s.heap.objs.size) { s with heap:=s.heap.push { cls:=.type "tuple",data:=.seq ((items.toList.drop (sIx items.size 0 lo)).take (sIx items.size items.size hi-sIx items.size 0 lo)).toArray } })
  (hsz:items.size≤sizeLine):wpAny (model prog w) A (getItem (.ref t) (.ref sl)) Q E s:=by
 have htake:sizeOk (.seq ((items.toList.drop (sIx items.size 0 lo)).take (sIx items.size items.size hi-sIx items.size 0 lo)).toArray):=by
  show((items.toList.drop (sIx items.size 0 lo)).take (sIx items.size items.size hi-sIx items.size 0 lo)).toArray.size≤sizeLine
  rw[List.size_toArray,List.length_take,List.length_drop,Array.length_toList]
  omega
 have hj:sIx items.size items.size hi≤items.size:=sIx_le _ _ (Nat.le_refl _) hi
 obtain⟨os,hos,hcs,hds⟩:=id hs
 have hTs:s.TypeIs (.ref sl) "slice":=⟨os,hos,hcs⟩
 unfold getItem
 try with_reducible refine wpAny_holding ?_
 first|refine wpAny_bind (wpAny_pure ?_)|skip
 refine wpAny_bind (wpAny_sequenceKey ht.typeIs (by decide) ?_)
 refine wpAny_bind (wpAny_callSpecial?_slot (name:=Str.ofString "__getitem__") ht.typeIs PyProof.Rows.slot_tuple_getitem
  (wpAny_call_entry PyProof.Rows.slot_tuple_getitem ht.typeIs entry_tuple_getitem ?_ (args_tuple_getitem _ _)))
 show wpAny _ _ (Builtin.Tuple.tupleItemsOf (.ref t) >>= _) _ _ s
 refine wpAny_bind (tupleItemsOf_ ht ?_)
 refine wpAny_bind (wpAny_typeOf hTs ?_)
 rw[if_pos (by decide)]
 refine wpAny_bind (sliceApplied_gen hs pl pu ?_)
 have hno:¬ ((((sIx items.size 0 lo:Nat):Int)==0&&(1:Int)==1&&(sIx items.size items.size hi-sIx items.size 0 lo)==items.size)=true):=by
  intro q
  rw[Bool.and_eq_true,Bool.and_eq_true]at q
  have q1:((sIx items.size 0 lo:Nat):Int)=0:=eq_of_beq q.1.1
  have q2:sIx items.size items.size hi-sIx items.size 0 lo=items.size:=eq_of_beq q.2
  exact hw ⟨by omega,by omega⟩
 show wpAny _ _ (if (((sIx items.size 0 lo:Nat):Int)==0&&(1:Int)==1&&(sIx items.size items.size hi-sIx items.size 0 lo)==items.size)=true then _ else _) _ _ s
 rw[if_neg hno,pick_gen]
 first
  | exact wpAny_bind (m:=Builtin.Tuple.tupleExact _) (wpAny_newObj_type (wpAny_pure ⟨_,rfl,wpAny_pure h⟩) htake)
  | exact wpAny_bind (m:=Builtin.Tuple.tupleExact _) (wpAny_newObj_type (wpAny_bind (wpAny_pure (wpAny_pure ⟨_,rfl,wpAny_pure h⟩))) htake)
  | exact wpAny_bind (wpAny_bind (m:=Builtin.Tuple.tupleExact _) (wpAny_newObj_type (wpAny_pure (wpAny_pure ⟨_,rfl,wpAny_pure h⟩)) htake))
  | exact wpAny_bind (wpAny_bind (m:=Builtin.Tuple.tupleExact _) (wpAny_newObj_type (wpAny_pure ⟨_,rfl,wpAny_pure h⟩) htake))
end
end HT
namespace L2
open PySem PySem.Spec PyProof.Rows
abbrev TO:=St→Hp→(Option Int→Hp→Prop)→Prop
def PO(X:Cx)(e:Option Expr)(t:TO):Prop :=
 ∀(pins:List (Addr×Obj))(s:Shared)(σ:St)(H:Hp)(Q:Option Int→Hp→Prop),Inv X pins σ H s→t σ H Q →
  wpAny (model X.prog X.w) X.A (evalPart e X.env) (fun u s'=>∃o H',Inv X pins σ H' s'∧IsPart u o∧Q o H') X.xe s
def tNoPart:TO:=fun _ H Q=>Q none H
def tPart(t:TE):TO:=fun σ H Q=>t σ H fun x H1=>∃i,x=.int i∧Q (some i) H1
theorem ZX{ns:List Int}:∀{us:List Value},Vals (ns.map V.int) us→IntsAre us ns:=by
 induction ns with
 | nil=>intro us r; rw [List.map_nil] at r; cases r; exact .nil
 | cons n ns ih =>
  intro us r
  rw[List.map_cons]at r
  cases r with
  | cons r1 r2 =>
   obtain⟨t,e⟩:=r1
   subst e
   exact .cons n t (ih r2)
section
variable{X:Cx}{e:Expr}{te:TE}{lo hi:Option Expr}{tl th:TO}{pos p2:Pos}
theorem po_none:PO X none tNoPart:=by
 intro pins s σ H Q I h
 rw[evalPart_none]
 exact wpAny_pure ⟨none,H,I,.none,h⟩
theorem Ud(h:PE X e te):PO X (some e) (tPart te):=by
 intro pins s σ H Q I hw
 rw[evalPart_some]
 refine thn (h pins s σ H _ I hw) fun u s1 ⟨x,H1,I1,r1,q1⟩=>?_
 obtain⟨i,rfl,q⟩:=q1
 obtain⟨t,rfl⟩:=r1
 exact⟨some i,H1,I1,.int i t,q⟩
def SlR(X:Cx)(r:V→Option Int→Option Int→Hp→VK→Prop):Prop :=
 ∀(pins:List (Addr×Obj))(s:Shared)(σ:St)(H:Hp)(x:V)(v vl vu:Value)(lo hi:Option Int)(sl:Addr)(Q:VK),Inv X pins σ H s→RelV x v→s.heap.IsSliceOf sl vl vu .none→IsPart vl lo→IsPart vu hi→r x lo hi H Q →
  ∃T id,typeLookup (.type T) "__getitem__"=pure (some (.builtin id))∧s.TypeIs v T∧wpAny (model X.prog X.w) X.A (getItem v (.ref sl)) (EP X pins σ Q) X.xe s
def tSl(r:V→Option Int→Option Int→Hp→VK→Prop)(te:TE)(tl th:TO):TE:=fun σ H Q=>te σ H fun x H1=>tl σ H1 fun l H2=>th σ H2 fun u H3=>r x l u H3 Q
theorem Ue{r:V→Option Int→Option Int→Hp→VK→Prop}(hr:SlR X r)(he:PE X e te)(hl:PO X lo tl)(hu:PO X hi th):PE X (.Subscript e (.Slice lo hi none p2) pos) (tSl r te tl th):=by
 intro pins s σ H Q I h
 refine Subscript_ (thn (he pins s σ H _ I h) fun v s1 ⟨x,H1,I1,r1,q1⟩=>?_)
 refine wpAny_Slice (thn (hl pins s1 σ H1 _ I1 q1) fun vl s2 ⟨l,H2,I2,pl,q2⟩=>thn (hu pins s2 σ H2 _ I2 q2) fun vu s3 ⟨u,H3,I3,pu,q3⟩=>?_)
 rw[evalPart_none]
 refine wpAny_pure ?_
 have I4:Inv X pins σ H3 { s3 with heap:=s3.heap.push { cls:=.type "slice",data:=.fields #[vl,vu,.none] } }:=I3.kept (t':=s3.toks) fun b ob q=>Heap.get?_push_of_some _ q
 obtain⟨T,id,hT,ht,hg⟩:=hr pins { s3 with heap:=s3.heap.push { cls:=.type "slice",data:=.fields #[vl,vu,.none] } } σ H3 x v vl vu l u s3.heap.objs.size Q I4 r1 (Heap.IsSliceOf.new ..) pl pu q3
 show wpAny (model X.prog X.w) X.A (subscriptTail e (.Slice lo hi none p2) v (.ref s3.heap.objs.size)) (EP X pins σ Q) X.xe { s3 with heap:=s3.heap.push { cls:=.type "slice",data:=.fields #[vl,vu,.none] } }
 exact tail_any (ops:=[.ref s3.heap.objs.size,v]) ht hT hg (by with_unfolding_all rfl)
def cutV(xs:List V)(lo hi:Option Int):List V:=(xs.drop (HT.sIx xs.length 0 lo)).take (HT.sIx xs.length xs.length hi-HT.sIx xs.length 0 lo)
theorem Wv(xs:List V)(lo hi:Option Int):(cutV xs lo hi).length≤xs.length:=by
 unfold cutV
 rw[List.length_take,List.length_drop]
 omega
def rSlT(K:PySem.W.Frag):V→Option Int→Option Int→Hp→VK→Prop:=fun x lo hi H Q=>∃a xs,x=.ref a∧SqT K H a xs ∧
 ¬ (HT.sIx xs.length 0 lo=0∧HT.sIx xs.length xs.length hi=xs.length)∧∀p,H p=none→Q (.ref p) (upd H p (.tup (cutV xs lo hi)))
theorem sl_tup:SlR X (rSlT X.K):=by
 intro pins s σ H x v vl vu lo hi sl Q I rx hs pl pu h
 obtain⟨a,xs,rfl,hx,hw,q⟩:=h
 cases rx
 obtain⟨its,r,ht,hz⟩:=I.tuple hx
 have hlen:its.toArray.size=xs.length:=by rw[List.size_toArray];exact r.length.symm
 refine⟨"tuple",_,PyProof.Rows.slot_tuple_getitem.lookup,ht.typeIs,?_⟩
 refine HT.getItem_tuple_cut ht hs pl pu (by rw[hlen];exact hw) ?_ (by rw[hlen];exact hz)
 rw[hlen]
 refine⟨.ref s.heap.objs.size,_,I.laid (t':=s.toks) (o:=.tup (cutV xs lo hi)) (fun b ob q=>Heap.get?_push_of_some _ q) (Nat.le_refl _) ?_,rfl,q _ (I.hok.fresh (Nat.le_refl _))⟩
 exact⟨Nat.le_trans (Wv xs lo hi) hz,_,(r.drop (HT.sIx xs.length 0 lo)).take (HT.sIx xs.length xs.length hi-HT.sIx xs.length 0 lo),IsTup.new _ _⟩
def rCatT(K:PySem.W.Frag):R2:=fun x y H Q=>∃a b xs ys,x=.ref a∧y=.ref b∧SqT K H a xs∧SqT K H b ys∧xs≠[]∧xs.length+ys.length≤sizeLine ∧
 (ys=[]→Q (.ref a) H)∧(ys≠[]→∀p,H p=none→Q (.ref p) (upd H p (.tup (xs++ys))))
theorem Vals.nil_iff{xs:List V}{us:List Value}(r:Vals xs us):us=[]↔xs=[]:=by
 cases r with
 | nil=>simp
 | cons _ _=>simp
theorem op_catT:OpR X (binaryOp .Add) (rCatT X.K):=by
 intro pins s σ H x y v u Q I rx ry h
 obtain⟨a,b,xs,ys,rfl,rfl,ha,hb,hx,hz,q1,q2⟩:=h
 cases rx
 cases ry
 obtain⟨its,r1,p1,_⟩:=I.tuple ha
 obtain⟨its2,r2,p2,_⟩:=I.tuple hb
 refine HT.cat_tup p1 p2 (fun z=>hx (r1.nil_iff.mp z)) (fun z=>⟨.ref a,H,I,rfl,q1 (r2.nil_iff.mp z)⟩) (fun z=>?_) (by rw[← r1.length,← r2.length];exact hz)
 refine⟨.ref s.heap.objs.size,_,I.laid (t':=s.toks) (o:=.tup (xs++ys)) (fun b ob q=>Heap.get?_push_of_some _ q) (Nat.le_refl _) ?_,rfl,q2 (fun w=>z (r2.nil_iff.mpr w)) _ (I.hok.fresh (Nat.le_refl _))⟩
 exact⟨by rw[List.length_append];exact hz,_,r1.append r2,IsTup.new _ _⟩
end
end L2
namespace L2
open PySem PySem.Spec PyProof.Rows
def ixN(n:Nat)(i:Int):Option Nat:=if 0≤i then(if i<n then some i.toNat else none)else if -(n:Int)≤i then some (i+n).toNat else none
def atI{α:Type}(xs:List α)(i:Int):Option α:=(ixN xs.length i).bind fun j=>xs[j]?
theorem ixN_seq{n:Nat}{i:Int}{j:Nat}(h:ixN n i=some j):seqIndex? i n=some j∧j<n∧-(n:Int)≤i∧i<n:=by
 unfold ixN at h
 by_cases h0:0≤i
 ·rw [if_pos h0] at h
  by_cases h1:i<n
  ·rw [if_pos h1] at h
   have e:i.toNat=j:=Option.some.inj h
   exact⟨by rw[seqIndex_of h0 h1,e],by omega,by omega,h1⟩
  ·rw [if_neg h1] at h; cases h
 ·rw [if_neg h0] at h
  by_cases h1:-(n:Int)≤i
  ·rw [if_pos h1] at h
   have e:(i+n).toNat=j:=Option.some.inj h
   exact⟨by rw[seqIndex_neg (by omega) h1,e],by omega,h1,by omega⟩
  ·rw [if_neg h1] at h; cases h
theorem atI_get{α:Type}{xs:List α}{i:Int}{v:α}(h:atI xs i=some v):∃j,seqIndex? i xs.length=some j∧xs[j]?=some v∧j<xs.length∧-(xs.length:Int)≤i∧i<xs.length:=by
 unfold atI at h
 cases e:ixN xs.length i with
 | none=>rw [e] at h; cases h
 | some j =>
  rw[e]at h
  obtain⟨h1,h2,h3,h4⟩:=ixN_seq e
  exact⟨j,h1,h,h2,h3,h4⟩
theorem Yx{α:Type}{xs:List α}{j:Nat}{v:α}(h:xs[j]?=some v):atI xs (j:Int)=some v:=by
 have hj:j<xs.length:=(List.getElem?_eq_some_iff.mp h).1
 have e:ixN xs.length (j:Int)=some j:=by
  unfold ixN
  rw[if_pos (by omega),if_pos (by omega)];simp
 unfold atI;rw[e];exact h
theorem atI_last{α:Type}(xs:List α)(v:α):atI (xs++[v]) (-1)=some v:=by
 have hl:(xs++[v]).length=xs.length+1:=by simp
 have e:ixN (xs++[v]).length (-1)=some xs.length:=by
  unfold ixN
  rw[hl,if_neg (by decide),if_pos (by omega)]
  congr 1
  omega
 unfold atI
 rw[e]
 show(xs++[v])[xs.length]?=some v
 simp
def PlainIx(b:Expr):Prop:=∀o i,subscripted b false o i=operate [o,i] (getItem o i)
def IxR(X:Cx)(r:R2):Prop :=
 ∀(value slice:Expr)(pins:List (Addr×Obj))(s:Shared)(σ:St)(H:Hp)(x y:V)(v u:Value)(Q:VK),Inv X pins σ H s→RelV x v→RelV y u→r x y H Q →
  subscripted slice false v u=operate [v,u] (getItem v u)→wpAny (model X.prog X.w) X.A (subscriptTail value slice v u) (EP X pins σ Q) X.xe s
def MtR(X:Cx)(id:String)(r:V→List V→Hp→VK→Prop):Prop :=
 ∀(pins:List (Addr×Obj))(s:Shared)(σ:St)(H:Hp)(x:V)(xs:List V)(v:Value)(us:List Value)(Q:VK),Inv X pins σ H s→RelV x v→Vals xs us→r x xs H Q →
  wpAny (model X.prog X.w) X.A (call (.builtin id) (v::us)) (EP X pins σ Q) X.xe s
section
variable{X:Cx}{a b:Expr}{ta tb:TE}{pos:Pos}
theorem Jx{r:R2}(hr:IxR X r)(ha:PE X a ta)(hb:PE X b tb)(hs:PlainIx b):PE X (.Subscript a b pos) (tOp r ta tb):=by
 intro pins s σ H Q I h
 exact Subscript_ (binT ha hb I h fun v u s2 x y H2 I2 rx ry q=>hr a b pins s2 σ H2 x y v u Q I2 rx ry q (hs _ _))
def rIxL(K:PySem.W.Frag):R2:=fun x y H Q=>∃p xs i v,x=.ref p∧y=.int i∧SqL K H p xs∧atI xs i=some v∧Q v H
def rIxT(K:PySem.W.Frag):R2:=fun x y H Q=>∃p xs i v,x=.ref p∧y=.int i∧SqT K H p xs∧atI xs i=some v∧Q v H
theorem JL:IxR X (rIxL X.K):=by
 intro value slice pins s σ H x y v u Q I rx ry h hs
 obtain⟨p,xs,i,z,rfl,rfl,hq,he,q⟩:=h
 cases rx
 obtain⟨t,rfl⟩:=ry
 obtain⟨its,r,pl,hz⟩:=I.list hq
 obtain⟨j,h1,h2,h3,h4,h5⟩:=atI_get he
 obtain⟨w,ew,rw'⟩:=r.get h2
 have hl:=r.length
 have hn:=QC
 have fin:EP X pins σ Q w s:=⟨z,H,I,rw',q⟩
 by_cases h0:0≤i
 ·have hj:i.toNat=j:=by
   rw[seqIndex_of h0 h5]at h1
   exact Option.some.inj h1
  exact item_listR pl.isList h0 (by omega) (by rw[hj];simpa using ew) fin hs
 ·have hj:(i + (its.toArray.size:Int)).toNat=j:=by
   rw[seqIndex_neg (by omega) h4]at h1
   rw[List.size_toArray,← hl]
   exact Option.some.inj h1
  exact subscriptTail_builtinR (x:=w) pl.isList.typeIs slot_list_getitem.lookup
   (wpAny_getItem_list_neg (Q:=fun r s'=>r=w∧EP X pins σ Q r s') pl.isList (by omega) (by rw[List.size_toArray]<;>omega) (by omega) (by rw[hj];simpa using ew) ⟨rfl,fin⟩) hs
theorem JA:IxR X (rIxT X.K):=by
 intro value slice pins s σ H x y v u Q I rx ry h hs
 obtain⟨p,xs,i,z,rfl,rfl,hq,he,q⟩:=h
 cases rx
 obtain⟨t,rfl⟩:=ry
 obtain⟨its,r,pl,hz⟩:=I.tuple hq
 obtain⟨j,h1,h2,h3,h4,h5⟩:=atI_get he
 obtain⟨w,ew,rw'⟩:=r.get h2
 have hl:=r.length
 have hn:=QC
 have fin:EP X pins σ Q w s:=⟨z,H,I,rw',q⟩
 exact subscriptTail_builtinR (x:=w) pl.typeIs slot_tuple_getitem.lookup
  (getItem_tuple (j:=j) (Q:=fun r s'=>r=w∧EP X pins σ Q r s') pl (by omega) (by omega) (by rw[List.size_toArray,← hl];exact h1) (by simpa using ew) ⟨rfl,fin⟩) hs
theorem mapSeq_set(its:List Value)(n j:Nat)(u:Value):Obj.mapSeq (·.setIfInBounds j u) { cls:=.type "list",data:=.seq its.toArray n }={ cls:=.type "list",data:=.seq (its.set j u).toArray n }:=by
 simp[Obj.mapSeq]
theorem Inv.lst{pins:List (Addr×Obj)}{σ:St}{H:Hp}{s:Shared}{p:Addr}{xs:List V}(I:Inv X pins σ H s)(h:H p=some (.lst xs)) :
  ∃(its:List Value)(n:Nat),Vals xs its∧s.heap.get? p=some { cls:=.type "list",data:=.seq its.toArray n }∧xs.length≤sizeLine:=by
 obtain⟨z,its,n,r,e⟩:=I.hok p _ h
 exact⟨its,n,r,e,z⟩
theorem Inv.lstUpd{pins:List (Addr×Obj)}{σ:St}{H:Hp}{s:Shared}{p:Addr}{xs ys:List V}{its its':List Value}{n n':Nat}{f:Obj→Obj}(I:Inv X pins σ H s)(h:H p=some (.lst xs))
  (ho:s.heap.get? p=some { cls:=.type "list",data:=.seq its.toArray n }) (hf:f { cls:=.type "list",data:=.seq its.toArray n }={ cls:=.type "list",data:=.seq its'.toArray n' }) (r:Vals ys its') (hz:ys.length≤sizeLine) (t:Nat) :
  Inv X pins σ (upd H p (.lst ys)) { s with heap:=s.heap.update p f,toks:=t }:=by
 have e:(s.heap.update p f).get? p=some { cls:=.type "list",data:=.seq its'.toArray n' }:=by
  rw[Heap.get?_update_self f ho (by rw[hf]<;>rfl),hf]
 refine I.write (x:=p) (e:=p) (by rw[h];trivial) (.inl rfl) (fun b u hb q=>(Heap.get?_update_other _ _ (Ne.symm hb)).trans q) ⟨_,e⟩ ?_
 exact⟨hz,its',n',r,e⟩
def rSetL:V→V→V→Hp→(Hp→Prop)→Prop:=fun o i v H Q=>∃p xs k j,o=.ref p∧i=.int k∧H p=some (.lst xs)∧ixN xs.length k=some j∧Q (upd H p (.lst (xs.set j v)))
theorem Qn:PSet X rSetL:=by
 intro pins s σ H o i v ov iv u Q I ro ri rv h
 obtain⟨p,xs,k,j,rfl,rfl,hp,hj,q⟩:=h
 cases ro
 obtain⟨t,rfl⟩:=ri
 obtain⟨its,n,r,ho,hz⟩:=I.lst hp
 obtain⟨h1,h2,h3,h4⟩:=ixN_seq hj
 have hl:=r.length
 have hn:=QC
 have I':Inv X pins σ (upd H p (.lst (xs.set j v))) { s with heap:=s.heap.update p (Obj.mapSeq (·.setIfInBounds j u)) } :=
  I.lstUpd hp ho (mapSeq_set its n j u) (r.set rv j) (by rw[List.length_set];exact hz) s.toks
 by_cases h0:0≤k
 ·have hk:k.toNat=j:=by
   rw[seqIndex_of h0 h4]at h1
   exact Option.some.inj h1
  exact PySem.W.ki_setAt ho h0 (by omega) (by rw[List.size_toArray,← hl];exact h4) (by rw[hk];exact⟨_,I',q⟩)
 ·have hk:(k + (its.toArray.size:Int)).toNat=j:=by
   rw[seqIndex_neg (by omega) h3]at h1
   rw[List.size_toArray,← hl]
   exact Option.some.inj h1
  exact PySem.W.ki_setBack ho (by omega) (by rw[List.size_toArray,← hl];exact h3) (by omega) (by rw[hk];exact⟨_,I',q⟩)
theorem slice_bounds(lo hi:Option Int)(n:Nat):(sliceBounds lo hi none n).1=((HT.sIx n 0 lo:Nat):Int)∧(sliceBounds lo hi none n).2.1=((HT.sIx n n hi:Nat):Int)∧(sliceBounds lo hi none n).2.2=1:=by
 refine⟨?_,?_,rfl⟩
 ·cases lo with
  | none=>simp [sliceBounds,HT.sIx]
  | some i =>
   simp only[sliceBounds,HT.sIx,Option.getD_none,show(1:Int)>0 by decide,if_true]
   by_cases h:i<0
   ·simp only [h,if_true] <;> omega
   ·simp only [h,if_false] <;> omega
 ·cases hi with
  | none=>simp [sliceBounds,HT.sIx]
  | some i =>
   simp only[sliceBounds,HT.sIx,Option.getD_none,show(1:Int)>0 by decide,if_true]
   by_cases h:i<0
   ·simp only [h,if_true] <;> omega
   ·simp only [h,if_false] <;> omega
theorem QR(its:List Value)(lo hi:Option Int):slicePick its.toArray lo hi none=((its.drop (HT.sIx its.length 0 lo)).take (HT.sIx its.length its.length hi-HT.sIx its.length 0 lo)).toArray:=by
 obtain⟨h1,h2,h3⟩:=slice_bounds lo hi its.toArray.size
 unfold slicePick
 rw[h1,h2,h3]
 simp only[sliceRange_one,pick_run,List.size_toArray]<;>rfl
def rSlL(K:PySem.W.Frag):V→Option Int→Option Int→Hp→VK→Prop:=fun x lo hi H Q=>∃a xs,x=.ref a∧SqL K H a xs∧∀p,H p=none→Q (.ref p) (upd H p (.lst (cutV xs lo hi)))
theorem sl_list:SlR X (rSlL X.K):=by
 intro pins s σ H x v vl vu lo hi sl Q I rx hs pl pu h
 obtain⟨a,xs,rfl,hx,q⟩:=h
 cases rx
 obtain⟨its,r,ht,hz⟩:=I.list hx
 have hlen:=r.length
 refine⟨"list",_,slot_list_getitem.lookup,ht.isList.typeIs,?_⟩
 refine wpAny_getItem_list_slice ht.isList hs pl pu .none (by simp) ?_ (by rw[List.size_toArray]<;>omega)
 rw[QR,← hlen]
 refine⟨.ref s.heap.objs.size,_,I.laid (t':=s.toks) (o:=.lst (cutV xs lo hi)) (fun b ob q=>Heap.get?_push_of_some _ q) (Nat.le_refl _) ?_,rfl,q _ (I.hok.fresh (Nat.le_refl _))⟩
 exact⟨Nat.le_trans (Wv xs lo hi) hz,_,0,(r.drop (HT.sIx xs.length 0 lo)).take (HT.sIx xs.length xs.length hi-HT.sIx xs.length 0 lo),Heap.get?_push_size _ rfl⟩
def ZY:V→Bool
 | .non=>true
 | .bl _=>true
 | .int _=>true
 | .str _=>true
 | _=>false
def eqV:V→V→Bool
 | .non,.non=>true
 | .bl a,.bl b=>a == b
 | .bl a,.int b=>(if a then 1 else 0) == b
 | .int a,.bl b=>a == (if b then 1 else 0)
 | .int a,.int b=>a == b
 | .str a,.str b=>a == b
 | _,_=>false
theorem eqAt_V{A:Around}{s:Shared}{y x:V}{u v:Value}(ry:RelV y u)(rx:RelV x v)(fy:ZY y=true)(fx:ZY x=true):SeqAt.EqAt A s u v (eqV y x):=by
 cases y with
 | non =>
  cases ry
  cases x with
  | non=>cases rx; exact SeqAt.EqAt.same _
  | bl b=>cases rx; exact SeqAt.EqAt.none_bool b
  | int b=>obtain ⟨t,rfl⟩:=rx; exact SeqAt.EqAt.none_int b t
  | str b=>obtain ⟨t,rfl⟩:=rx; exact SeqAt.EqAt.none_str b t
  | _=>exact absurd (show false=true from fx) Bool.false_ne_true
 | bl a =>
  cases ry
  cases x with
  | non=>cases rx; exact SeqAt.EqAt.bool_none a
  | bl b=>cases rx; exact SeqAt.EqAt.bool_bool a b
  | int b=>obtain ⟨t,rfl⟩:=rx; exact SeqAt.EqAt.bool_int a b t
  | str b=>obtain ⟨t,rfl⟩:=rx; exact SeqAt.EqAt.bool_str a b t
  | _=>exact absurd (show false=true from fx) Bool.false_ne_true
 | int a =>
  obtain⟨t',rfl⟩:=ry
  cases x with
  | non=>cases rx; exact SeqAt.EqAt.int_none a t'
  | bl b=>cases rx; exact SeqAt.EqAt.int_bool a t' b
  | int b=>obtain ⟨t,rfl⟩:=rx; exact SeqAt.EqAt.int_int a t' b t
  | str b=>obtain ⟨t,rfl⟩:=rx; exact SeqAt.EqAt.int_str a t' b t
  | _=>exact absurd (show false=true from fx) Bool.false_ne_true
 | str a =>
  obtain⟨t',rfl⟩:=ry
  cases x with
  | non=>cases rx; exact SeqAt.EqAt.str_none a t'
  | bl b=>cases rx; exact SeqAt.EqAt.str_bool a t' b
  | int b=>obtain ⟨t,rfl⟩:=rx; exact SeqAt.EqAt.str_int a t' b t
  | str b=>obtain ⟨t,rfl⟩:=rx; exact SeqAt.EqAt.str_str a t' b t
  | _=>exact absurd (show false=true from fx) Bool.false_ne_true
 | _=>exact absurd (show false=true from fy) Bool.false_ne_true
theorem Ym:Yo X (.builtin "len") (fun xs H Q=>∃p ys,xs=[.ref p]∧(SqL X.K H p ys∨SqT X.K H p ys)∧Q (.int ys.length) H):=by
 intro pins s σ H xs us Q I r h
 obtain⟨p,ys,rfl,hq,q⟩:=h
 obtain⟨u,rfl,rx⟩:=Yu r
 cases rx
 have hn:=QC
 rcases hq with hq|hq
 ·obtain ⟨its,r',pl,hz⟩:=I.list hq
  have hlen:=r'.length
  exact Calls.call_len_list pl.isList (by simp only[List.size_toArray]<;>omega) ⟨.int ys.length,H,I.tok _,⟨s.toks+1,by rw[List.size_toArray,hlen]⟩,q⟩
 ·obtain ⟨its,r',pl,hz⟩:=I.tuple hq
  have hlen:=r'.length
  exact len_tuple pl (by simp only[List.size_toArray]<;>omega) ⟨.int ys.length,H,I.tok _,⟨s.toks+1,by rw[List.size_toArray,hlen]⟩,q⟩
theorem JC:Yo X (.type "tuple") (fun xs H Q=>∃p ys,xs=[.ref p]∧((SqL X.K H p ys∧∀l,H l=none→Q (.ref l) (upd H l (.tup ys)))∨(SqT X.K H p ys∧Q (.ref p) H))):=by
 intro pins s σ H xs us Q I r h
 obtain⟨p,ys,rfl,h⟩:=h
 obtain⟨u,rfl,rx⟩:=Yu r
 cases rx
 rcases h with⟨hq,q⟩|⟨hq,q⟩
 ·obtain ⟨its,r',pl,hz⟩:=I.list hq
  have hlen:=r'.length
  refine call_tuple_list pl.isList (fun h' kp=>?_) (by simp only[List.size_toArray]<;>omega)
  have I1:Inv X pins σ H { s with heap:=h' }:=I.kept (t':=s.toks) kp
  have I2:Inv X pins σ (upd H h'.objs.size (.tup ys)) { s with heap:=h'.push { cls:=.type "tuple",data:=.seq its.toArray } } :=
   I1.laid (t':=s.toks) (fun b o e=>Heap.get?_push_of_some _ e) (Nat.le_refl _) (show ObjOk X.prog X.w _ _ _ (.tup ys) from⟨hz,its,r',IsTup.new _ _⟩)
  exact⟨.ref h'.objs.size,_,I2,rfl,q _ (I1.hok.fresh (Nat.le_refl _))⟩
 ·obtain ⟨its,r',pl,hz⟩:=I.tuple hq
  exact call_tuple_same pl ⟨.ref p,H,I,rfl,q⟩
def tyV(K:PySem.W.Frag)(T:String)(x:V)(H:Hp):Prop:=match x with
 | .str _=>T="str"
 | .int _=>T="int"
 | .ref p=>(T="list"∧∃ xs,SqL K H p xs)∨(T="tuple"∧∃ o,K.lookup p=some o∧o.cls=.type "tuple"∧o.dict=none) ∨
   (T="dict"∧((∃kvs,H p=some (.dK kvs))∨∃kvs,H p=some (.dT kvs)))∨(T="set"∧∃S n,H p=some (.set S n))
 | _=>False
theorem tyV_is{pins:List (Addr×Obj)}{σ:St}{H:Hp}{s:Shared}{T:String}{x:V}{v:Value}(I:Inv X pins σ H s)(r:RelV x v)(ty:tyV X.K T x H) :
  s.TypeIs v T∧∀a,v=.ref a→∃ob,s.heap.get? a=some ob∧ob.dict=none:=by
 cases x with
 | str z =>
  obtain⟨t,rfl⟩:=r
  cases (show T="str" from ty)
  exact⟨typeIs_str s z t,fun _ e=>nomatch e⟩
 | int i =>
  obtain⟨t,rfl⟩:=r
  cases (show T="int" from ty)
  exact⟨typeIs_int s i t,fun _ e=>nomatch e⟩
 | ref p =>
  cases r
  rcases ty with⟨rfl,xs,hq⟩|⟨rfl,o,hk,hc,hd⟩|⟨rfl,hk⟩|⟨rfl,S,n,hk⟩
  ·obtain ⟨its,_,pl,_⟩:=I.list hq
   refine⟨pl.isList.typeIs,fun a e=>?_⟩
   cases e
   obtain⟨o,n,e,c,hd,_⟩:=pl
   exact⟨o,e,hd⟩
  ·refine ⟨⟨o,I.kIn p o hk,hc⟩,fun a e=>?_⟩
   cases e
   exact⟨o,I.kIn _ o hk,hd⟩
  ·have z:∃ o,s.heap.get? p=some o∧o.ExactDict:=by
    rcases hk with⟨kvs,hk⟩|⟨kvs,hk⟩
    ·obtain ⟨_,_,_,_,o,_,_,e,ex,_⟩:=I.hok p _ hk
     exact⟨o,e,ex⟩
    ·obtain ⟨_,_,_,_,o,_,_,e,ex,_⟩:=I.hok p _ hk
     exact⟨o,e,ex⟩
   obtain⟨o,e,ex⟩:=z
   refine⟨⟨o,e,ex.1⟩,fun a e2=>?_⟩
   cases e2
   exact⟨o,e,ex.2.1⟩
  ·obtain ⟨o,_,_,_,e,ex,_⟩:=I.hok p _ hk
   refine⟨⟨o,e,ex.1⟩,fun a e2=>?_⟩
   cases e2
   exact⟨o,e,ex.2.1⟩
 | _=>exact False.elim ty
def tBM0(K:PySem.W.Frag)(T:String)(r:V→List V→Hp→VK→Prop)(to:TE):TE:=fun σ H Q=>to σ H fun x H1=>tyV K T x H1∧r x [] H1 Q
def tBM(K:PySem.W.Frag)(T:String)(r:V→List V→Hp→VK→Prop)(to:TE)(t:TA):TE:=fun σ H Q=>to σ H fun x H1=>tyV K T x H1∧t σ H1 fun xs H2=>r x xs H2 Q
variable{o e:Expr}{es:List Expr}{to:TE}{t:TA}{name:Str}{apos cpos:Pos}{T id:String}{r:V→List V→Hp→VK→Prop}
theorem pe_bm0(pa:PlainAttrs T)(slot:Slot T name id)(hty:typeOf (.builtin id)=pure (.type "method_descriptor"))(hm:MtR X id r)(ho:PE X o to)
  (hbase:attributeBase o name X.env (eval o X.env)=eval o X.env:=by rfl) (hline:(apos.endLine==cpos.line)=true:=by rfl):PE X (.Call (.Attribute o name apos) [] [] cpos) (tBM0 X.K T r to):=by
 intro pins s σ H Q I h
 refine wpAny_Call_method0_late hbase hline (thn (ho pins s σ H _ I h) fun v s1 ⟨x,H1,I1,r1,ty,q1⟩=>?_)
 obtain⟨h1,h2⟩:=tyV_is I1 r1 ty
 exact⟨T,id,pa,slot,hty,h1,h2,Calls.callWith_builtin rfl (PySem.evalArgs_none (hm pins s1 σ H1 x [] v [] Q I1 r1 .nil q1))⟩
theorem UJ(pa:PlainAttrs T)(slot:Slot T name id)(hty:typeOf (.builtin id)=pure (.type "method_descriptor"))(hm:MtR X id r)(ho:PE X o to)(ha:PA X (e::es) t)
  (hbase:attributeBase o name X.env (eval o X.env)=eval o X.env:=by rfl)
  (hfew:((backTo cpos (starEach (e::es) X.env)).all (fun x=>!x.1) && (backToKw cpos (keywordEach [] X.env)).all (fun x=>x.1.isSome)
   && decide ((e::es).length + ([]:List Keyword).length + (if ([]:List Keyword).isEmpty then 0 else 1) < 30))=true:=by rfl)
  (hline:(apos.endLine==cpos.line)=true:=by rfl) (hs:starEach (e::es) X.env=(false,eval e X.env)::starEach es X.env:=by rfl) (hplain:(backTo cpos (starEach es X.env)).any (·.1)=false:=by rfl) :
  PE X (.Call (.Attribute o name apos) (e::es) [] cpos) (tBM X.K T r to t):=by
 intro pins s σ H Q I h
 refine wpAny_Call_method_late hbase hfew hline rfl (thn (ho pins s σ H _ I h) fun v s1 ⟨x,H1,I1,r1,ty,q1⟩=>?_)
 obtain⟨h1,h2⟩:=tyV_is I1 r1 ty
 refine⟨T,id,pa,slot,hty,h1,h2,?_⟩
 have hA:=ha cpos pins s1 σ H1 _ I1 q1
 rw[hs]at hA ⊢
 refine Calls.callWith_builtin (by show(false||(backTo cpos (starEach es X.env)).any (·.1))=false;rw[hplain]<;>rfl) (Calls.evalArgs_plain ?_)
 exact thn hA fun us s2 ⟨vs,H2,I2,r2,q2⟩=>hm pins s2 σ H2 x vs v us Q I2 r1 r2 q2
end
end L2
namespace L2
open PySem PySem.Spec PyProof.Rows
def MtM(X:Cx)(id:String)(r:V→List V→Hp→VK→Prop):Prop :=
 ∀(pins:List (Addr×Obj))(s:Shared)(σ:St)(H:Hp)(x:V)(xs:List V)(v:Value)(us:List Value)(Q:VK),Inv X pins σ H s→RelV x v→Vals xs us→r x xs H Q →
  wpAny (model X.prog X.w) X.A (call (.builtin id) (v::us)) (EP X pins σ Q) X.xe s
theorem Vals.one:∀{x:V}{us:List Value},Vals [x] us→∃u,us=[u]∧RelV x u
 | _,_,.cons r .nil=>⟨_,rfl,r⟩
theorem Vals.zero:∀{us:List Value},Vals [] us→us=[]
 | _,.nil=>rfl
theorem Vals.dropLast{xs:List V}{us:List Value}(h:Vals xs us):Vals xs.dropLast us.dropLast:=by
 induction h with
 | nil=>exact .nil
 | cons r t ih =>
  cases t with
  | nil=>exact .nil
  | cons q t'=>exact .cons r ih
theorem Vals.eraseIdx:∀{xs:List V}{us:List Value}(i:Nat),Vals xs us→Vals (xs.eraseIdx i) (us.eraseIdx i)
 | _,_,_,.nil=>.nil
 | _,_,0,.cons _ t=>t
 | _,_,i + 1,.cons r t=>.cons r (Vals.eraseIdx i t)
theorem erase_last{α:Type}(l:List α):l.eraseIdx (l.length-1)=l.dropLast:=by
 induction l with
 | nil=>rfl
 | cons a r ih =>
  cases r with
  | nil=>rfl
  | cons b r =>
   have e:(a::b::r).length-1=((b::r).length-1)+1:=by
    have h1:(a::b::r).length=r.length+2:=rfl
    have h2:(b::r).length=r.length+1:=rfl
    omega
   rw[e,List.eraseIdx_cons_succ,ih]
   all_goals rfl
theorem len_erase{α:Type}:∀(l:List α)(i:Nat),(l.eraseIdx i).length≤l.length
 | [],_=>Nat.le_refl _
 | _::_,0=>Nat.le_succ _
 | _::r,i + 1=>Nat.succ_le_succ (len_erase r i)
section
variable{X:Cx}{pins:List (Addr×Obj)}{σ:St}{H:Hp}{s:Shared}{l b:Addr}{xs ys zs:List V}
theorem Inv.lset{its its':List Value}{n:Nat}{f:Array Value→Array Value}{t':Nat}(I:Inv X pins σ H s)(hH:H l=some (.lst xs))
  (e:s.heap.get? l=some { cls:=.type "list",data:=.seq its.toArray n }) (hf:f its.toArray=its'.toArray) (hv:Vals ys its') (hz:ys.length≤sizeLine) :
  Inv X pins σ (upd H l (.lst ys)) { s with heap:=s.heap.update l (Obj.mapSeq f),toks:=t' }:=by
 have q:=PySem.IsL.update e f
 rw[hf]at q
 refine I.write (x:=l) (e:=l) (by rw[hH];exact trivial) (.inl rfl) (fun b' u hb hu=>(Heap.get?_update_other s.heap (Obj.mapSeq f) (Ne.symm hb)).trans hu) ⟨_,q⟩ ?_
 exact⟨hz,its',_,hv,q⟩
theorem Inv.lnew{its:List Value}{t':Nat}(I:Inv X pins σ H s)(hv:Vals ys its)(hz:ys.length≤sizeLine) :
  Inv X pins σ (upd H s.heap.objs.size (.lst ys)) { s with heap:=s.heap.push { cls:=.type "list",data:=.seq its.toArray },toks:=t' } :=
 I.laid (fun _ _ q=>Heap.get?_push_of_some _ q) (Nat.le_refl _) ⟨hz,its,0,hv,Heap.get?_push_size _ rfl⟩
theorem Inv.fresh(I:Inv X pins σ H s):H s.heap.objs.size=none:=I.hok.fresh (Nat.le_refl _)
theorem Inv.lstM(I:Inv X pins σ H s)(hH:H l=some (.lst xs)):xs.length≤sizeLine∧∃(its:List Value)(n:Nat),Vals xs its∧xs.length=its.length∧s.heap.get? l=some { cls:=.type "list",data:=.seq its.toArray n }:=by
 obtain⟨z,its,n,r,e⟩:=I.hok l _ hH
 exact⟨z,its,n,r,r.length,e⟩
end
section
variable{X:Cx}
def rAppend:V→List V→Hp→VK→Prop:=fun x vs H Q=>∃l xs y,x=.ref l∧vs=[y]∧H l=some (.lst xs)∧xs.length<sizeLine∧Q .non (upd H l (.lst (xs++[y])))
theorem YE:MtM X "list.append" rAppend:=by
 intro pins s σ H x vs v us Q I rx rv h
 obtain⟨l,xs,y,rfl,rfl,hH,hz,q⟩:=h
 cases rx
 obtain⟨u,rfl,ru⟩:=rv.one
 obtain⟨z,its,n,r,hl,e⟩:=I.lstM hH
 refine call_meets F.slot_list_append ⟨_,e,rfl⟩ F.entry_list_append (F.args_list_append_2 _ _) (PySem.list_append l its.toArray n u (by rw[List.size_toArray];omega)) ⟨e,?_⟩
 refine⟨.non,_,I.lset (its':=its++[u]) hH e (by simp) (r.append (.cons ru .nil)) ?_,rfl,q⟩
 rw[List.length_append,List.length_singleton]
 omega
def rPop:V→List V→Hp→VK→Prop:=fun x vs H Q=>∃l xs y,x=.ref l∧vs=[]∧H l=some (.lst xs)∧xs[xs.length-1]?=some y∧Q y (upd H l (.lst xs.dropLast))
theorem mt_pop:MtM X "list.pop" rPop:=by
 intro pins s σ H x vs v us Q I rx rv h
 obtain⟨l,xs,y,rfl,rfl,hH,hy,q⟩:=h
 cases rx
 have hus:=rv.zero
 subst hus
 obtain⟨z,its,n,r,hl,e⟩:=I.lstM hH
 obtain⟨u,hu,ru⟩:=r.get hy
 have hy':its.toArray[its.toArray.size-1]?=some u:=by
  show its.toArray[its.length-1]?=some u
  rw[← Array.getElem?_toList,← hl]
  exact hu
 refine call_meets F.slot_list_pop ⟨_,e,rfl⟩ F.entry_list_pop (F.args_list_pop_1 _) (MeetsSeq.list_pop_last l its.toArray n u hy' (by rw[List.size_toArray];omega)) ⟨e,?_⟩
 refine⟨y,_,I.lset (its':=its.dropLast) hH e ?_ r.dropLast ?_,ru,q⟩
 ·show its.toArray.eraseIdxIfInBounds (its.toArray.size - 1)=its.dropLast.toArray
  rw[List.size_toArray,List.eraseIdxIfInBounds_toArray,erase_last]
 ·rw [List.length_dropLast]
  omega
def rPopAt:V→List V→Hp→VK→Prop:=fun x vs H Q=>∃l xs i k y,x=.ref l∧vs=[.int i]∧H l=some (.lst xs)∧-(2^63)≤i∧i<2^63∧seqIndex? i xs.length=some k∧xs[k]?=some y∧Q y (upd H l (.lst (xs.eraseIdx k)))
theorem mt_popAt:MtM X "list.pop" rPopAt:=by
 intro pins s σ H x vs v us Q I rx rv h
 obtain⟨l,xs,i,k,y,rfl,rfl,hH,h1,h2,hk,hy,q⟩:=h
 cases rx
 obtain⟨u,rfl,ru⟩:=rv.one
 obtain⟨t,rfl⟩:=ru
 obtain⟨z,its,n,r,hl,e⟩:=I.lstM hH
 obtain⟨w,hw,rw'⟩:=r.get hy
 refine call_meets F.slot_list_pop ⟨_,e,rfl⟩ F.entry_list_pop (F.args_list_pop_2 _ _)
  (MeetsSeq.list_pop_at l its.toArray n i t k w (fitsIndex_both h1 h2) (by rw[List.size_toArray,← hl];exact hk) (by rw[← Array.getElem?_toList];exact hw) (by rw[List.size_toArray];omega)) ⟨e,?_⟩
 refine⟨y,_,I.lset (its':=its.eraseIdx k) hH e ?_ (r.eraseIdx k) ?_,rw',q⟩
 ·show its.toArray.eraseIdxIfInBounds k=(its.eraseIdx k).toArray
  rw[List.eraseIdxIfInBounds_toArray]
 ·have:=len_erase xs k
  omega
def rCat:R2:=fun x y H Q=>∃l b xs zs,x=.ref l∧y=.ref b∧H l=some (.lst xs)∧H b=some (.lst zs)∧xs.length+zs.length≤sizeLine∧∀p,H p=none→Q (.ref p) (upd H p (.lst (xs++zs)))
theorem op_cat:OpR X (binaryOp .Add) rCat:=by
 intro pins s σ H x y v u Q I rx ry h
 obtain⟨l,b,xs,zs,rfl,rfl,hH,hB,hz,q⟩:=h
 cases rx
 cases ry
 obtain⟨z,its,n,r,hl,e⟩:=I.lstM hH
 obtain⟨z2,its2,n2,r2,hl2,e2⟩:=I.lstM hB
 refine PySem.P.add_list e e2 ?_ (by rw[List.size_toArray,List.size_toArray];omega)
 have ea:its.toArray++its2.toArray=(its++its2).toArray:=by simp
 rw[ea]
 exact⟨.ref _,_,I.lnew (t':=s.toks) (r.append r2) (by rw[List.length_append];omega),rfl,q _ I.fresh⟩
end
section
variable{prog:Program}{w:World}{A:Around}{E:Value→Shared→Prop}{s:Shared}
set_option maxRecDepth 100000 in
end
section
variable{X:Cx}
end
end L2
namespace L2
open PySem PySem.Spec PyProof.Rows
section
variable{κ:Type}[DecidableEq κ]
def valV(kvs:List (κ×V))(k:κ):Option V:=(kvs.find? fun kv=>decide (kv.1=k)).map (·.2)
def putK(kvs:List (κ×V))(k:κ)(v:V):List (κ×V) :=
 if (kvs.any fun kv=>decide (kv.1=k))=true then kvs.map (fun kv=>if kv.1=k then(kv.1,v)else kv)else kvs++[(k,v)]
theorem Yg{p:κ×V}{r:List (κ×V)}{k:κ}(e:p.1=k):valV (p::r) k=some p.2:=by simp[valV,List.find?_cons,e]
theorem Yh{p:κ×V}{r:List (κ×V)}{k:κ}(e:¬ p.1=k):valV (p::r) k=valV r k:=by simp[valV,List.find?_cons,e]
theorem ZE(k:κ):∀kvs:List (κ×V),(kvs.any fun kv=>decide (kv.1=k))=(valV kvs k).isSome
 | []=>rfl
 | p::r=>by
  rw[List.any_cons]
  by_cases e:p.1=k
  ·simp only [Yg e,decide_eq_true e,Bool.true_or,Option.isSome_some]
  ·rw [Yh e,decide_eq_false e,Bool.false_or]; exact ZE k r
theorem valV_map(k j:κ)(y:V):∀kvs:List (κ×V),valV (kvs.map fun kv=>if kv.1=k then(kv.1,y)else kv) j=(valV kvs j).map fun x=>if j=k then y else x
 | []=>rfl
 | p::r=>by
  have ih:=valV_map k j y r
  rw[List.map_cons]
  by_cases h:p.1=k
  ·rw [if_pos h]
   by_cases e:p.1=j
   ·rw [Yg (p:=(p.1,y)) e,Yg e,Option.map_some,if_pos (e.symm.trans h)]
   ·rw [Yh (p:=(p.1,y)) e,Yh e,ih]
  ·rw [if_neg h]
   by_cases e:p.1=j
   ·rw [Yg (p:=p) e,Yg e,Option.map_some,if_neg (fun z=>h (e.trans z))]
   ·rw [Yh (p:=p) e,Yh e,ih]
theorem valV_snoc(k j:κ)(y:V):∀kvs:List (κ×V),valV kvs k=none→valV (kvs++[(k,y)]) j=if j=k then some y else valV kvs j
 | [],_=>by
  by_cases e:k=j
  ·rw [if_pos e.symm]; exact Yg (p:=(k,y)) e
  ·rw [if_neg (fun z=>e z.symm)]; exact Yh (p:=(k,y)) e
 | p::r,hn=>by
  rw[List.cons_append]
  have hk:¬ p.1=k:=fun z=>by rw[Yg z]at hn;cases hn
  rw[Yh hk]at hn
  have ih:=valV_snoc k j y r hn
  by_cases e:p.1=j
  ·rw [Yg e,Yg e,if_neg (fun z=>hk (e.trans z))]
  ·rw [Yh e,Yh e,ih]
theorem YL(kvs:List (κ×V))(k j:κ)(y:V):valV (putK kvs k y) j=if j=k then some y else valV kvs j:=by
 unfold putK
 by_cases a:(kvs.any fun kv=>decide (kv.1=k))=true
 ·rw [if_pos a,valV_map]
  rw[ZE]at a
  by_cases e:j=k
  ·obtain ⟨x,hx⟩:=Option.isSome_iff_exists.mp a
   rw[if_pos e,e,hx,Option.map_some,if_pos rfl]
  ·rw [if_neg e]
   cases valV kvs j with
   | none=>rfl
   | some x=>rw [Option.map_some,if_neg e]
 ·rw [if_neg a]
  refine valV_snoc k j y kvs ?_
  rw[ZE]at a
  cases q:valV kvs k with
  | none=>rfl
  | some x=>rw [q] at a; exact (a rfl).elim
theorem JN(kvs:List (κ×V))(k:κ)(v:V):(putK kvs k v).length≤kvs.length+1:=by
 unfold putK
 split
 ·rw [List.length_map]; omega
 ·rw [List.length_append,List.length_cons,List.length_nil]; omega
theorem Uc{kvs:List (κ×V)}{k:κ}(v:V)(h:valV kvs k=none):putK kvs k v=kvs++[(k,v)]:=by
 unfold putK
 rw[ZE,h]
 exact if_neg (by decide)
theorem RelO.isSome_eq{o:Option V}{u:Option Value}(r:RelO o u):o.isSome=u.isSome:=by
 cases o with
 | none=>cases u with
  | none=>rfl
  | some _=>exact (show False from r).elim
 | some _=>cases u with
  | none=>exact (show False from r).elim
  | some _=>rfl
theorem KV.val{kvs:List (κ×V)}{vs:List (κ×Value)}(r:KV kvs vs)(k:κ):RelO (valV kvs k) (valueAt vs k):=by
 unfold KV at r
 induction r with
 | nil=>exact True.intro
 | @cons p q ps qs h t ih =>
  obtain⟨h1,h2⟩:=h
  by_cases e:p.1=k
  ·have e':q.1=k:=h1.symm.trans e
   have b:valueAt (q::qs) k=some q.2:=by simp[valueAt,List.find?_cons,e']
   rw[Yg e,b];exact h2
  ·have e':¬ q.1=k:=fun z=>e (h1.trans z)
   have b:valueAt (q::qs) k=valueAt qs k:=by simp[valueAt,List.find?_cons,e']
   rw[Yh e,b];exact ih
theorem KV.any{kvs:List (κ×V)}{vs:List (κ×Value)}(r:KV kvs vs)(k:κ):(kvs.any fun kv=>decide (kv.1=k))=vs.any fun kv=>decide (kv.1=k):=by
 unfold KV at r
 induction r with
 | nil=>rfl
 | cons h t ih=>rw [List.any_cons,List.any_cons,ih,h.1]
theorem KV.repl{kvs:List (κ×V)}{vs:List (κ×Value)}(r:KV kvs vs)(k:κ){y:V}{u:Value}(ry:RelV y u) :
  KV (kvs.map fun kv=>if kv.1=k then(kv.1,y)else kv) (vs.map fun kv=>if kv.1=k then(kv.1,u)else kv):=by
 unfold KV at r ⊢
 induction r with
 | nil=>exact .nil
 | @cons p q ps qs h t ih =>
  rw[List.map_cons,List.map_cons]
  refine .cons ?_ ih
  obtain⟨h1,h2⟩:=h
  by_cases e:p.1=k
  ·rw [if_pos e,if_pos (h1.symm.trans e)]; exact ⟨h1,ry⟩
  ·rw [if_neg e,if_neg (fun z=>e (h1.trans z))]; exact ⟨h1,h2⟩
theorem KV.put{kvs:List (κ×V)}{vs:List (κ×Value)}(r:KV kvs vs)(k:κ){y:V}{u:Value}(ry:RelV y u):KV (putK kvs k y) (stored vs k u):=by
 unfold putK stored
 rw[r.any k]
 by_cases e:(vs.any fun kv=>decide (kv.1=k))=true
 ·rw [if_pos e,if_pos e]; exact r.repl k ry
 ·rw [if_neg e,if_neg e]; exact Paired.snoc r ⟨rfl,ry⟩
theorem KV.length{kvs:List (κ×V)}{vs:List (κ×Value)}(r:KV kvs vs):kvs.length=vs.length:=Paired.length r
end
theorem kV_is{P:Program}{w:World}{k:Key}{u:Value}(r:RelV (kV k) u):(JV P w).is k u=true:=by
 cases k with
 | inl i=>obtain ⟨t,e⟩:=(show ∃ t,u=Value.int i t from r); subst e; exact mixKind_int P w i t
 | inr x=>obtain ⟨t,e⟩:=(show ∃ t,u=Value.str x t from r); subst e; exact mixKind_str P w x t
theorem items_are{P:Program}{w:World}:∀{ks:List Key}{us:List Value},Vals (ks.map kV) us→ItemsAre (JV P w) ks us
 | [],_,r=>by rw [List.map_nil] at r; cases r; exact .nil
 | k::ks,_,r=>by
  rw[List.map_cons]at r
  cases r with
  | cons h t=>exact .cons (kV_is h) (items_are t)
abbrev KT(H:Hp):List (List Key×V)→List (List Key×Addr×Value)→Prop:=Paired fun p q=>p.1=q.1∧H q.2.1=some (.tup (p.1.map kV))∧RelV p.2 q.2.2
theorem KT.val{H:Hp}{kvs:List (List Key×V)}{xs:List (List Key×Addr×Value)}(r:KT H kvs xs)(k:List Key):RelO (valV kvs k) ((atKey xs k).map (·.2)):=by
 induction r with
 | nil=>exact True.intro
 | @cons p q ps qs h t ih =>
  obtain⟨h1,_,h2⟩:=h
  by_cases e:p.1=k
  ·have e':q.1=k:=h1.symm.trans e
   have b:atKey (q::qs) k=some q.2:=by simp[atKey,List.find?_cons,e']
   rw[Yg e,b];exact h2
  ·have e':¬ q.1=k:=fun z=>e (h1.trans z)
   have b:atKey (q::qs) k=atKey qs k:=by simp[atKey,List.find?_cons,e']
   rw[Yh e,b];exact ih
theorem KT.repl{H:Hp}{kvs:List (List Key×V)}{xs:List (List Key×Addr×Value)}(r:KT H kvs xs)(k:List Key){y:V}{u:Value}(ry:RelV y u) :
  KT H (kvs.map fun kv=>if kv.1=k then(kv.1,y)else kv) (xs.map (putAt k u)):=by
 induction r with
 | nil=>exact .nil
 | @cons p q ps qs h t ih =>
  rw[List.map_cons,List.map_cons]
  refine .cons ?_ ih
  obtain⟨h1,h2,h3⟩:=h
  unfold putAt
  by_cases e:p.1=k
  ·rw [if_pos e,if_pos (h1.symm.trans e)]; exact ⟨h1,h2,ry⟩
  ·rw [if_neg e,if_neg (fun z=>e (h1.trans z))]; exact ⟨h1,h2,h3⟩
theorem KT.put{H:Hp}{kvs:List (List Key×V)}{xs:List (List Key×Addr×Value)}(r:KT H kvs xs)(k:List Key){b:Addr}{y:V}{u:Value}(hb:H b=some (.tup (k.map kV)))(ry:RelV y u) :
  KT H (putK kvs k y) (storedH xs k b u):=by
 have e:(kvs.any fun kv=>decide (kv.1=k))=(atKey xs k).isSome:=by
  rw[ZE,(r.val k).isSome_eq,Option.isSome_map]
 unfold putK storedH
 rw[e]
 by_cases q:(atKey xs k).isSome=true
 ·rw [if_pos q,if_pos q]; exact r.repl k ry
 ·rw [if_neg q,if_neg q]; exact Paired.snoc r ⟨rfl,hb,ry⟩
theorem KT.keeps{H H':Hp}{kvs:List (List Key×V)}{xs:List (List Key×Addr×Value)}(r:KT H kvs xs)(ht:∀b ys,H b=some (.tup ys)→H' b=some (.tup ys)):KT H' kvs xs :=
 Paired.mapP r fun _ _ z=>⟨z.1,ht _ _ z.2.1,z.2.2⟩
section
variable{P:Program}{w:World}{H:Hp}{h:Heap}{a:Addr}
theorem rd_of{u:HO}(ok:HOk P w H h)(e:Rd H a u):ObjOk P w H h a u:=e.ok ok
theorem dk_rd{kvs:List (Key×V)}(ok:HOk P w H h)(e:Rd H a (.dK kvs)):kvs.length≤sizeLine∧(a==sysModules)=false∧∃vs,KV kvs vs∧h.DictOf (JV P w) a vs :=
 show ObjOk P w H h a (.dK kvs)from rd_of ok e
theorem dk_of{kvs:List (Key×V)}(ok:HOk P w H h)(e:H a=some (.dK kvs)):kvs.length≤sizeLine∧(a==sysModules)=false∧∃vs,KV kvs vs∧h.DictOf (JV P w) a vs:=dk_rd ok (.inl e)
theorem UA{ks:List Key}(ok:HOk P w H h)(e:H a=some (.tup (ks.map kV))):(tupleKind (JV P w)).is h ks a:=by
 obtain⟨_,its,r,o,h1,h2,n,h3⟩:=(show ObjOk P w H h a (.tup (ks.map kV))from ok a _ e)
 exact⟨o,its.toArray,n,h1,h2,h3,by simpa using items_are r⟩
theorem dt_rd{kvs:List (List Key×V)}(ok:HOk P w H h)(e:Rd H a (.dT kvs)):kvs.length≤sizeLine∧(a==sysModules)=false ∧
  ∃xs,KT H kvs xs∧h.DictOfH (tupleKind (JV P w)) a xs:=by
 obtain⟨z,y,xs,r,o,es,ep,h1,h2,h3,h4,h5⟩:=(show ObjOk P w H h a (.dT kvs)from rd_of ok e)
 refine⟨z,y,xs,r,o,es,ep,h1,h2,h3,h4,fun x hx=>?_,h5⟩
 have all:∀{l:List (List Key×V)}{m:List (List Key×Addr×Value)},KT H l m→∀x∈m,(tupleKind (JV P w)).is h x.1 x.2.1:=by
  intro l m q
  induction q with
  | nil=>intro x hx; exact nomatch hx
  | @cons p q ps qs hq t ih =>
   intro x hx
   rcases List.mem_cons.mp hx with e|hx
   ·subst e
    exact UA ok (by rw[← hq.1];exact hq.2.1)
   ·exact ih x hx
 exact all r x hx
theorem dt_of{kvs:List (List Key×V)}(ok:HOk P w H h)(e:H a=some (.dT kvs)):kvs.length≤sizeLine∧(a==sysModules)=false ∧
  ∃xs,KT H kvs xs∧h.DictOfH (tupleKind (JV P w)) a xs:=dt_rd ok (.inl e)
end
def DGet(H:Hp)(a:Addr)(y:V)(r:Option V):Prop :=
 (∃kvs k,Rd H a (.dK kvs)∧y=kV k∧r=valV kvs k)∨∃kvs k b,Rd H a (.dT kvs)∧y=.ref b∧H b=some (.tup (k.map kV))∧r=valV kvs k
def DPut(H:Hp)(a:Addr)(y v:V)(H':Hp):Prop :=
 (∃kvs k,H a=some (.dK kvs)∧y=kV k∧kvs.length<sizeLine∧H'=upd H a (.dK (putK kvs k v))) ∨
 ∃kvs k b,H a=some (.dT kvs)∧y=.ref b∧H b=some (.tup (k.map kV))∧kvs.length<sizeLine∧H'=upd H a (.dT (putK kvs k v))
theorem DGet.k{H:Hp}{a:Addr}{kvs:List (Key×V)}{k:Key}(e:H a=some (.dK kvs)):DGet H a (kV k) (valV kvs k):=.inl ⟨kvs,k,.inl e,rfl,rfl⟩
theorem DGet.t{H:Hp}{a b:Addr}{kvs:List (List Key×V)}{k:List Key}(e:H a=some (.dT kvs))(eb:H b=some (.tup (k.map kV))):DGet H a (.ref b) (valV kvs k):=.inr ⟨kvs,k,b,.inl e,rfl,eb,rfl⟩
theorem DPut.k{H:Hp}{a:Addr}{kvs:List (Key×V)}{k:Key}{v:V}(e:H a=some (.dK kvs))(hl:kvs.length<sizeLine):DPut H a (kV k) v (upd H a (.dK (putK kvs k v))):=.inl ⟨kvs,k,e,rfl,hl,rfl⟩
theorem DPut.t{H:Hp}{a b:Addr}{kvs:List (List Key×V)}{k:List Key}{v:V}(e:H a=some (.dT kvs))(eb:H b=some (.tup (k.map kV)))(hl:kvs.length<sizeLine) :
  DPut H a (.ref b) v (upd H a (.dT (putK kvs k v))):=.inr ⟨kvs,k,b,e,rfl,eb,hl,rfl⟩
section
variable{X:Cx}{pins:List (Addr×Obj)}{σ:St}{H:Hp}{s:Shared}{a:Addr}{y v:V}{u r:Value}{o:Option V}{A:Around}{E:Value→Shared→Prop}
theorem Inv.big(I:Inv X pins σ H s):sysModules<s.heap.objs.size:=by
 have h:mainGlobals<s.heap.objs.size:=(I.mod.glob.keeps I.bk).lt
 exact Nat.lt_trans (by decide) h
theorem d_getItem{Q:Value→Shared→Prop}(hu:A.units+1<cLine)(I:Inv X pins σ H s)(g:DGet H a y (some v))(ry:RelV y u)(h:∀w' s',Inv X pins σ H s'→RelV v w'→Q w' s') :
  wpAny (model X.prog X.w) A (getItem (.ref a) u) Q E s:=by
 rcases g with⟨kvs,k,e,ey,l⟩|⟨kvs,k,b,e,ey,eb,l⟩
 ·subst ey
  obtain⟨z,hd,vs,rel,dd⟩:=dk_rd I.hok e
  obtain⟨w',hw,rw'⟩:=RelO.some_of (v:=v) (o:=valueAt vs k) (by rw[l];exact rel.val k)
  exact wpAny_getItem_of (kV_is ry) dd.mapOf hw (h w' _ (I.tok _) rw')
 ·subst ey
  cases (show u=Value.ref b from ry)
  obtain⟨z,hd,xs,rel,dd⟩:=dt_rd I.hok e
  obtain⟨w',hw,rw'⟩:=RelO.some_of (v:=v) (o:=(atKey xs k).map (·.2)) (by rw[l];exact rel.val k)
  obtain⟨p,hp,hp2⟩:=Option.map_eq_some_iff.mp hw
  refine wpAny_getItem_heap (tupleKind_room_in1 hu) (UA I.hok eb) dd hp ?_
  rw[hp2]
  exact h w' _ (I.tok _) rw'
theorem d_in{Q:Value→Shared→Prop}(hu:A.units+1<cLine)(I:Inv X pins σ H s)(g:DGet H a y o)(ry:RelV y u)(h:∀s',Inv X pins σ H s'→Q (.bool o.isSome) s') :
  wpAny (model X.prog X.w) A (compareOp .In u (.ref a)) Q E s:=by
 rcases g with⟨kvs,k,e,ey,l⟩|⟨kvs,k,b,e,ey,eb,l⟩
 ·subst ey
  obtain⟨z,hd,vs,rel,dd⟩:=dk_rd I.hok e
  refine wpAny_in_of (kV_is ry) hd dd.mapOf ?_
  rw[← (rel.val k).isSome_eq,← l]
  exact h _ (I.tok _)
 ·subst ey
  cases (show u=Value.ref b from ry)
  obtain⟨z,hd,xs,rel,dd⟩:=dt_rd I.hok e
  refine wpAny_in_heap (tupleKind_room_in1 hu) (UA I.hok eb) hd dd ?_
  have q:=(rel.val k).isSome_eq
  rw[Option.isSome_map]at q
  rw[← q,← l]
  exact h _ (I.tok _)
theorem d_notIn{Q:Value→Shared→Prop}(hu:A.units+1<cLine)(I:Inv X pins σ H s)(g:DGet H a y o)(ry:RelV y u)(h:∀s',Inv X pins σ H s'→Q (.bool (!o.isSome)) s') :
  wpAny (model X.prog X.w) A (compareOp .NotIn u (.ref a)) Q E s:=by
 rcases g with⟨kvs,k,e,ey,l⟩|⟨kvs,k,b,e,ey,eb,l⟩
 ·subst ey
  obtain⟨z,hd,vs,rel,dd⟩:=dk_rd I.hok e
  refine wpAny_notIn_of (kV_is ry) hd dd.mapOf ?_
  rw[← (rel.val k).isSome_eq,← l]
  exact h _ (I.tok _)
 ·subst ey
  cases (show u=Value.ref b from ry)
  obtain⟨z,hd,xs,rel,dd⟩:=dt_rd I.hok e
  refine wpAny_notIn_heap (tupleKind_room_in1 hu) (UA I.hok eb) hd dd ?_
  have q:=(rel.val k).isSome_eq
  rw[Option.isSome_map]at q
  rw[← q,← l]
  exact h _ (I.tok _)
theorem Qd{h':Heap}{t':Nat}{ob:HO}(I:Inv X pins σ H s)(mu:Mut (H a))(hs:Heap.SameBut a s.heap h')(he:∃q,h'.get? a=some q)(new:ObjOk X.prog X.w (upd H a ob) h' a ob) :
  Inv X pins σ (upd H a ob) { s with heap:=h',toks:=t' } :=
 I.write (x:=a) (e:=a) mu (.inl rfl) (fun b q hb z=>(hs.2 b hb).trans z) he new
theorem dk_new{P:Program}{w:World}{H':Hp}{h':Heap}{kvs:List (Key×V)}{vs:List (Key×Value)}(z:kvs.length≤sizeLine)(hd:(a==sysModules)=false)(rel:KV kvs vs)(dd:h'.DictOf (JV P w) a vs) :
  ObjOk P w H' h' a (.dK kvs):=⟨z,hd,vs,rel,dd⟩
theorem d_setItem{H':Hp}{Q:Unit→Shared→Prop}(hu:A.units+1<cLine)(I:Inv X pins σ H s)(g:DPut H a y v H')(ry:RelV y u)(rv:RelV v r)(h:∀s',Inv X pins σ H' s'→Q () s') :
  wpAny (model X.prog X.w) A (setItem (.ref a) u r) Q E s:=by
 rcases g with⟨kvs,k,e,ey,l,eH⟩|⟨kvs,k,b,e,ey,eb,l,eH⟩
 ·subst ey eH
  obtain⟨z,hd,vs,rel,dd⟩:=dk_of I.hok e
  have hz:vs.length≤sizeLine:=by rw[← rel.length];exact z
  have hl:(putK kvs k v).length≤sizeLine:=by have:=JN kvs k v;omega
  refine wpAny_setItem_pairs (hsz:=hz) (kV_is ry) dd fun h' dd' hs=>h _ ?_
  have he:∃q,h'.get? a=some q:=let⟨q,_,_,hq,_⟩:=dd';⟨q,hq⟩
  exact Qd I (by rw[e];exact True.intro) hs he (dk_new hl hd (rel.put k rv) dd')
 ·subst ey eH
  cases (show u=Value.ref b from ry)
  obtain⟨z,hd,xs,rel,dd⟩:=dt_of I.hok e
  have hz:xs.length≤sizeLine:=by rw[← Paired.length rel];exact z
  have hl:(putK kvs k v).length≤sizeLine:=by have:=JN kvs k v;omega
  refine wpAny_setItem_heap (hsz:=hz) (tupleKind_room_in1 hu) (UA I.hok eb) dd fun h' dd' hs=>h _ ?_
  obtain⟨q,es,ep,hq,h2,h3,h4,_,h5⟩:=dd'
  refine Qd I (by rw[e];exact True.intro) hs ⟨q,hq⟩ ⟨hl,hd,_,(rel.put k eb rv).keeps fun c ys ec=>?_,q,es,ep,hq,h2,h3,h4,h5⟩
  rw[Jh (ZK ec e (fun z=>nomatch z))]
  exact ec
end
section
variable{X:Cx}{pins:List (Addr×Obj)}{σ:St}{H:Hp}{s:Shared}{a:Addr}{kvs:List (Key×V)}{k:Key}{u:Value}{A:Around}{E:Value→Shared→Prop}
end
def NoSl(i:Expr):Prop:=∀ov iv,subscripted i false ov iv=operate [ov,iv] (getItem ov iv)
theorem subD_of{prog:Program}{w:World}{A:Around}{E:Value→Shared→Prop}{s:Shared}{env:Env}{value slice:Expr}{pos:Pos}{T id:String}{Q:Value→Shared→Prop}
  (hl:typeLookup (.type T) "__getitem__"=pure (some (.builtin id))) (hs:NoSl slice)
  (h:wpAny (model prog w) A (eval value env) (fun o s₁=>wpAny (model prog w) A (eval slice env) (fun i s₂=>s₂.TypeIs o T∧wpAny (model prog w) A (getItem o i) Q E s₂) E s₁) E s) :
  wpAny (model prog w) A (eval (.Subscript value slice pos) env) Q E s:=by
 refine Subscript_ (wpAny_mono h (fun o s₁ h₁=>wpAny_mono h₁ (fun i s₂ h₂=>?_) fun _ _ x=>x) fun _ _ x=>x)
 obtain⟨hT,h₂⟩:=h₂
 unfold subscriptTail
 refine wpAny_bind ?_
 rw[getitemInPython_of_ne hT.not_modules]
 refine wpAny_bind (wpAny_specialOf hT hl ?_)
 have fin:wpAny (model prog w) A (subscripted slice false o i) (fun r s₃=>wpAny (model prog w) A (letTemporaryGo value o r >>= fun _=>pure r) Q E s₃) E s₂:=by
  rw[hs o i]
  exact wpAny_operating (wpAny_mono h₂ (fun r s₃ h₃=>wpAny_bind (wpAny_letTemporaryGo (wpAny_pure h₃))) fun _ _ x=>x)
 first
  | exact wpAny_pure (wpAny_bind fin)
  | exact wpAny_bind (wpAny_pure (wpAny_bind fin))
  | exact wpAny_bind fin
theorem dict_typeIs{X:Cx}{pins:List (Addr×Obj)}{σ:St}{H:Hp}{s:Shared}{a:Addr}{y:V}{o:Option V}(I:Inv X pins σ H s)(g:DGet H a y o):s.TypeIs (.ref a) "dict":=by
 rcases g with⟨kvs,k,e,_,_⟩|⟨kvs,k,b,e,_,_,_⟩
 ·obtain ⟨_,_,vs,_,dd⟩:=dk_rd I.hok e
  exact dd.typeIs
 ·obtain ⟨_,_,xs,_,dd⟩:=dt_rd I.hok e
  exact dd.typeIs
def tDGet(td ty:TE):TE:=fun σ H Q=>td σ H fun x H1=>ty σ H1 fun y H2=>∃a v,x=.ref a∧DGet H2 a y (some v)∧Q v H2
def tDIn(ty td:TE):TE:=fun σ H Q=>ty σ H fun y H1=>td σ H1 fun x H2=>∃a o,x=.ref a∧DGet H2 a y o∧Q (.bl o.isSome) H2
def tDNotIn(ty td:TE):TE:=fun σ H Q=>ty σ H fun y H1=>td σ H1 fun x H2=>∃a o,x=.ref a∧DGet H2 a y o∧Q (.bl (!o.isSome)) H2
def sDPut(td ty tv:TE):TS:=fun D σ H=>tv σ H fun v H1=>td σ H1 fun x H2=>ty σ H2 fun y H3=>∃a H4,x=.ref a∧DPut H3 a y v H4∧D.nx σ H4
section
variable{X:Cx}{o i e value:Expr}{pos pos' tpos:Pos}{td ty tv:TE}
theorem UU(hu:X.A.units+1<cLine)(ho:PE X o td)(hi:PE X i ty)(hs:NoSl i):PE X (.Subscript o i pos) (tDGet td ty):=by
 intro pins s σ H Q I h
 refine subD_of PySem.F.slot_dict_getitem.lookup hs (thn (ho pins s σ H _ I h) fun u s1 ⟨x,H1,I1,rx,q1⟩=>thn (hi pins s1 σ H1 _ I1 q1) fun iv s2 ⟨y,H2,I2,ry,a,v,ex,g,q2⟩=>?_)
 subst ex
 obtain rfl:u=Value.ref a:=rx
 exact⟨dict_typeIs I2 g,d_getItem hu I2 g ry fun w' s3 I3 rw'=>⟨v,H2,I3,rw',q2⟩⟩
theorem Wr(hu:X.A.units+1<cLine)(hi:PE X i ty)(ho:PE X o td):PC X .In i o (tDIn ty td):=by
 intro pins s σ H Q I h
 refine thn (hi pins s σ H _ I h) fun iv s1 ⟨y,H1,I1,ry,q1⟩=>thn (ho pins s1 σ H1 _ I1 q1) fun u s2 ⟨x,H2,I2,rx,a,ov,ex,g,q2⟩=>?_
 subst ex
 obtain rfl:u=Value.ref a:=rx
 exact d_in hu I2 g ry fun s3 I3=>⟨.bl ov.isSome,H2,I3,rfl,q2⟩
theorem ZG(hu:X.A.units+1<cLine)(hi:PE X i ty)(ho:PE X o td):PC X .NotIn i o (tDNotIn ty td):=by
 intro pins s σ H Q I h
 refine thn (hi pins s σ H _ I h) fun iv s1 ⟨y,H1,I1,ry,q1⟩=>thn (ho pins s1 σ H1 _ I1 q1) fun u s2 ⟨x,H2,I2,rx,a,ov,ex,g,q2⟩=>?_
 subst ex
 obtain rfl:u=Value.ref a:=rx
 exact d_notIn hu I2 g ry fun s3 I3=>⟨.bl (!ov.isSome),H2,I3,rfl,q2⟩
theorem YH(hu:X.A.units+1<cLine)(ho:PE X o td)(hi:PE X i ty)(hv:PE X value tv)(hs:swapsWith value (some (.Subscript o i pos')) pos.line X.env=pure false) :
  PS X (.Assign [.Subscript o i pos'] value pos) (sDPut td ty tv):=by
 intro pins s σ H D I h
 refine wpAny_Assign_Subscript (thn (hv pins s σ H _ I h) fun r s1 ⟨v,H1,I1,rv,q1⟩=>thn (ho pins s1 σ H1 _ I1 q1) fun u s2 ⟨x,H2,I2,rx,q2⟩=>thn (hi pins s2 σ H2 _ I2 q2) fun iv s3 ⟨y,H3,I3,ry,a,H4,ex,g,q3⟩=>?_) hs
 subst ex
 obtain rfl:u=Value.ref a:=rx
 exact d_setItem hu I3 g ry rv fun s4 I4=>⟨σ,H4,I4,q3⟩
end
theorem dk_empty{P:Program}{w:World}{H:Hp}(h:Heap)(hb:sysModules<h.objs.size):ObjOk P w H (h.push { cls:=.type "dict",data:=.dict #[] }) h.objs.size (.dK []) :=
 ⟨Nat.zero_le _,beq_eq_false_iff_ne.mpr (Ne.symm (Nat.ne_of_lt hb)),[],.nil,Heap.DictOf.new h⟩
theorem dt_empty{P:Program}{w:World}{H:Hp}(h:Heap)(hb:sysModules<h.objs.size):ObjOk P w H (h.push { cls:=.type "dict",data:=.dict #[] }) h.objs.size (.dT []) :=
 ⟨Nat.zero_le _,beq_eq_false_iff_ne.mpr (Ne.symm (Nat.ne_of_lt hb)),[],.nil,_,#[],0,Heap.get?_push_size _ rfl,⟨rfl,rfl,rfl⟩,rfl,rfl,List.nodup_nil⟩
def tDNewK:TE:=fun _ H Q=>∀p,H p=none→Q (.ref p) (upd H p (.dK []))
def tDNewT:TE:=fun _ H Q=>∀p,H p=none→Q (.ref p) (upd H p (.dT []))
section
variable{X:Cx}{pos:Pos}
theorem Uf:PE X (.Dict [] [] pos) tDNewK:=fun pins s σ H Q I h =>
 wpAny_Dict_empty ⟨.ref s.heap.objs.size,_,I.laid (a:=s.heap.objs.size) (o:=.dK []) (t':=s.toks) (fun _ _ q=>Heap.get?_push_of_some _ q) (Nat.le_refl _) (dk_empty s.heap I.big),rfl,h _ (I.hok.fresh (Nat.le_refl _))⟩
theorem pe_dnewT:PE X (.Dict [] [] pos) tDNewT:=fun pins s σ H Q I h =>
 wpAny_Dict_empty ⟨.ref s.heap.objs.size,_,I.laid (a:=s.heap.objs.size) (o:=.dT []) (t':=s.toks) (fun _ _ q=>Heap.get?_push_of_some _ q) (Nat.le_refl _) (dt_empty s.heap I.big),rfl,h _ (I.hok.fresh (Nat.le_refl _))⟩
end
def tPairs:List (TE×TE)→St→Hp→(List (V×V)→Hp→Prop)→Prop
 | [],_,H,Q=>Q [] H
 | (tk,tv)::r,σ,H,Q=>tk σ H fun x H1=>tv σ H1 fun y H2=>tPairs r σ H2 fun ps H3=>Q ((x,y)::ps) H3
abbrev VV:List (V×V)→List (Value×Value)→Prop:=Paired fun p q=>RelV p.1 q.1∧RelV p.2 q.2
def PPs(X:Cx)(pos:Pos)(keys:List (Option Expr))(values:List Expr)(trs:List (TE×TE)):Prop :=
 ∀(pins:List (Addr×Obj))(s:Shared)(σ:St)(H:Hp)(Q:List (V×V)→Hp→Prop),Inv X pins σ H s→tPairs trs σ H Q →
  wpAny (model X.prog X.w) X.A (evalPairs (pairTrees keys values X.env pos)) (fun vs s'=>∃ps H',Inv X pins σ H' s'∧VV ps vs∧Q ps H') X.xe s
theorem pps_nil{X:Cx}{pos:Pos}:PPs X pos [] [] []:=fun pins s σ H Q I h=>pairTrees_nil_walk ⟨[],H,I,.nil,h⟩
theorem pps_cons{X:Cx}{pos:Pos}{k v:Expr}{ks:List (Option Expr)}{vs:List Expr}{tk tv:TE}{trs:List (TE×TE)}(hk:PE X k tk)(hv:PE X v tv)(hr:PPs X pos ks vs trs) :
  PPs X pos (some k::ks) (v::vs) ((tk,tv)::trs):=fun pins s σ H Q I h =>
 pairTrees_cons_walk (thn (hk pins s σ H _ I h) fun u s1 ⟨x,H1,I1,rx,q1⟩=>thn (hv pins s1 σ H1 _ I1 q1) fun w2 s2 ⟨y,H2,I2,ry,q2⟩ =>
  thn (hr pins s2 σ H2 _ I2 q2) fun ws s3 ⟨ps,H3,I3,rel,q3⟩=>⟨(x,y)::ps,H3,I3,.cons ⟨rx,ry⟩ rel,q3⟩)
def QA(kvs more:List (Key×V)):List (Key×V):=more.foldl (fun acc kv=>putK acc kv.1 kv.2) kvs
theorem KV.merge:∀{more:List (Key×V)}{rs:List (Key×Value)}{kvs:List (Key×V)}{vs:List (Key×Value)},KV more rs→KV kvs vs→KV (QA kvs more) (merged vs rs):=by
 intro more rs kvs vs r
 unfold KV at r
 induction r generalizing kvs vs with
 | nil=>intro q; exact q
 | @cons p q ps qs h t ih =>
  intro r0
  have e:KV (putK kvs p.1 p.2) (stored vs q.1 q.2):=by
   have:=r0.put p.1 h.2
   rw[← h.1];exact this
  exact ih e
theorem WG:∀(more kvs:List (Key×V)),(QA kvs more).length≤kvs.length+more.length
 | [],kvs=>by show kvs.length≤kvs.length + 0; omega
 | p::r,kvs=>by
  have h1:=WG r (putK kvs p.1 p.2)
  have h2:=JN kvs p.1 p.2
  show(QA (putK kvs p.1 p.2) r).length≤_
  rw[List.length_cons];omega
theorem QM{P:Program}{w:World}:∀{kvs:List (Key×V)}{ws:List (Value×Value)},VV (kvs.map fun kv=>(kV kv.1,kv.2)) ws→∃rs,Carries (JV P w) ws rs∧KV kvs rs
 | [],_,r=>by rw [List.map_nil] at r; cases r; exact ⟨[],True.intro,.nil⟩
 | p::kvs,_,r=>by
  rw[List.map_cons]at r
  cases r with
  | @cons a b as bs h t =>
   obtain⟨rs,c,q⟩:=QM (P:=P) (w:=w) t
   obtain⟨b1,b2⟩:=b
   exact⟨(p.1,b2)::rs,⟨kV_is h.1,rfl,c⟩,.cons ⟨rfl,h.2⟩ q⟩
def tDisp(trs:List (TE×TE)):TE:=fun σ H Q=>∀p,H p=none→tPairs trs σ (upd H p (.dK [])) fun ps H2=>H2 p=some (.dK [])∧∃kvs:List (Key×V),ps=kvs.map (fun kv=>(kV kv.1,kv.2))∧kvs.length≤15∧Q (.ref p) (upd H2 p (.dK (QA [] kvs)))
theorem pe_disp{X:Cx}{pos:Pos}{keys:List (Option Expr)}{values:List Expr}{trs:List (TE×TE)}(h:PPs X pos keys values trs)(hall:keys.all (·.isSome)=true)(hl:keys.length=values.length)(h0:keys≠[])
  (h15:keys.length≤15):PE X (.Dict keys values pos) (tDisp trs):=by
 intro pins s σ H Q I q
 have hn:=I.hok.fresh (Nat.le_refl s.heap.objs.size)
 have I1:=I.laid (a:=s.heap.objs.size) (o:=.dK []) (h':=s.heap.push { cls:=.type "dict",data:=.dict #[] }) (t':=s.toks) (fun _ _ q=>Heap.get?_push_of_some _ q) (Nat.le_refl _) (dk_empty s.heap I.big)
 refine wpAny_Dict_walk (knd:=JV X.prog X.w) hall hl h0 h15 (thn (h pins _ σ _ _ I1 (q _ hn)) fun ws s2 ⟨ps,H2,I2,rel,e,kvs,ep,lk,q2⟩=>?_)
 subst ep
 obtain⟨rs,c,rk⟩:=QM (P:=X.prog) (w:=X.w) rel
 obtain⟨z,hd,vs0,r0,dd⟩:=dk_of I2.hok e
 cases r0
 refine⟨rs,c,dd,fun h' dd' hs=>⟨.ref s.heap.objs.size,_,?_,rfl,q2⟩⟩
 have hz:(QA [] kvs).length≤sizeLine:=by
  have h1:=WG kvs []
  rw[List.length_nil]at h1
  rw[sizeLine_eq];omega
 have he:∃q,h'.get? s.heap.objs.size=some q:=let⟨q,_,_,hq,_⟩:=dd';⟨q,hq⟩
 exact Qd I2 (by rw[e];exact True.intro) hs he (dk_new hz hd (rk.merge .nil) dd')
section
variable{X:Cx}{pins:List (Addr×Obj)}{σ:St}{H:Hp}{s:Shared}{a:Addr}{y d:V}{u r:Value}{o:Option V}{A:Around}{E:Value→Shared→Prop}
end
section
variable{X:Cx}{o e f:Expr}{apos cpos:Pos}{td ty tx:TE}
end
section
variable{X:Cx}{pins:List (Addr×Obj)}{σ:St}{H:Hp}{s:Shared}{a:Addr}{kvs:List (Key×V)}{A:Around}{E:Value→Shared→Prop}
theorem d_copyOf{Q:Value→Shared→Prop}(I:Inv X pins σ H s)(e:Rd H a (.dK kvs))(h:∀p s',H p=none→Inv X pins σ (upd H p (.dK kvs)) s'→Q (.ref p) s'):wpAny (model X.prog X.w) A (call (.type "dict") [.ref a]) Q E s:=by
 obtain⟨z,hd,vs,rel,dd⟩:=dk_rd I.hok e
 refine kt_call_dict hd dd (by rw[← rel.length];exact z) fun h' dd' hs=>?_
 refine h _ _ (I.hok.fresh (Nat.le_refl _)) (I.laid (a:=s.heap.objs.size) (o:=.dK kvs) (t':=s.toks) (fun b q hq=>?_) (Nat.le_refl _) (dk_new z (beq_eq_false_iff_ne.mpr (Ne.symm (Nat.ne_of_lt I.big))) rel dd'))
 exact(hs.2 b (Nat.ne_of_lt (Heap.lt_size hq))).trans (Heap.get?_push_of_some _ hq)
end
section
variable{X:Cx}{pins:List (Addr×Obj)}{σ:St}{H:Hp}{s:Shared}{a:Addr}{y:V}{u:Value}{A:Around}{E:Value→Shared→Prop}
end
end L2
namespace Att
open PySem PySem.W PySem.Calls PyProof.Rows
theorem UR{P:Params}{h:Heap}:∀(ns:List Int)(vs:List Value),WellAll P h vs (ns.map WData.int)→IntsAre vs ns:=by
 intro ns
 induction ns with
 | nil =>
  intro vs w
  rw[List.map_nil]at w
  cases w
  exact .nil
 | cons n ns ih =>
  intro vs w
  rw[List.map_cons]at w
  cases w with
  | cons a b =>
   cases a
   exact .cons _ _ (ih _ b)
theorem script_of{l:OpenLaw}{n:Nat}(hn:l.most=some n){P:Params}{h:Heap}{args:List WData}{vals:List Value}
  (hpre:l.row.toRowW.claim.pre args=true) (hwl:WellAll P h vals args) :
  ∃a vs ns,vals=[Value.ref a]∧args=[WData.list (ns.map WData.int)]∧h.get? a=some { cls:=.type "list",data:=.seq vs.toArray }∧IntsAre vs ns∧ns.length≤n:=by
 have hsh:WShape.hasAll [] args [.list .int]=true:=(pre_splitW hpre).1
 have hc:l.pre.holds [] { args:=args }=true:=(pre_splitW hpre).2
 obtain⟨d,r,rfl,h1,h2⟩:=hasAllW_cons hsh
 obtain rfl:=hasAllW_nil h2
 obtain⟨xs,rfl,h3⟩:=hasW_list h1
 obtain⟨ns,rfl⟩:=items_int h3
 have hlen:ns.length≤n:=by
  unfold OpenLaw.pre at hc
  have h4:(WTm.not (.lt (.lit (.int (n:Int))) (.len (.arg 0)))).holds [] { args:=[.list (ns.map .int)] }=true:=by
   have h4:=(holds_andW hc).1
   rw[hn]at h4
   exact h4
  have h5:=condW_of h4 (w_not (w_lt w_lit (w_len_list (w_arg rfl))))
  rw[List.length_map]at h5
  refine Nat.le_of_not_lt fun q=>?_
  have q':(n:Int)<((ns.length:Nat):Int):=by omega
  first
   | (rw [decide_eq_true q'] at h5; exact absurd h5 (by decide))
   | (simp at h5; omega)
 cases hwl with
 | cons w1 w2 =>
  cases w2
  cases w1 with
  | list ho hall=>exact ⟨_,_,ns,rfl,rfl,ho,UR ns _ hall,hlen⟩
theorem post_true(l:OpenLaw)(args:List WData):l.row.toRowW.claim.post args (.bool true) args=true :=
 postW_of (r:=l.row.toRowW) (X:=(true==true))
  (show WShape.has [] (.bool true) .bool=true by first|rfl|decide|simp[WShape.has,WShape.arms,WShape.armsAll])
  (show(WTm.eq .res (.lit (.bool true))).value [] { args:=args,res:=some (.bool true),after:=args }=some (.bool (true==true))from w_eq_bool (w_res rfl) w_lit) rfl
theorem attach_call{l:OpenLaw}{n:Nat}{q:Program}{loose:List Str}{XP:(Str→Option Value)→Heap→Prop}{YP:World→Heap→Prop}{d:DefRec}
  (hn:l.most=some n) (hdf:d.params.defaults=[])
  (call:∀ (w:World) (s₀ s₁:Shared) (mg mb:Str→Option Value) (fa:Addr) (o:Obj) (pm cd doc:Value) (a:Addr) (vs:List Value) (ns:List Int),
   Ground q loose [] XP w s₀ mg mb s₁.heap→YP w s₁.heap →
   s₁.heap.get? fa=some o→o.data=.func (docDef d.name d.params d.body d.scope pm cd doc)→s₁.heap.CodeRec cd d.name→mg d.name=some (.ref fa) →
   s₁.heap.get? a=some { cls:=.type "list",data:=.seq vs.toArray }→IntsAre vs ns→ns.length≤n→s₁.gens=#[] →
   codeAny (model l.prog w) callerA (.call (.ref fa) ⟨[.ref a],[]⟩) (fun r s'=>r=.ok (.ret (.bool true))∧OldK s₁.heap s'.heap∧s'.os=s₁.os∧AllBare s'.gens) s₁) :
  WalkO q loose XP YP l.row.toRowW d [] (fun f vs=>PySem.call f vs):=by
 intro w s₀ s₁ mg mb G Y fa o pm cd doc dV kV ho hd hcd hD hmg hg args vals as hpre hlay hrd hwl hlo
 obtain rfl:dV=.none:=Dflts.none hD hdf
 obtain rfl:kV=.none:=Dflts.noKw hD
 obtain⟨a,vs,ns,rfl,rfl,hobj,hints,hlen⟩:=script_of hn hpre hwl
 refine enter_call (codeAny_mono (call w s₀ s₁ mg mb fa o pm cd doc a vs ns G Y ho (fd_plain hd) hcd hmg hobj hints hlen hg) fun r s' hq=>?_)
 obtain⟨rfl,h2,h3,h4⟩:=hq
 exact⟨.inl ⟨.bool true,.bool true,[],rfl,fun _=>rfl,.bool true,post_true l _,fun _=>⟨List.Pairwise.nil,fun _ hm=>(nomatch hm)⟩⟩,h2,h3,h4⟩
section
variable{prog:Program}{w:World}{A:Around}{E:Value→Shared→Prop}{s:Shared}{K:Frag}
end
end Att
namespace L2
open PySem PySem.Spec PyProof.Rows
theorem ZD:∀{vs:List Value}{ns:List Int},IntsAre vs ns→Vals (ns.map V.int) vs
 | _,_,.nil=>.nil
 | _,_,.cons n t h=>.cons ⟨t,rfl⟩ (ZD h)
def Only(H:Hp):Prop:=∀b,H b=none∨∃o xs,H b=some (.frz o (.lst xs))
theorem law_call{P:Program}{w:World}{K:PySem.W.Frag}{mg mb:Str→Option Value}{CX:CXT}{k:Nat}{fa a:Addr}{fd:FuncData}{x:Str}{sp:Sp}{s₁:Shared}{vs:List Value}{ns:List Int}
  (KX:K.In s₁.heap) (hns:s₁.heap.Ns mainGlobals mg) (hb:s₁.heap.Ns builtinsNs mb) (hbb:∀x:Str,x≠"__name__"→mb x=bootBuiltins x) (hlim:s₁.heap.NoLimit) (hg:s₁.gens=#[])
  (ha:s₁.heap.get? a=some { cls:=.type "list",data:=.seq vs.toArray }) (hi:IntsAre vs ns) (hl:ns.length≤sizeLine) (hr:Room k callerA)
  (F:∀base:Heap,K.In base→base.Ns mainGlobals mg→FnOk P w K mg base CX k fa fd [x] sp) (hbind:∀(s:Shared)(u:Value),BindsTo s fd ⟨[u],[]⟩ [(x,u)])
  (hsp:∀H:Hp,Only H→SqL K H a (ns.map V.int)→sp [.ref a] H (fun v _=>v=.bl true) fun _ _ _=>False)
  (hCX:∀H e s',CX [] H s₁ (fun _ _ _=>False) e s'→False) :
  codeAny (model P w) callerA (.call (.ref fa) ⟨[.ref a],[]⟩) (fun r s'=>r=.ok (.ret (.bool true))∧OldK s₁.heap s'.heap∧s'.os=s₁.os∧AllBare s'.gens) s₁:=by
 have rv:=ZD hi
 have lenV:=hi.length
 -- from an abstract heap in which nothing but the script may be tracked
 have core:∀H:Hp,Only H→SqL K H a (ns.map V.int)→HOk P w H s₁.heap→(∀b,H b≠none→b=a)→(H a≠none→K.lookup a=none) →
   codeAny (model P w) callerA (.call (.ref fa) ⟨[.ref a],[]⟩) (fun r s'=>r=.ok (.ret (.bool true))∧OldK s₁.heap s'.heap∧s'.os=s₁.os∧AllBare s'.gens) s₁:=by
  intro H hO hS hok hA hK
  have base_of:∀{b:Addr}{o:Obj},s₁.heap.get? b=some o→H b=none→(hidT s₁.heap H).get? b=some o:=fun e n=>hidT_get e n
  have noA:∀{b:Addr}{o:Obj}{es:Array DictEntry}{ep:Nat},s₁.heap.get? b=some o→o.data=.dict es ep→H b=none:=fun {b o es ep} e d=>by
   cases q:H b with
   | none=>rfl
   | some u =>
    have e':b=a:=hA b (by rw[q];simp)
    subst e'
    rw[ha]at e;cases e
    have d':Data.seq vs.toArray _=Data.dict es ep:=d
    cases d'
  have nsK:∀{b:Addr}{m:Str→Option Value},s₁.heap.Ns b m→(hidT s₁.heap H).Ns b m:=fun {b m} ⟨o,es,ep,e,d,r⟩=>⟨o,es,ep,base_of e (noA e d),d,r⟩
  have hKb:K.In (hidT s₁.heap H):=fun b o e=>base_of (KX b o e) (by
   cases q:H b with
   | none=>rfl
   | some u =>
    have e':b=a:=hA b (by rw[q];simp)
    subst e'
    rw [hK (by rw [q]; simp)] at e; cases e)
  have hM:Mod K mg (hidT s₁.heap H):=⟨hKb,nsK hns,⟨mb,nsK hb,hbb⟩,let⟨mc,h1,h2⟩:=hlim;⟨mc,nsK h1,h2⟩⟩
  have e0:Env0 P w K mg (hidT s₁.heap H) callerA [] s₁ H:=⟨rfl,hM,fun b o e=>of_hidT e,Nat.le_of_eq (hidT_size _ _),trivial,fun b hb=>absurd (show b∈([]:List Addr)from hb) (by simp),hok,.of_eq hg⟩
  refine codeAny_mono ((F _ hKb (nsK hns)).run callerA [] s₁ H ⟨[.ref a],[]⟩ [.ref a] [.ref a] _ _ hr e0 (hbind s₁ (.ref a)) (.cons rfl .nil) (hsp H hO hS)) fun r s' h=>?_
  cases r with
  | error e=>exact (hCX H e s' h).elim
  | ok fl =>
   cases fl with
   | next=>exact False.elim h
   | brk=>exact False.elim h
   | cont=>exact False.elim h
   | ret u =>
    obtain⟨v,H',os,bare,un,hok',r',q⟩:=h
    have q':v=.bl true:=q
    subst q'
    obtain rfl:u=Value.bool true:=r'
    refine⟨rfl,OldK.of_keep fun b o e=>?_,os,bare⟩
    cases q:H b with
    | none=>exact un.keep b o e q (by intro z; exact absurd (show b∈([]:List Addr) from z) (by simp)) (by simp)
    | some u =>
     rcases hO b with z|⟨ob,xs,z⟩
     ·rw [q] at z; cases z
     ·have z2:=un.frzs b ob _ z
      obtain⟨e1,_⟩:=hok b _ z
      obtain⟨e2,_⟩:=hok' b _ z2
      rw[e]at e1;cases e1
      exact e2
 cases hk:K.lookup a with
 | some o =>
  -- the script is one of the module's own objects
  have e:=KX a o hk
  rw[ha]at e
  cases e
  refine core (fun _=>none) (fun _=>.inl rfl) (.inr ⟨_,vs.toArray,_,hk,rfl,rfl,rfl,by rw[List.size_toArray,lenV];exact hl,by simpa using rv⟩) (fun b u z=>by have z':(none:Option HO)=some u:=z;cases z') (fun b z=>absurd rfl z) fun z=>absurd rfl z
 | none =>
  refine core (fun b=>if b=a then some (.frz { cls:=.type "list",data:=.seq vs.toArray } (.lst (ns.map V.int)))else none) (fun b=>?_) (.inl (.inr ⟨{ cls:=.type "list",data:=.seq vs.toArray },if_pos rfl⟩)) (fun b u z=>?_) (fun b z=>?_) fun _=>hk
  ·by_cases hb:b=a
   ·exact .inr ⟨_,_,if_pos hb⟩
   ·exact .inl (if_neg hb)
  ·by_cases hb:b=a
   ·have z':=(if_pos hb).symm.trans z
    cases z'
    subst hb
    exact⟨ha,by rw[List.length_map];exact hl,vs,_,rv,ha⟩
   ·have z':=(if_neg hb).symm.trans z
    cases z'
  ·by_cases hb:b=a
   ·exact hb
   ·exact absurd (if_neg hb) z
theorem walk_of{l:PySem.W.OpenLaw}{n k:Nat}{q:Program}{loose:List Str}{XP:(Str→Option Value)→Heap→Prop}{YP:World→Heap→Prop}{d:DefRec}{K:Params→PySem.W.Frag}{CX:World→CXT}{sp:World→Sp}{x:Str}
  (hn:l.most=some n) (hn2:n≤sizeLine) (hdf:d.params.defaults=[]) (hr:Room k callerA)
  (hY:∀(w:World)(h:Heap),YP w h→(K w.params).In h)
  (F:∀ (w:World) (mg:Str→Option Value) (fa:Addr) (h:Heap),(K w.params).In h→h.Ns mainGlobals mg→mg d.name=some (.ref fa) →
   ∃fd:FuncData,(∀(s:Shared)(u:Value),BindsTo s fd ⟨[u],[]⟩ [(x,u)]) ∧
    ∀ base:Heap,(K w.params).In base→base.Ns mainGlobals mg→FnOk l.prog w (K w.params) mg base (CX w) k fa fd [x] (sp w))
  (hsp:∀(w:World)(H:Hp)(a:Addr)(ns:List Int),ns.length≤n→Only H→SqL (K w.params) H a (ns.map V.int)→sp w [.ref a] H (fun v _=>v=.bl true) fun _ _ _=>False)
  (hCX:∀(w:World)(H:Hp)(s:Shared)(e:Value)(s':Shared),CX w [] H s (fun _ _ _=>False) e s'→False) :
  PySem.W.WalkO q loose XP YP l.row.toRowW d [] (fun f vs=>PySem.call f vs):=by
 refine Att.attach_call hn hdf fun w s₀ s₁ mg mb fa o pm cd doc a vs ns G Y ho hd hcd hmg hobj hints hlen hg=>?_
 have KX:=hY w _ Y
 obtain⟨fd,hb,hF⟩:=F w mg fa _ KX G.T.g hmg
 exact law_call KX G.T.g G.T.b G.T.builtins G.T.nolimit hg hobj hints (Nat.le_trans hlen hn2) hr hF hb (fun H hO hS=>hsp w H a ns hlen hO hS) fun H e s'=>hCX w H s₁ e s'
end L2
namespace L2
open PySem PySem.Spec PyProof.Rows
def Zt(s:Stmt):Arguments:=match s with
 | .FunctionDef _ a _ _ _ _ _ _ _ _=>a
 | _=>{ posonlyargs:=[],args:=[],vararg:=none,kwonlyargs:=[],kw_defaults:=[],kwarg:=none,defaults:=[] }
def YJ(s:Stmt):List Stmt:=match s with
 | .FunctionDef _ _ b _ _ _ _ _ _ _=>b
 | _=>[]
def Jl(s:Stmt):Scope:=match s with
 | .FunctionDef _ _ _ _ _ _ sc _ _ _=>sc
 | _=>{ kind:=.function,names:=[],isGenerator:=false,isCoroutine:=false }
abbrev CX0:CXT:=fun _ _ _ _ _ _=>False
abbrev E0:XK:=fun _ _ _=>False
theorem pass0{X:Cx}:Passes CX0 X E0:=fun _ _ _ _ _ _ _ h=>h.elim
structure Fun(K:PySem.W.Frag)(x qual:Str)(st:Stmt)(f:Addr)(fd:FuncData):Prop where
 ex:∃(oc:Value)(od:Option Addr)(kV doc pm:Value)(an:Option Addr)(cdv ct:Value)(osl:Array (Option Value)),
  fd=PySem.W.fnOf x qual (Zt st) (YJ st) (Jl st) .none kV doc pm an cdv ct∧K.lookup f=some ⟨oc,od,.func fd,osl⟩∧PySem.W.codeIn K cdv qual=true
 kp:PySem.W.keepIn K (.ref f)=true
section
variable{P:Program}{w:World}{K:PySem.W.Frag}{mg:Str→Option Value}{base:Heap}
theorem Fun.ok{x qual:Str}{st:Stmt}{f:Addr}{fd:FuncData}{N ps:List Str}{k:Nat}{sp:Sp}(F:Fun K x qual st f fd)(S:FnScope N ps (Jl st))(len:∀vs H Q E,sp vs H Q E→vs.length=ps.length)
  (hbody:∀ (cdv:Value) (A:Around) (outer:List Env) (s:Shared) (H:Hp) (vs:List V) (Q:VK) (E:XK),Room k (A.deeper (envOfC qual (Jl st) s.heap.objs.size f cdv))→sp vs H Q E →
   ∃ t,PSs (cxOf CX0 P w K mg base N qual (Jl st) f cdv A outer s H E).nox (YJ st) t∧t { nx:=fun _ H'=>Q .non H',rt:=Q } (start N vs) H):FnOk P w K mg base CX0 (k + 1) f fd ps sp:=by
 obtain⟨oc,od,kV,doc,pm,an,cdv,ct,osl,rfl,lk,hcd⟩:=F.ex
 refine fn_of lk hcd S len fun A outer s H vs Q E hr hsp=>?_
 obtain⟨t,h,q⟩:=hbody cdv A outer s H vs Q E hr hsp
 exact⟨t,h.nox,q⟩
theorem Fun.binds{x qual:Str}{st:Stmt}{f:Addr}{fd:FuncData}{ps:List Str}(F:Fun K x qual st f fd)
  (h:∀(kV doc pm:Value)(an:Option Addr)(cdv ct:Value)(us:List Value),us.length=ps.length→bindArgs (PySem.W.fnOf x qual (Zt st) (YJ st) (Jl st) .none kV doc pm an cdv ct) ⟨us,[]⟩=pure (ps.zip us)):Binds K fd ps []:=by
 obtain⟨oc,od,kV,doc,pm,an,cdv,ct,osl,rfl,lk,hcd⟩:=F.ex
 exact .all (h kV doc pm an cdv ct)
theorem fun_mk{x qual:Str}{st:Stmt}{f:Addr}{oc:Value}{od an:Option Addr}{osl:Array (Option Value)}{kV doc pm cdv ct:Value}(l:K.lookup f=some ⟨oc,od,.func (PySem.W.fnOf x qual (Zt st) (YJ st) (Jl st) .none kV doc pm an cdv ct),osl⟩)
  (c:PySem.W.codeIn K cdv qual=true) (k:PySem.W.keepIn K (.ref f)=true):Fun K x qual st f (PySem.W.fnOf x qual (Zt st) (YJ st) (Jl st) .none kV doc pm an cdv ct):=⟨⟨oc,od,kV,doc,pm,an,cdv,ct,osl,rfl,l,c⟩,k⟩
end
theorem YW{A:Around}{k:Nat}(hr:Room k A):A.units+1<cLine:=Nat.lt_of_le_of_lt (Nat.add_le_add_left (by decide:1≤64) _) hr.units
theorem Jj{n:Nat}(h:n≤1000):n<sizeLine:=Nat.lt_of_le_of_lt h (by decide)
section
variable{X:Cx}
theorem pv(i:Nat){x:Str}{pos:Pos}(hN:X.N[i]?=some x:=by rfl)(hv:Vis X.env.scope x:=by first|exact Or.inl rfl|exact Or.inr (Or.inl rfl)|exact Or.inr (Or.inr rfl))(hd:(x==("__debug__":Str))=false:=by decide)
  (hcd:(x==("__classdict__":Str))=false:=by decide):PE X (.Name x pos) (tVar i):=pe_var hN hv hd hcd
end
theorem iteF{A B:Prop}(h:B):if false=true then A else B:=by
 rw[if_neg Bool.false_ne_true]
 exact h
theorem iteT{A B:Prop}(h:A):if true=true then A else B:=by
 rw[if_pos rfl]
 exact h
theorem ite2{c A B:Prop}[Decidable c](h1:c→A)(h2:¬ c→B):if c then A else B:=by
 by_cases h:c
 ·rw [if_pos h]
  exact h1 h
 ·rw [if_neg h]
  exact h2 h
theorem iteNS{c A B:Prop}[Decidable c](hc:c)(h:B):if (!decide c)=true then A else B:=by
 rw[decide_eq_true hc]
 exact iteF h
def Same(H H':Hp):Prop:=∀b o,H b=some o→H' b=some o
theorem Same.refl(H:Hp):Same H H:=fun _ _ h=>h
theorem Same.trans{H H1 H2:Hp}(a:Same H H1)(b:Same H1 H2):Same H H2:=fun c o h=>b c o (a c o h)
theorem Same.seq{K:PySem.W.Frag}{H H':Hp}{a:Addr}{xs:List V}(e:Same H H')(h:SqL K H a xs):SqL K H' a xs:=by
 rcases h with(h|⟨o,h⟩)|h
 ·exact .inl (.inl (e _ _ h))
 ·exact .inl (.inr ⟨o,e _ _ h⟩)
 ·exact .inr h
section
variable{κ:Type}[DecidableEq κ]
end
end L2
namespace L2
open PySem PySem.Spec PyProof.Rows
section
variable{prog:Program}{w:World}{A:Around}{R:Result→Shared→Prop}
theorem lc_loop{elt tg iter:Expr}{ifs:List Expr}{scope:Scope}{pos:Pos}{itv accv:Value}{ce:Env}(J:Nat→Shared→Prop)
  (step:∀ k t,J k t→wpAny (model prog w) A (pyNext itv) (fun r t1=>match r with
   | none=>R (.ok .next) t1
   | some v=>wpAny (model prog w) A (letOwnedTupleGo tg itv v) (fun _ t2=>wpAny (model prog w) A (assign tg ce v) (fun _ t3 =>
     wpAny (model prog w) A (forIn ifs true fun c r=>if r=true then do let ok ← isTrue c ce (eval c ce); pure (ForInStep.yield ok) else pure (ForInStep.yield r)) (fun ok t4 =>
      if ok=true then wpAny (model prog w) A (eval elt ce) (fun x t5 =>
       wpAny (model prog w) A (call (.builtin "list.append") [accv,x]) (fun _ t6=>∃ j,j < k∧J j t6) (fun _ _=>False) t5) (fun _ _=>False) t4
      else ∃ j,j < k∧J j t4) (fun _ _=>False) t3) (fun _ _=>False) t2) (fun _ _=>False) t1) (fun _ _=>False) t)
  (n:Nat) {s:Shared} (h:J n s) :
  codeAny (model prog w) A (.compLoop (.ListComp elt [⟨tg,iter,ifs,0⟩] scope pos) 0 itv accv ce) R s:=by
 refine codeAny_loop rfl J (fun k t hJ=>?_) n h
 show wpAny _ A ((compTurn (.ListComp elt [⟨tg,iter,ifs,0⟩] scope pos) 0 itv accv ce).onRaise (fun x=>do noteFrame x ce;theTreesLotGoes x)) _ _ t
 refine wpAny_noted ?_
 rw[compTurn_list]
 refine wpAny_bind (wpAny_standAt (wpAny_bind (wpAny_mono (step k t hJ) (fun r t1 h1=>?_) fun _ _ z=>z.elim)))
 cases r with
 | none=>exact wpAny_pure h1
 | some v =>
  refine wpAny_bind (wpAny_mono h1 (fun _ t2 h2=>?_) fun _ _ z=>z.elim)
  refine wpAny_bind (wpAny_mono h2 (fun _ t3 h3=>wpAny_bind (wpAny_mono h3 (fun ok t4 h4=>?_) fun _ _ z=>z.elim)) fun _ _ z=>z.elim)
  cases ok with
  | false=>exact wpAny_pure ⟨rfl,h4⟩
  | true =>
   exact wpAny_bind (wpAny_bind (wpAny_mono h4 (fun x t5 h5=>wpAny_bind (wpAny_mono h5 (fun _ t6 h6=>wpAny_pure (wpAny_pure ⟨rfl,h6⟩)) fun _ _ z=>z.elim)) fun _ _ z=>z.elim))
end
def cxLc(X:Cx)(N:List Str)(scope:Scope)(cl:List (Str×Addr))(C:Addr)(s:Shared)(H:Hp)(fp:List Addr):Cx where
 prog:=X.prog
 w:=X.w
 K:=X.K
 mg:=X.mg
 base:=X.base
 A:=X.A
 N:=N
 s₀:=s
 H₀:=H
 env:=compEnvC scope cl C X.env
 outer:=X.stack
 stack:=X.stack
 ex:=fp
 fn:=fun _=>false
 calm:=X.calm
 pn:=[]
 xe:=fun _ _=>False
def CapsIn(env:Env):List (Str×Addr)→Prop
 | []=>True
 | p::r=>(env.kindOf p.1=some .cell∧env.cells.lookup p.1=some p.2)∧CapsIn env r
theorem CapsIn.get{env:Env}:∀{cl:List (Str×Addr)},CapsIn env cl→∀x c,cl.lookup x=some c→env.kindOf x=some .cell∧env.cells.lookup x=some c
 | [],_,_,_,e=>by simp at e
 | (n,a)::r,h,x,c,e=>by
  by_cases hx:x=n
  ·subst hx
   simp only[List.lookup_cons,beq_self_eq_true]at e
   cases e
   exact h.1
  ·have hb:(x == n)=false:=by simpa using hx
   simp only[List.lookup_cons,hb]at e
   exact CapsIn.get h.2 x c e
structure LcOk(X:Cx)(N:List Str)(src:List (Option Nat))(scope:Scope)(cl:List (Str×Addr)):Prop where
 clos:closureFor scope X.env=pure cl
 kind:scope.kind=.function
 nocell:scope.names.all (fun y=>!(y.2==.cell))=true
 names:scope.names.all (fun y=>!(y.2==.local)||scope.names.lookup y.1==some .local)=true
 caps:CapsIn X.env cl
 has:(relabel scope X.env).names.all (fun y=>!(y.2==.cell||y.2==.free)||(cl.lookup y.1).isSome)=true
 len:N.length=src.length
 srcs:(N.zip src).all (fun p=>match p.2 with|none=>true|some i=>X.N[i]?==some p.1&&!((relabel scope X.env).names.lookup p.1==some .local))=true
def capS(src:List (Option Nat))(σ:St):St:=src.map fun o=>match o with|none=>none|some i=>(σ[i]?).join
def GOwn(g:TG)(src:List (Option Nat)):Prop :=
 ∀x σ H Q,g x σ H Q→g x σ H fun σ2 H2=>Q σ2 H2∧σ2.length=σ.length∧∀k:Nat,src[k]?≠some none→σ2[k]?=σ[k]?
theorem Jw{i:Nat}{src:List (Option Nat)}(h:src[i]?=some none):GOwn (Zr i) src:=fun x σ H Q q =>
 ⟨q,by simp,fun k hk=>by
  have:i≠k:=fun e=>hk (by rw[← e];exact h)
  rw [List.getElem?_set_ne this]⟩
theorem YF{K:PySem.W.Frag}{i j n:Nat}{src:List (Option Nat)}(h:src[i]?=some none)(h':src[j]?=some none):GOwn (gTup K n (gCons (Zr i) (gCons (Zr j) gNil))) src:=by
 intro x σ H Q q
 obtain⟨a,xs,e1,e2,e3,v,r,e4,v2,r2,e5,e6,q⟩:=q
 refine⟨a,xs,e1,e2,e3,v,r,e4,v2,r2,e5,e6,q,by simp,fun k hk=>?_⟩
 have n1:i≠k:=fun e=>hk (by rw[← e];exact h)
 have n2:j≠k:=fun e=>hk (by rw[← e];exact h')
 rw[List.getElem?_set_ne n2,List.getElem?_set_ne n1]
theorem capS_len(src:List (Option Nat))(σ:St):(capS src σ).length=src.length:=by simp[capS]
theorem capS_get{src:List (Option Nat)}{σ:St}{k:Nat}{v:V}(h:(capS src σ)[k]?=some (some v)):∃i,src[k]?=some (some i)∧σ[i]?=some (some v):=by
 unfold capS at h
 rw[List.getElem?_map]at h
 cases e:src[k]? with
 | none=>rw [e] at h; cases h
 | some o =>
  rw[e]at h
  cases o with
  | none=>cases h
  | some i =>
   refine⟨i,rfl,?_⟩
   have h:some ((σ[i]?).join)=some (some v):=h
   have h:=Option.some.inj h
   cases q:σ[i]? with
   | none=>rw [q] at h; cases h
   | some z=>rw [q] at h; have h:z=some v:=h; rw [h]
def PIfs(X:Cx)(ifs:List Expr)(t:TT):Prop :=
 ∀(pins:List (Addr×Obj))(s:Shared)(σ:St)(H:Hp)(Q:Bool→Hp→Prop),Inv X pins σ H s→t σ H Q →
  wpAny (model X.prog X.w) X.A (forIn ifs true fun c r=>if r=true then do let ok ← isTrue c X.env (eval c X.env);pure (ForInStep.yield ok)else pure (ForInStep.yield r)) (TP X pins σ Q) X.xe s
def tYes:TT:=fun _ H Q=>Q true H
theorem JG{X:Cx}:PIfs X [] tYes:=fun _ _ _ H _ I h=>wpAny_tests_nil ⟨H,I,h⟩
theorem Yb{X:Cx}{c:Expr}{t:TT}(h:PT X c t):PIfs X [c] t:=fun pins s σ H Q I q=>wpAny_tests_one (h pins s σ H Q I q)
def tLc(wi:TI)(src:List (Option Nat))(g:TG)(tc:TT)(te:TE):TE:=fun σ H Q=>wi σ H fun J H1 =>
 ∃W:Nat→Nat→List V→Hp→Prop,(∃m,W 0 m [] H1)∧∀i m ys H,W i m ys H →
  (J.stop i H∧ys.length≤sizeLine∧∀p,H p=none→Q (.ref p) (upd H p (.lst ys))) ∨
  (J.go i H∧ys.length≤sizeLine∧∀ x H',J.yld i H x H'→g x (capS src σ) H' fun σ2 H2=>tc σ2 H2 fun b H3 =>
   if b=true then te σ2 H3 fun y H4=>∃ m',m' < m∧W (i + 1) m' (ys++[y]) H4 else ∃ m',m' < m∧W (i + 1) m' ys H3)
section
variable{X:Cx}{N:List Str}{src:List (Option Nat)}{scope:Scope}{cl:List (Str×Addr)}{pins:List (Addr×Obj)}{σ:St}{H:Hp}{s:Shared}
theorem LcOk.cellAt(ok:LcOk X N src scope cl):∀x,((relabel scope X.env).names.lookup x=some .cell∨(relabel scope X.env).names.lookup x=some .free)→∃c,cl.lookup x=some c:=by
 intro x hx
 have key:∀k:NameKind,(k==.cell||k==.free)=true→(relabel scope X.env).names.lookup x=some k→∃c,cl.lookup x=some c:=by
  intro k hk e
  have m:=PySem.mem_of_lookup e
  have q:=List.all_eq_true.mp ok.has _ m
  rw[hk]at q
  simp only[Bool.not_true,Bool.false_or]at q
  exact Option.isSome_iff_exists.mp q
 rcases hx with e|e
 ·exact key _ rfl e
 ·exact key _ rfl e
theorem LcOk.enter(ok:LcOk X N src scope cl)(I:Inv X pins σ H s){fp:List Addr}(hfp:∀b∈fp,FpOk X pins H b)(hlt:∀b∈fp,b<s.heap.objs.size){C:Addr}(hC:s.heap.objs.size≤C)
  {t:Shared} {m:Str→Option Value} (ho:t.os=s.os) (hg:t.gens=s.gens) (hk:∀b o,s.heap.get? b=some o→t.heap.get? b=some o) (hn:t.heap.Ns C m)
  {pl:List (Addr×Obj)} (hpl:∀p∈pl,t.heap.get? p.1=some p.2∧H p.1=none∧p.1≠C∧p.1∉frs X.stack∧∀v,p.2.data≠.cell v) :
  Inv (cxLc X N scope cl C s H fp) pl (capS src σ) H t:=by
 have cg:=ok.caps.get
 have okX:(cxLc X N scope cl C s H fp).Ok:=by
  refine⟨I.ok.mod,ok.kind,I.ok.glob,I.ok.blt,hC,fun x y c h1 h2=>?_,fun x hx=>ok.cellAt x hx,(fun x c z _=>nomatch z),I.ok.hd,I.ok.frames,.inl rfl,fun b hb=>?_,I.bs,Nat.le_trans I.ok.bsz I.sz,fun b o e hb=>?_,fun b hb z=>?_,I.stack,I.stkFree⟩
  ·exact I.ok.inj x y c (cg x c h1).2 (cg y c h2).2
  ·refine ⟨fun e=>?_,fun x c e=>?_⟩
   ·have e:b=C:=e
    have:=hlt b hb
    rw[e]at this
    exact absurd (Nat.lt_of_lt_of_le this hC) (Nat.lt_irrefl _)
   ·exact (hfp b hb).2.2.2.2.1 x c (cg x c e).2
  ·rcases (hfp b hb).2.2.2.1 with z | z
   ·exact I.ok.noex b o e z
   ·exact absurd (Nat.lt_of_lt_of_le (Heap.lt_size e) (Nat.le_trans I.ok.bsz z)) (Nat.lt_irrefl _)
  ·rcases List.mem_cons.mp (I.stkSub b z) with e | e
   ·exact (hfp b hb).2.1 e
   ·exact (hfp b hb).2.2.1 e
 obtain⟨mX,hnX,hlX⟩:=I.loc
 refine⟨okX,ho,by rw[hg];exact I.bare,Un.kept hk,⟨m,hn,fun j x v e1 e2 e3=>?_⟩,fun x c e=>?_,I.hok.fresh hC,fun x c e=>I.freeC x c (cg x c e).2,fun p hp=>hpl p hp,I.hok.kept hk,?_⟩
 ·obtain ⟨i,e4,e5⟩:=capS_get e2
  have hz:(N.zip src)[j]?=some (x,some i):=by
   rw[List.getElem?_zip_eq_some]
   exact⟨e1,e4⟩
  have q:=List.all_eq_true.mp ok.srcs _ (List.mem_of_getElem? hz)
  have q:(X.N[i]?==some x&&!((relabel scope X.env).names.lookup x==some .local))=true:=q
  rw[Bool.and_eq_true]at q
  have q1:X.N[i]?=some x:=by simpa using q.1
  have q2:¬ (relabel scope X.env).names.lookup x=some .local:=by
   intro z
   rw[z]at q
   exact absurd q.2 (by decide)
  have e3:(relabel scope X.env).names.lookup x=some .local∨(relabel scope X.env).names.lookup x=some .cell∨(relabel scope X.env).names.lookup x=some .free:=e3
  have e6:(relabel scope X.env).names.lookup x=some .cell∨(relabel scope X.env).names.lookup x=some .free:=e3.resolve_left q2
  obtain⟨c,hc⟩:=ok.cellAt x e6
  obtain⟨k1,k2⟩:=cg x c hc
  obtain⟨u,r,l⟩:=hlX i x v q1 e5 (.inr (.inl k1))
  refine⟨u,r,.inr ⟨e6,c,hc,?_⟩⟩
  rcases l with⟨z,_⟩|⟨_,c',z1,z2⟩
  ·rw [k1] at z; cases z
  ·rw [k2] at z1
   cases z1
   obtain⟨o,ho',hd⟩:=z2
   exact⟨o,hk _ o ho',hd⟩
 ·obtain ⟨v,o,ho',hd⟩:=I.cell x c (cg x c e).2
  exact⟨v,o,hk _ o ho',hd⟩
 ·rw [capS_len]
  exact ok.len.symm
theorem lc_leave(I:Inv X pins σ H s){fp:List Addr}(hfp:∀b∈fp,FpOk X pins H b){C D:Addr}(hD:s.heap.objs.size≤D)(hC:s.heap.objs.size≤C)
  {σ':St} {H':Hp} {t:Shared} {pl:List (Addr×Obj)} (J:Inv (cxLc X N scope cl C s H fp) pl σ' H' t) {ys:List V} {its:List Value} {n:Nat} (hy:ys.length≤sizeLine) (rv:Vals ys its)
  (hd:t.heap.get? D=some { cls:=.type "list",data:=.seq its.toArray n }) (hn:H' D=none) (hDC:D≠C) {h':Heap} (hs:Heap.SameBut C t.heap h'):Inv X pins σ (upd H' D (.lst ys)) { t with heap:=h' }:=by
 have neC:∀b o,s.heap.get? b=some o→b≠C:=fun b o e=>Nat.ne_of_lt (Nat.lt_of_lt_of_le (Heap.lt_size e) hC)
 have neD:∀b o,s.heap.get? b=some o→b≠D:=fun b o e=>Nat.ne_of_lt (Nat.lt_of_lt_of_le (Heap.lt_size e) hD)
 have B:Un (frs X.stack) fp H H' s.heap t.heap:=J.base
 have fC:H' C=none:=J.free
 refine I.call' (s':={ t with heap:=h' }) (ch:=fp) J.os ?_ ?_ J.bare fun b hb=>⟨(hfp b hb).2.2.2.1,(hfp b hb).2.1,(hfp b hb).2.2.2.2.1,(hfp b hb).2.2.2.2.2⟩
 ·refine ⟨fun b o e q hb hx=>(hs.2 b (neC b o e)).trans (B.keep b o e q hb hx),fun b o e q hb hx=>?_,fun b o e q hx=>?_,fun b o e hx=>?_,fun b xs e=>?_,fun b o u e=>?_,fun b ps e=>?_⟩
  ·obtain ⟨sl,z⟩:=B.slot b o e q hb hx
   exact⟨sl,(hs.2 b (neC b o e)).trans z⟩
  ·rw [Jh (neD b o e)]
   exact B.free b o e q hx
  ·obtain ⟨o',z⟩:=B.there b o e hx
   exact⟨o',(hs.2 b (neC b o e)).trans z⟩
  ·have z:=B.tups b xs e
   rw[Jh (Jg z hn)]
   exact z
  ·have z:=B.frzs b o u e
   rw[Jh (Jg z hn)]
   exact z
  ·obtain ⟨more,z⟩:=B.tbls b ps e
   exact⟨more,by rw[Jh (Jg z hn)];exact z⟩
 ·intro b u e
  by_cases hb:b=D
  ·subst hb
   rw[Jb]at e
   cases e
   exact⟨hy,its,n,rv,(hs.2 b hDC).trans hd⟩
  ·rw [Jh hb] at e
   refine(J.hok b u e).stay (fun c v hc q=>(hs.2 c ?_).trans q) (fun c q=>?_) fun c xs q=>?_
   ·rintro rfl
    rcases hc with z|z
    ·rw [← z,fC] at e; cases e
    ·rw [fC] at z; cases z
   ·rw [Jh (Jg q hn)]; exact q
   ·rw [Jh (Jg q hn)]; exact q
theorem lc_block{elt tg iter:Expr}{ifs:List Expr}{pos:Pos}{te:TE}{tc:TT}{g:TG}{it:Addr}{fp:List Addr}{tn:Nat→Heap→Prop}{J:It}{E:Value→Shared→Prop}{RR:Value→Addr→Result→Shared→Prop}{Qr:List V→Hp→Prop}
  (hc:X.calm=true) (ok:LcOk X N src scope cl) (hgo:GOwn g src)
  (hb:∀C,PG (cxLc X N scope cl C s H fp) tg g∧PIfs (cxLc X N scope cl C s H fp) ifs tc∧PE (cxLc X N scope cl C s H fp) elt te)
  (I:Inv X pins σ H s) (T:Turn X.prog X.w X.K tg J fp it tn) (st:tn 0 s.heap) (hfp:∀b∈fp,FpOk X pins H b)
  (W:Nat→Nat→List V→Hp→Prop) (w0:∃m,W 0 m [] H)
  (turn:∀ i m ys H,W i m ys H→(J.stop i H∧ys.length≤sizeLine∧Qr ys H)∨(J.go i H∧ys.length≤sizeLine∧∀ x H',J.yld i H x H'→g x (capS src σ) H' fun σ2 H2=>tc σ2 H2 fun b H3 =>
   if b=true then te σ2 H3 fun y H4=>∃ m',m' < m∧W (i + 1) m' (ys++[y]) H4 else ∃ m',m' < m∧W (i + 1) m' ys H3))
  (fin:∀ D C t ys H',s.heap.objs.size≤D→s.heap.objs.size≤C→D≠C→H' D=none→H' C=none→(∃ m,t.heap.Ns C m)→Qr ys H'→(∀ h',Heap.SameBut C t.heap h'→Inv X pins σ (upd H' D (.lst ys)) { t with heap:=h' }) →
   RR (.ref D) C (.ok .next) t) :
  wpAny (model X.prog X.w) X.A (newList []) (fun acc s₃=>wpAny (model X.prog X.w) X.A (newFunctionEnv scope X.env.globals cl [] X.env.qual none .none (some X.env)) (fun cenv s₄ =>
   codeAny (model X.prog X.w) X.A (.compStart (.ListComp elt [⟨tg,iter,ifs,0⟩] scope pos) 0 (.ref it) acc { cenv with scope:=relabel scope X.env }) (RR acc cenv.locals) s₄) E s₃) E s:=by
 have noc:∀y∈scope.names,y.2≠.cell:=fun y hy z=>by
  have q:=List.all_eq_true.mp ok.nocell y hy
  rw[z]at q
  exact absurd q (by decide)
 obtain⟨m0,w0⟩:=w0
 refine wpAny_newList (wpAny_newFunctionEnv noc (by intro y hy;simp at hy) (fun h1 hns hsb=>?_) ok.kind) (by show 0≤sizeLine;exact Nat.zero_le _)
 dsimp only at hns hsb ⊢
 generalize hp1:s.heap.push { cls:=.type "list",data:=.seq ([]:List Value).toArray }=hD at hns hsb ⊢
 have eC:hD.objs.size=s.heap.objs.size+1:=by rw[← hp1,Heap.size_push]
 have nDC:s.heap.objs.size≠hD.objs.size:=by rw[eC];exact Nat.ne_of_lt (Nat.lt_succ_self _)
 have leC:s.heap.objs.size≤hD.objs.size:=by rw[eC];exact Nat.le_succ _
 have kept:∀b o,s.heap.get? b=some o→h1.get? b=some o:=fun b o e =>
  hsb.extBut b o (Nat.ne_of_lt (Nat.lt_of_lt_of_le (Heap.lt_size e) leC)) (Heap.get?_push_of_some _ (hp1▸Heap.get?_push_of_some _ e))
 have atD:h1.get? s.heap.objs.size=some { cls:=.type "list",data:=.seq ([]:List Value).toArray }:=hsb.extBut _ _ nDC (Heap.get?_push_of_some _ (hp1▸Heap.get?_push_size _ rfl))
 have ltf:∀b∈fp,b<s.heap.objs.size:=fun b hb=>by
  obtain⟨o,e,_⟩:=T.obj 0 _ st b hb
  exact Heap.lt_size e
 have nstk:s.heap.objs.size∉frs X.stack:=fun z=>by
  rcases List.mem_cons.mp (I.stkSub _ z)with e|e
  ·exact absurd (Nat.lt_of_lt_of_le I.lt (Nat.le_of_eq e)) (Nat.lt_irrefl _)
  ·exact I.nofs (Nat.le_refl _) e
 have ncl:∀x c,cl.lookup x=some c→c≠s.heap.objs.size:=fun x c e z=>by
  obtain⟨v,q⟩:=I.cell x c (ok.caps.get x c e).2
  exact absurd q.lt (by rw[z];exact Nat.lt_irrefl _)
 -- what stays true of the iterator's records
 have stat:∀{H':Hp}{its:List Value}{k:Nat},(∀b∈fp,H' b=none)→∀b∈fp,FpOk (cxLc X N scope cl hD.objs.size s H fp) [(s.heap.objs.size,{ cls:=.type "list",data:=.seq its.toArray k })] H' b:=fun fr b hb=>by
  refine⟨fr b hb,fun z=>?_,fun z=>?_,.inl hb,fun x c e=>(hfp b hb).2.2.2.2.1 x c (ok.caps.get x c e).2,fun p hp z=>?_⟩
  ·have z:b=hD.objs.size:=z
   exact absurd (Nat.lt_of_lt_of_le (ltf b hb) (by rw[z];exact leC)) (Nat.lt_irrefl _)
  ·rcases List.mem_cons.mp (I.stkSub b z) with e | e
   ·exact (hfp b hb).2.1 e
   ·exact (hfp b hb).2.2.1 e
  ·have hp:p∈([]:List (Addr×Obj))++[(s.heap.objs.size,{ cls:=.type "list",data:=.seq _ _ })]:=hp
   rw[List.nil_append,List.mem_singleton]at hp
   rw[hp]at z
   exact absurd (ltf b hb) (by rw[← z];exact Nat.lt_irrefl _)
 have loop:∀t:Shared,t={ s with heap:=h1,toks:=s.toks+([]:List (Str×Value)).length } →
   codeAny (model X.prog X.w) X.A (.compLoop (.ListComp elt [⟨tg,iter,ifs,0⟩] scope pos) 0 (.ref it) (.ref s.heap.objs.size) (compEnvC scope cl hD.objs.size X.env)) (RR (.ref s.heap.objs.size) hD.objs.size) t:=by
  rintro t rfl
  refine lc_loop (fun n t=>∃i ys its k H',Inv (cxLc X N scope cl hD.objs.size s H fp) [(s.heap.objs.size,{ cls:=.type "list",data:=.seq its.toArray k })] (capS src σ) H' t∧Vals ys its∧tn i t.heap∧(∀b∈fp,H' b=none)∧W i n ys H') ?_ m0
   ⟨0,[],[],0,H,ok.enter (t:={ s with heap:=h1,toks:=s.toks+([]:List (Str×Value)).length }) I hfp ltf leC rfl rfl kept hns ?_,.nil,T.keep 0 _ _ st fun b _ o e=>kept b o e,fun b hb=>(hfp b hb).1,w0⟩
  ·rintro n t ⟨i,ys,its,k,H',Iy,rv,stt,fr,wv⟩
   rcases turn i n ys H' wv with⟨stop,hy,q⟩|⟨go,hy,body⟩
   ·refine wpAny_mono (T.done (cxLc X N scope cl hD.objs.size s H fp) rfl rfl rfl hc i _ t _ H' (fun _ _=>False) Iy (stat fr) stt stop) (fun r t1 hr=>?_) fun _ _ z=>z
    obtain⟨hr,I1⟩:=hr
    subst hr
    have p:=I1.pin (s.heap.objs.size,_) (List.mem_append_right _ List.mem_cons_self)
    obtain⟨m,hnC,_⟩:=id I1.loc
    exact fin _ _ t1 ys H' (Nat.le_refl _) leC nDC p.2.1 I1.free ⟨m,hnC⟩ q fun h' hs=>lc_leave I hfp (Nat.le_refl _) leC I1 hy rv p.1 p.2.1 nDC hs
   ·refine wpAny_mono (T.item (cxLc X N scope cl hD.objs.size s H fp) rfl rfl rfl hc i _ t _ H' (fun _ _=>False) Iy (stat fr) stt go) (fun r t1 hr=>?_) fun _ _ z=>z
    obtain⟨u,hr,h4⟩:=hr
    subst hr
    refine wpAny_mono h4 (fun _ t2 h5=>?_) fun _ _ z=>z
    obtain⟨x,H5,I5,r5,y5,st5,fr5⟩:=h5
    have I5':=I5.pinned (stat fr5) (T.obj _ _ st5)
    obtain⟨pg,pi,pe⟩:=hb hD.objs.size
    refine wpAny_mono (pg _ t2 _ H5 x u _ I5' r5 (hgo _ _ _ _ (body x H5 y5))) (fun _ t3 h6=>?_) fun _ _ z=>z
    obtain⟨σ6,H6,I6,q6,len6,keep6⟩:=h6
    refine wpAny_mono (pi _ t3 σ6 H6 _ I6 q6) (fun b t4 h7=>?_) fun _ _ z=>z
    obtain⟨H7,I7,q7⟩:=h7
    have wk:∀{pl:List (Addr×Obj)}{Hz:Hp}{tz:Shared},Inv (cxLc X N scope cl hD.objs.size s H fp) pl σ6 Hz tz→Inv (cxLc X N scope cl hD.objs.size s H fp) pl (capS src σ) Hz tz:=fun Iz =>
     Iz.weak len6.symm fun j v e=>by
      obtain⟨a,ea,_⟩:=capS_get e
      rw[keep6 j (by rw[ea];simp)]
      exact e
    have held:∀{Hz:Hp}{tz:Shared}{pl:List (Addr×Obj)},Inv (cxLc X N scope cl hD.objs.size s H fp) (pl++ZT fp t2.heap) σ6 Hz tz→(∀b∈fp,∀o,t2.heap.get? b=some o→tz.heap.get? b=some o)∧∀b∈fp,Hz b=none:=fun Iz =>
     ⟨fun b hb o e=>(Iz.pin (b,o) (List.mem_append_right _ (List.mem_append_right _ (ZV hb e)))).1,fun b hb=>by
      obtain⟨o,e,_⟩:=T.obj _ _ st5 b hb
      exact (Iz.pin (b,o) (List.mem_append_right _ (List.mem_append_right _ (ZV hb e)))).2.1⟩
    cases b with
    | false =>
     rw[if_neg Bool.false_ne_true]at q7 ⊢
     obtain⟨m',hm,w'⟩:=q7
     exact⟨m',hm,i+1,ys,its,k,H7,wk I7.unpinned,rv,T.keep _ _ _ st5 (held I7).1,(held I7).2,w'⟩
    | true =>
     rw[if_pos rfl]at q7 ⊢
     refine wpAny_mono (pe _ t4 σ6 H7 _ I7 q7) (fun v t5 h8=>?_) fun _ _ z=>z
     obtain⟨y,H8,I8,r8,m',hm,w'⟩:=h8
     have p:=I8.pin (s.heap.objs.size,_) (List.mem_append_right _ (List.mem_append_left _ List.mem_cons_self))
     have hl:its.toArray.size≤sizeLine:=by rw[List.size_toArray,← rv.length];exact hy
     refine wpAny_list_append_plain (items:=its.toArray) ⟨k,p.1⟩ (fun h' hpl hs=>?_) hl
     obtain⟨k',ek⟩:=hpl
     have ek:h'.get? s.heap.objs.size=some { cls:=.type "list",data:=.seq (its++[v]).toArray k' }:=by
      rw[ek]
      simp
     have I9:Inv (cxLc X N scope cl hD.objs.size s H fp) (ZT fp t2.heap) σ6 H8 t5:=I8.pins_of fun a ha=>I8.pin a (List.mem_append_right _ (List.mem_append_right _ ha))
     have I10:Inv (cxLc X N scope cl hD.objs.size s H fp) (ZT fp t2.heap) σ6 H8 { t5 with heap:=h' }:=I9.turned (it:=s.heap.objs.size) (t':=t5.toks) (fun b o hb e=>hs.extBut b o hb e) p.2.1 nDC (.inr (Nat.le_refl _)) (fun x c e=>ncl x c e) fun a ha z=>by
      have ha:a∈([]:List (Addr×Obj))++ZT fp t2.heap:=ha
      rw[List.nil_append]at ha
      exact absurd (ltf a.1 (of_pinsAt ha).1) (by rw[z];exact Nat.lt_irrefl _)
     have hld:=held (pl:=[]) (show Inv (cxLc X N scope cl hD.objs.size s H fp) ([]++ZT fp t2.heap) σ6 H8 { t5 with heap:=h' } from I10)
     refine⟨m',hm,i+1,ys++[y],its++[v],k',H8,(wk I10).pins_of fun a ha=>?_,rv.append (.cons r8 .nil),T.keep _ _ _ st5 hld.1,hld.2,w'⟩
     rw[List.mem_singleton]at ha
     subst ha
     exact⟨ek,p.2.1,nDC,nstk,fun _ z=>nomatch z⟩
  ·intro a ha
   rw[List.mem_singleton]at ha
   subst ha
   exact⟨atD,I.hok.fresh (Nat.le_refl _),nDC,nstk,fun _ z=>nomatch z⟩
 exact codeAny_compStart_list (loop _ rfl) (T.self _ 0 _ _ _ (T.keep 0 _ _ st fun b _ o e=>kept b o e) (loop _ rfl))
theorem Ye{elt tg iter:Expr}{ifs:List Expr}{pos:Pos}{te:TE}{tc:TT}{g:TG}{wi:TI}(hc:X.calm=true)(ok:LcOk X N src scope cl)(hgo:GOwn g src)(hi:PI X tg iter wi)
  (hb:∀C s H fp,PG (cxLc X N scope cl C s H fp) tg g∧PIfs (cxLc X N scope cl C s H fp) ifs tc∧PE (cxLc X N scope cl C s H fp) elt te)
  (hs:∀x,foldedSetIterable iter X.env x=pure x:=by intro _;rfl):PE X (.ListComp elt [⟨tg,iter,ifs,0⟩] scope pos) (tLc wi src g tc te):=by
 intro pins s σ H Q I h
 have nms:∀y∈scope.names,y.2=.local→scope.names.lookup y.1=some .local:=fun y hy z=>by
  have q:=List.all_eq_true.mp ok.names y hy
  rw[z]at q
  simpa using q
 rw[eval_ListComp]
 refine wpAny_comprehension_free (use:=none) rfl hs ok.clos ok.kind nms (thn (hi pins s σ H _ I h) fun v s1 h1=>thn h1 fun itv s2 h2=>?_)
 obtain⟨it,fp,tn,J,H2,e,I2,T,st2,f2,W,w0,turn⟩:=h2
 subst e
 refine lc_block (RR:=fun acc C=>compPost (model X.prog X.w) X.A X.xe none (EP X pins σ Q) acc C) (Qr:=fun ys H=>∀p,H p=none→Q (.ref p) (upd H p (.lst ys))) hc ok hgo (fun C=>hb C s2 H2 fp) I2 T st2 f2 W w0 turn ?_
 intro D C t ys H' hD hC nDC n1 n2 hn q inv
 obtain⟨m,hn⟩:=hn
 exact⟨m,hn,fun h' hs=>⟨.ref D,_,inv h' hs,rfl,q D n1⟩⟩
theorem YN{elt tg iter:Expr}{ifs:List Expr}{pos pos' spos:Pos}{te:TE}{tc:TT}{g:TG}{wi:TI}{i:Nat}{x:Str}(hN:X.N.Nodup)(hx:X.N[i]?=some x)(hl:X.env.scope.names.lookup x=some .local)
  (hsw:swapsWith (.ListComp elt [⟨tg,iter,ifs,0⟩] scope pos) (some (.Name x pos')) spos.line X.env=pure true) (hc:X.calm=true) (ok:LcOk X N src scope cl) (hgo:GOwn g src) (hi:PI X tg iter wi)
  (hb:∀C s H fp,PG (cxLc X N scope cl C s H fp) tg g∧PIfs (cxLc X N scope cl C s H fp) ifs tc∧PE (cxLc X N scope cl C s H fp) elt te)
  (hs:∀x,foldedSetIterable iter X.env x=pure x:=by intro _;rfl):PS X (.Assign [.Name x pos'] (.ListComp elt [⟨tg,iter,ifs,0⟩] scope pos) spos) (tAsg (tLc wi src g tc te) (Zr i)):=by
 intro pins s σ H DD I h
 have nms:∀y∈scope.names,y.2=.local→scope.names.lookup y.1=some .local:=fun y hy z=>by
  have q:=List.all_eq_true.mp ok.names y hy
  rw[z]at q
  simpa using q
 rw[exec_Assign_Name_used _ _ _ _ hsw]
 refine wpAny_bind (wpAny_standAt (wpAny_bind ?_))
 show wpAny (model X.prog X.w) X.A (do let _ ← comprehension (.ListComp elt [⟨tg,iter,ifs,0⟩] scope pos) scope X.env _ (newList []) false (eval iter X.env) (some (assign (.Name x pos') X.env))) _ _ s
 refine wpAny_bind (wpAny_mono (wpAny_comprehension_free (use:=some (assign (.Name x pos') X.env)) (Q:=fun _ t=>SP X pins DD .next t) rfl hs ok.clos ok.kind nms
  (thn (hi pins s σ H _ I h) fun v s1 h1=>thn h1 fun itv s2 h2=>?_)) (fun _ t hq=>wpAny_pure (wpAny_pure hq)) fun _ _ e=>e)
 obtain⟨it,fp,tn,J,H2,e,I2,T,st2,f2,W,w0,turn⟩:=h2
 subst e
 refine lc_block (RR:=fun acc C=>compPost (model X.prog X.w) X.A X.xe (some (assign (.Name x pos') X.env)) (fun _ t=>SP X pins DD .next t) acc C) (Qr:=fun ys H=>∀p,H p=none→DD.nx (σ.set i (some (.ref p))) (upd H p (.lst ys))) hc ok hgo (fun C=>hb C s2 H2 fp) I2 T st2 f2 W w0 turn ?_
 intro D C t ys H' hD hC nDC n1 n2 hn q inv
 obtain⟨m,hn⟩:=hn
 have I3:=inv t.heap (Heap.SameBut.refl ..)
 have neL:C≠X.env.locals:=Nat.ne_of_gt (Nat.lt_of_lt_of_le I2.lt hC)
 have neK:∀y c,X.env.cells.lookup y=some c→c≠C:=fun y c e=>by
  obtain⟨v,z⟩:=I2.cell y c e
  exact Nat.ne_of_lt (Nat.lt_of_lt_of_le z.lt hC)
 show wpAny (model X.prog X.w) X.A (assign (.Name x pos') X.env (.ref D)) _ X.xe t
 refine wpAny_assign_Name (store_ok2 (v:=.ref D) (s:={ t with heap:=t.heap }) I3 hN hx (.inl hl) rfl (fun t2 I4 hw=>?_) (.inr hl))
 obtain⟨a,sb,ha⟩:=hw
 have naC:C≠a:=by
  rcases ha with e|e
  ·rw [e]; exact neL
  ·exact fun z=>neK _ _ e z.symm
 refine⟨m,hn.sameBut sb naC,fun h' hs'=>?_⟩
 refine⟨_,_,I4.turned (it:=C) (t':=t2.toks) (fun b o hb e=>hs'.extBut b o hb e) ?_ neL (.inr (Nat.le_trans I2.sz hC)) (fun y c e=>neK y c e) (fun p hp z=>?_),q D n1⟩
 ·rw [Jh (Ne.symm nDC)]
  exact n2
 ·have e:=(I2.pin p hp).1
  exact absurd (Nat.lt_of_lt_of_le (Heap.lt_size e) (by rw[z];exact hC)) (Nat.lt_irrefl _)
end
end L2
namespace L2
open PySem
theorem nextOf_tup{prog:Program}{w:World}{A:Around}{E:Value→Shared→Prop}{s:Shared}{it t:Addr}{i:Nat}{its:Array Value}{x:Value}{Q:Value→Shared→Prop}(hi:s.heap.IsTupleIter it t i)
  (ht:s.heap.IsTuple t its) (hx:its[i]?=some x) (q:∀h',h'.IsTupleIter it t (i+1)→Heap.SameBut it s.heap h'→Q x { s with heap:=h' }) :
  wpAny (model prog w) A (Builtin.SmallTypes.nextOf (.ref it)) Q E s:=by
 obtain⟨o,h1,h2,h3⟩:=id hi
 obtain⟨o2,h4,_,n2,h5⟩:=ht
 unfold Builtin.SmallTypes.nextOf
 refine wpAny_bind (wpAny_callSpecial?_slot (name:=Str.ofString "__next__") hi.typeIs F.slot_tuple_iterator_next
  (wpAny_call_entry F.slot_tuple_iterator_next hi.typeIs F.entry_tuple_iterator_next ?_ (F.args_tuple_iterator_next_1 _)))
 show wpAny (model prog w) _ (field (.ref it) 0 >>= _) _ _ s
 refine wpAny_bind (wpAny_field h1 h3 (x:=.ref t) rfl ?_)
 show wpAny (model prog w) _ (if (Value.ref t==Value.none)=true then _ else _) _ _ s
 rw[if_neg (show ¬ (Value.ref t==Value.none)=true from Bool.false_ne_true)]
 show wpAny (model prog w) _ (field (.ref it) 1 >>= _) _ _ s
 refine wpAny_bind (wpAny_field h1 h3 (x:=.int i 0) rfl ?_)
 show wpAny (model prog w) _ (seqItems? (.ref t) >>= _) _ _ s
 refine wpAny_bind (wpAny_seqItems h4 h5 ?_)
 simp only[Int.toNat_natCast,hx]
 refine wpAny_bind (wpAny_setField h1 h3 (by simp) (wpAny_pure ⟨x,rfl,wpAny_pure (q _ ?_ (Heap.SameBut.update ..))⟩))
 exact ⟨_,Heap.get?_update_self _ h1 (Obj.isFreed_of_fields (Obj.data_mapFields h3 _)),(Obj.cls_mapFields ..).trans h2,by
  rw [Obj.data_mapFields h3]; simp [rawInt]⟩
theorem Qz{prog:Program}{w:World}{A:Around}{E:Value→Shared→Prop}{s:Shared}{it t:Addr}{i:Nat}{its:Array Value}{Q:Value→Shared→Prop}(hh:A.handled=none)(hi:s.heap.IsTupleIter it t i)
  (ht:s.heap.IsTuple t its) (hx:its[i]?=none) (q:∀h' e,Heap.ExtBut it s.heap h'→(∃o,h'.get? e=some o∧o.cls=.type "StopIteration")→E (.ref e) { s with heap:=h' }) :
  wpAny (model prog w) A (Builtin.SmallTypes.nextOf (.ref it)) Q E s:=by
 obtain⟨o,h1,h2,h3⟩:=id hi
 obtain⟨o2,h4,_,n2,h5⟩:=ht
 unfold Builtin.SmallTypes.nextOf
 refine wpAny_bind (wpAny_callSpecial?_slot (name:=Str.ofString "__next__") hi.typeIs F.slot_tuple_iterator_next
  (wpAny_call_entry F.slot_tuple_iterator_next hi.typeIs F.entry_tuple_iterator_next ?_ (F.args_tuple_iterator_next_1 _)))
 show wpAny (model prog w) _ (field (.ref it) 0 >>= _) _ _ s
 refine wpAny_bind (wpAny_field h1 h3 (x:=.ref t) rfl ?_)
 show wpAny (model prog w) _ (if (Value.ref t==Value.none)=true then _ else _) _ _ s
 rw[if_neg (show ¬ (Value.ref t==Value.none)=true from Bool.false_ne_true)]
 show wpAny (model prog w) _ (field (.ref it) 1 >>= _) _ _ s
 refine wpAny_bind (wpAny_field h1 h3 (x:=.int i 0) rfl ?_)
 show wpAny (model prog w) _ (seqItems? (.ref t) >>= _) _ _ s
 refine wpAny_bind (wpAny_seqItems h4 h5 ?_)
 simp only[Int.toNat_natCast,hx]
 refine wpAny_bind (wpAny_rule (wpAny_bind (wpAny_setField h1 h3 (by simp) ?_)))
 show wpAny (model prog w) _ (newExc (.type "StopIteration") [] >>= _) _ _ _
 refine wpAny_bind ?_
 simp only[newExc,newTuple]
 refine wpAny_bind (wpAny_newObj_type ?_ (by size_fits))
 refine wpAny_bind (m:=firstArgMember _ _) (wpAny_of_eq (a:=Value.none) (by first|rfl|(simp only[firstArgMember];rfl)) ?_)
 refine wpAny_newObj_type ?_ (by size_fits)
 simp only[raiseNew]
 refine wpAny_bind (wpAny_handled ?_)
 first|rw[show A.in1.handled=none from hh]|rw[hh]
 refine wpAny_bind (wpAny_pure (wpAny_throw ?_))
 exact q _ _ (((Heap.SameBut.update ..).extBut.push _).push _) ⟨_,Heap.get?_push_size _ rfl,rfl⟩
theorem Yd{prog:Program}{w:World}{A:Around}(hh:A.handled=none)(it l:Addr)(hne:l≠it)(its:Array Value) :
  Draws prog w A it [it,l] its.size (fun i v=>its[i]?=some v) (fun i h=>h.IsTupleIter it l i∧h.IsTuple l its) where
 live:=fun _ _ st=>let⟨o,ho,_⟩:=st.1;⟨o,ho⟩
 frame:=fun _ _ _ st hk=>⟨let⟨o,a,r⟩:=st.1;⟨o,hk it (by simp) o a,r⟩,let⟨o,a,r⟩:=st.2;⟨o,hk l (by simp) o a,r⟩⟩
 item:=fun i s Q E hi st hQ=>by
  refine nextOf_tup st.1 st.2 (x:=its[i]) (by simp[hi]) fun h' a b=>?_
  exact hQ _ h' s.toks (by simp[hi]) ⟨a,st.2.extBut b.extBut hne⟩ b
 done:=fun s Q E st hE=>Qz hh st.1 st.2 (by simp) hE
structure ZAp(z TI TO i1 i2:Addr)(f1 f2:List Addr):Prop where
 a1:TI≠z
 a2:TO≠z
 a3:i1≠z
 a4:i2≠z
 a5:TI≠TO
 a6:TI≠i1
 a7:TI≠i2
 a8:TO≠i1
 a9:TO≠i2
 b1:i1≠i2
 b2:z∉f1
 b3:z∉f2
 b4:TO∉f1
 b5:TO∉f2
 b6:i1∉f2
 b7:i2∉f1
section
variable{prog:Program}{w:World}{z TI TO i1 i2:Addr}{f1 f2:List Addr}{n1 n2:Nat}{P1 P2:Nat→Value→Prop}{S1 S2:Nat→Heap→Prop}
def ZSt(z TI TO i1 i2:Addr)(S1 S2:Nat→Heap→Prop)(i:Nat)(h:Heap):Prop:=IsZip h z TI TO .none∧IsPair h TI (.ref i1) (.ref i2)∧(∃a b,IsPair h TO a b)∧S1 i h∧S2 i h
theorem zip_item{A:Around}{E:Value→Shared→Prop}{s:Shared}{k:Nat}{Q:Value→Shared→Prop}(D:ZAp z TI TO i1 i2 f1 f2)(d1:Draws prog w A i1 f1 n1 P1 S1)(d2:Draws prog w A i2 f2 n2 P2 S2)(l1:k<n1)(l2:k<n2)
  (st:ZSt z TI TO i1 i2 S1 S2 k s.heap)
  (q:∀ x y h' tk,P1 k x→P2 k y→IsZip h' z TI TO (rawInt s.heap.objs.size)→IsPair h' TO x y→IsPair h' TI (.ref i1) (.ref i2)→S1 (k + 1) h'→S2 (k + 1) h'→IsPair h' s.heap.objs.size x y→h'.objs.size=s.heap.objs.size + 1 →
   (∀ c o,c≠z→c≠TO→c≠i1→c≠i2→s.heap.get? c=some o→h'.get? c=some o)→Q (.ref s.heap.objs.size) { s with heap:=h',toks:=tk }) :
  wpAny (model prog w) A (Builtin.«zip.__next__» ⟨[.ref z],[]⟩) (fun fin t=>∃v,fin=.done (.ret v)∧Q v t) E s:=by
 obtain⟨hz,hTI,⟨a,b,hTO⟩,s1,s2⟩:=st
 show wpAny (model prog w) _ (field (.ref z) 2 >>= _) _ _ _
 refine wpAny_bind (wpAny_field hz rfl (x:=.bool false) rfl ?_)
 show wpAny (model prog w) _ (field (.ref z) 3 >>= _) _ _ _
 refine wpAny_bind (wpAny_field hz rfl (x:=.ref TI) rfl ?_)
 refine wpAny_bind (wpAny_seqItems hTI rfl ?_)
 show wpAny (model prog w) _ (Builtin.SmallTypes.ownedTupleIsFree (.ref z) >>= _) _ _ _
 refine wpAny_bind ?_
 unfold Builtin.SmallTypes.ownedTupleIsFree
 refine wpAny_bind (wpAny_field hz rfl (x:=.none) rfl (wpAny_pure ?_))
 simp only[if_true]
 refine wpAny_bind (wpAny_rule ?_)
 refine wpAny_bind (wpAny_field hz rfl (x:=.ref TO) rfl ?_)
 refine wpAny_bind (wpAny_setField_rec hz (by simp) fun g1 z1 e1=>?_)
 replace z1:IsZip g1 z TI TO .ellipsis:=z1
 refine wpAny_bind ?_
 simp only[List.zipIdx_cons,List.zipIdx_nil,List.forIn_cons,List.forIn_nil]
 refine wpAny_bind (wpAny_bind (wpAny_onRaise ?_))
 show wpAny (model prog w) _ (Builtin.SmallTypes.nextOf (.ref i1) >>= _) _ _ _
 have s1a:S1 k g1:=d1.frame _ _ _ s1 fun c hc o e=>e1.extBut _ _ (fun x=>D.b2 (x▸hc)) e
 have s2a:S2 k g1:=d2.frame _ _ _ s2 fun c hc o e=>e1.extBut _ _ (fun x=>D.b3 (x▸hc)) e
 refine wpAny_bind (d1.item k _ _ _ l1 s1a fun x g2 tk2 p1 s1b e2=>wpAny_pure ?_)
 have t2:IsPair g2 TO a b:=e2.extBut _ _ D.a8 (e1.extBut _ _ D.a2 hTO)
 refine wpAny_bind (wpAny_seqItems t2 rfl ?_)
 refine wpAny_bind (wpAny_updateSeq_pair t2 fun g3 t3 e3=>?_)
 replace t3:IsPair g3 TO x b:=t3
 refine wpAny_bind (wpAny_letGo (wpAny_pure ?_))
 refine wpAny_bind (wpAny_bind (wpAny_onRaise ?_))
 show wpAny (model prog w) _ (Builtin.SmallTypes.nextOf (.ref i2) >>= _) _ _ _
 have s2b:S2 k g3:=d2.frame _ _ _ s2a fun c hc o e=>e3.extBut _ _ (fun x=>D.b5 (x▸hc)) (e2.extBut _ _ (fun x=>D.b6 (x▸hc)) e)
 have s1c:S1 (k+1) g3:=d1.frame _ _ _ s1b fun c hc o e=>e3.extBut _ _ (fun x=>D.b4 (x▸hc)) e
 refine wpAny_bind (d2.item k _ _ _ l2 s2b fun y g4 tk4 p2 s2c e4=>wpAny_pure ?_)
 have t4:IsPair g4 TO x b:=e4.extBut _ _ D.a9 t3
 refine wpAny_bind (wpAny_seqItems t4 rfl ?_)
 refine wpAny_bind (wpAny_updateSeq_pair t4 fun g5 t5 e5=>?_)
 replace t5:IsPair g5 TO x y:=t5
 refine wpAny_bind (wpAny_letGo (wpAny_pure (wpAny_pure ?_)))
 refine wpAny_bind (wpAny_seqItems t5 rfl ?_)
 refine wpAny_bind (wpAny_newTuple ?_)
 have sz:g5.objs.size=s.heap.objs.size:=by rw[e5.1,e4.1,e3.1,e2.1,e1.1]
 have z5:IsZip g5 z TI TO .ellipsis:=e5.extBut _ _ D.a2.symm (e4.extBut _ _ D.a4.symm (e3.extBut _ _ D.a2.symm (e2.extBut _ _ D.a3.symm z1)))
 have kp:∀c o,c≠z→c≠TO→c≠i1→c≠i2→s.heap.get? c=some o→g5.get? c=some o:=fun c o c1 c2 c3 c4 e =>
  e5.extBut _ _ c2 (e4.extBut _ _ c4 (e3.extBut _ _ c2 (e2.extBut _ _ c3 (e1.extBut _ _ c1 e))))
 have s1d:S1 (k+1) g5:=d1.frame _ _ _ s1c fun c hc o e=>e5.extBut _ _ (fun x=>D.b4 (x▸hc)) (e4.extBut _ _ (fun x=>D.b7 (x▸hc)) e)
 have s2d:S2 (k+1) g5:=d2.frame _ _ _ s2c fun c hc o e=>e5.extBut _ _ (fun x=>D.b5 (x▸hc)) e
 have zlt:z<g5.objs.size:=Heap.lt_size z5
 show wpAny (model prog w) _ (Builtin.SmallTypes.ownedTupleHandOut (.ref z) (.ref g5.objs.size) >>= _) _ _ _
 refine wpAny_bind ?_
 unfold Builtin.SmallTypes.ownedTupleHandOut
 have z6:IsZip (g5.push { cls:=.type "tuple",data:=.seq #[x,y] }) z TI TO .ellipsis:=Heap.get?_push_of_some _ z5
 refine wpAny_bind (wpAny_setField_rec z6 (by simp) fun g7 z7 e7=>?_)
 replace z7:IsZip g7 z TI TO (rawInt g5.objs.size):=z7
 refine wpAny_setField_rec z7 (by simp) fun g8 z8 e8=>?_
 replace z8:IsZip g8 z TI TO (rawInt g5.objs.size):=z8
 have up:∀c o,c≠z→g5.get? c=some o→g8.get? c=some o:=fun c o c1 e=>e8.extBut _ _ c1 (e7.extBut _ _ c1 (Heap.get?_push_of_some _ e))
 have t8:IsPair g8 g5.objs.size x y:=e8.extBut _ _ (Nat.ne_of_gt zlt) (e7.extBut _ _ (Nat.ne_of_gt zlt) (Heap.get?_push_size _ rfl))
 have sz8:g8.objs.size=g5.objs.size+1:=by rw[e8.1,e7.1,Heap.size_push]
 rw[sz]at z8 t8 sz8
 refine wpAny_pure ⟨_,rfl,?_⟩
 show Q (.ref g5.objs.size) _
 rw[sz]
 exact q x y g8 tk4 p1 p2 z8 (up _ _ D.a2 t5) (up _ _ D.a1 (kp _ _ D.a1 D.a5 D.a6 D.a7 hTI)) (d1.frame _ _ _ s1d fun c hc o e=>up c o (fun x=>D.b2 (x▸hc)) e) (d2.frame _ _ _ s2d fun c hc o e=>up c o (fun x=>D.b3 (x▸hc)) e) t8 sz8
  fun c o c1 c2 c3 c4 e=>up c o c1 (kp c o c1 c2 c3 c4 e)
theorem zip_stop{A:Around}{E:Value→Shared→Prop}{s:Shared}{k:Nat}{Q:Fin→Shared→Prop}(D:ZAp z TI TO i1 i2 f1 f2)(d1:Draws prog w A i1 f1 n1 P1 S1)(d2:Draws prog w A i2 f2 n2 P2 S2)(hk:k=n1∨(k<n1∧k=n2))
  (st:ZSt z TI TO i1 i2 S1 S2 k s.heap)
  (q:∀h' e tk,(∀c o,c≠z→c≠TO→c≠i1→c≠i2→s.heap.get? c=some o→h'.get? c=some o)→(∃o,h'.get? e=some o∧o.cls=.type "StopIteration")→E (.ref e) { s with heap:=h',toks:=tk }) :
  wpAny (model prog w) A (Builtin.«zip.__next__» ⟨[.ref z],[]⟩) Q E s:=by
 obtain⟨hz,hTI,⟨a,b,hTO⟩,s1,s2⟩:=st
 show wpAny (model prog w) _ (field (.ref z) 2 >>= _) _ _ _
 refine wpAny_bind (wpAny_field hz rfl (x:=.bool false) rfl ?_)
 show wpAny (model prog w) _ (field (.ref z) 3 >>= _) _ _ _
 refine wpAny_bind (wpAny_field hz rfl (x:=.ref TI) rfl ?_)
 refine wpAny_bind (wpAny_seqItems hTI rfl ?_)
 show wpAny (model prog w) _ (Builtin.SmallTypes.ownedTupleIsFree (.ref z) >>= _) _ _ _
 refine wpAny_bind ?_
 unfold Builtin.SmallTypes.ownedTupleIsFree
 refine wpAny_bind (wpAny_field hz rfl (x:=.none) rfl (wpAny_pure ?_))
 simp only[if_true]
 refine wpAny_bind (wpAny_rule ?_)
 refine wpAny_bind (wpAny_field hz rfl (x:=.ref TO) rfl ?_)
 refine wpAny_bind (wpAny_setField_rec hz (by simp) fun g1 z1 e1=>?_)
 replace z1:IsZip g1 z TI TO .ellipsis:=z1
 refine wpAny_bind ?_
 simp only[List.zipIdx_cons,List.zipIdx_nil,List.forIn_cons,List.forIn_nil]
 refine wpAny_bind (wpAny_bind (wpAny_onRaise ?_))
 show wpAny (model prog w) _ (Builtin.SmallTypes.nextOf (.ref i1) >>= _) _ _ _
 have s1a:S1 k g1:=d1.frame _ _ _ s1 fun c hc o e=>e1.extBut _ _ (fun x=>D.b2 (x▸hc)) e
 have s2a:S2 k g1:=d2.frame _ _ _ s2 fun c hc o e=>e1.extBut _ _ (fun x=>D.b3 (x▸hc)) e
 rcases hk with rfl|⟨l1,rfl⟩
 ·refine wpAny_bind (d1.done _ _ _ s1a fun g2 x e2 hx=>?_)
  obtain⟨ox,hox,hcx⟩:=hx
  have z2:IsZip g2 z TI TO .ellipsis:=e2 _ _ D.a3.symm z1
  have nz:x≠z:=fun r=>by subst r;rw[z2]at hox;cases hox;simp at hcx
  exact wpAny_setField_rec z2 (by simp) fun g3 _ e3=>q g3 x _ (fun c o c1 _ c3 _ y=>e3.extBut _ _ c1 (e2 _ _ c3 (e1.extBut _ _ c1 y))) ⟨ox,e3.extBut _ _ nz hox,hcx⟩
 ·refine wpAny_bind (d1.item _ _ _ _ l1 s1a fun x g2 tk2 p1 s1b e2=>wpAny_pure ?_)
  have t2:IsPair g2 TO a b:=e2.extBut _ _ D.a8 (e1.extBut _ _ D.a2 hTO)
  refine wpAny_bind (wpAny_seqItems t2 rfl ?_)
  refine wpAny_bind (wpAny_updateSeq_pair t2 fun g3 t3 e3=>?_)
  refine wpAny_bind (wpAny_letGo (wpAny_pure ?_))
  refine wpAny_bind (wpAny_bind (wpAny_onRaise ?_))
  show wpAny (model prog w) _ (Builtin.SmallTypes.nextOf (.ref i2) >>= _) _ _ _
  have s2b:S2 k g3:=d2.frame _ _ _ s2a fun c hc o e=>e3.extBut _ _ (fun x=>D.b5 (x▸hc)) (e2.extBut _ _ (fun x=>D.b6 (x▸hc)) e)
  refine wpAny_bind (d2.done _ _ _ s2b fun g4 y e4 hy=>?_)
  obtain⟨oy,hoy,hcy⟩:=hy
  have z4:IsZip g4 z TI TO .ellipsis:=e4 _ _ D.a4.symm (e3.extBut _ _ D.a2.symm (e2.extBut _ _ D.a3.symm z1))
  have nz:y≠z:=fun r=>by subst r;rw[z4]at hoy;cases hoy;simp at hcy
  exact wpAny_setField_rec z4 (by simp) fun g5 _ e5=>q g5 y _ (fun c o c1 c2 c3 c4 r=>e5.extBut _ _ c1 (e4 _ _ c4 (e3.extBut _ _ c2 (e2.extBut _ _ c3 (e1.extBut _ _ c1 r))))) ⟨oy,e5.extBut _ _ nz hoy,hcy⟩
theorem zip_pyNext{A:Around}{E:Value→Shared→Prop}{s:Shared}{k:Nat}{Q:Option Value→Shared→Prop}(D:ZAp z TI TO i1 i2 f1 f2)(d1:Draws prog w A.in1 i1 f1 n1 P1 S1)(d2:Draws prog w A.in1 i2 f2 n2 P2 S2)(l1:k<n1)(l2:k<n2)
  (st:ZSt z TI TO i1 i2 S1 S2 k s.heap)
  (q:∀ x y h' tk,P1 k x→P2 k y→IsZip h' z TI TO (rawInt s.heap.objs.size)→IsPair h' TO x y→IsPair h' TI (.ref i1) (.ref i2)→S1 (k + 1) h'→S2 (k + 1) h'→IsPair h' s.heap.objs.size x y→h'.objs.size=s.heap.objs.size + 1 →
   (∀ c o,c≠z→c≠TO→c≠i1→c≠i2→s.heap.get? c=some o→h'.get? c=some o)→Q (some (.ref s.heap.objs.size)) { s with heap:=h',toks:=tk }) :
  wpAny (model prog w) A (pyNext (.ref z)) Q E s:=by
 have hT:s.TypeIs (.ref z) "zip":=⟨_,st.1,rfl⟩
 unfold pyNext
 exact wpAny_bind (wpAny_attempt (wpAny_callSpecial?_slot (name:=Str.ofString "__next__") hT F.slot_zip_next
  (wpAny_call_entry F.slot_zip_next hT F.entry_zip_next
   (zip_item D d1 d2 l1 l2 st fun x y h' tk c1 c2 c3 c4 c5 c6 c7 c8 c9 c10=>wpAny_pure (q x y h' tk c1 c2 c3 c4 c5 c6 c7 c8 c9 c10)) (F.args_zip_next_1 _))))
theorem Qe{A:Around}{E:Value→Shared→Prop}{s:Shared}{k:Nat}{Q:Option Value→Shared→Prop}(D:ZAp z TI TO i1 i2 f1 f2)(d1:Draws prog w A.in1 i1 f1 n1 P1 S1)(d2:Draws prog w A.in1 i2 f2 n2 P2 S2)
  (hk:k=n1∨(k<n1∧k=n2)) (st:ZSt z TI TO i1 i2 S1 S2 k s.heap)
  (q:∀h' tk,(∀c o,c≠z→c≠TO→c≠i1→c≠i2→s.heap.get? c=some o→h'.get? c=some o)→Q none { s with heap:=h',toks:=tk }):wpAny (model prog w) A (pyNext (.ref z)) Q E s:=by
 have hT:s.TypeIs (.ref z) "zip":=⟨_,st.1,rfl⟩
 unfold pyNext
 refine wpAny_bind (wpAny_attempt (wpAny_callSpecial?_slot (name:=Str.ofString "__next__") hT F.slot_zip_next
  (wpAny_call_entry F.slot_zip_next hT F.entry_zip_next (zip_stop D d1 d2 hk st fun h' e tk kp he=>?_) (F.args_zip_next_1 _))))
 obtain⟨o,ho,hc⟩:=he
 refine wpAny_bind (wpAny_isInstance (T:="StopIteration") (b:=true) ⟨o,ho,hc⟩ isSubtype_stop ?_)
 exact wpAny_pure (q _ _ kp)
end
abbrev zpa(h:Heap)(l1:Addr):Heap:=h.push { cls:=.type "tuple_iterator",data:=.fields #[.ref l1,.int 0 0] }
abbrev zpb(h:Heap)(l1 l2:Addr):Heap:=(zpa h l1).push { cls:=.type "tuple_iterator",data:=.fields #[.ref l2,.int 0 0] }
abbrev zpc(h:Heap)(l1 l2:Addr):Heap:=(zpb h l1 l2).push { cls:=.type "tuple",data:=.seq #[.ref h.objs.size,.ref (zpa h l1).objs.size] }
abbrev zpd(h:Heap)(l1 l2:Addr):Heap:=(zpc h l1 l2).push { cls:=.type "tuple",data:=.seq #[.none,.none] }
abbrev zpe(h:Heap)(l1 l2:Addr):Heap:=(zpd h l1 l2).push { cls:=.type "zip",data:=.fields #[.none,.bool false,.bool false,.ref (zpb h l1 l2).objs.size,.ref (zpc h l1 l2).objs.size] }
theorem zip_new_tups(l1 l2:Addr)(xs ys:Array Value) :
  Meets (Builtin.«zip.__new__» ⟨[.type "zip",.ref l1,.ref l2],[]⟩) (fun _ R s=>s.heap.IsTuple l1 xs∧s.heap.IsTuple l2 ys ∧
   R (.ok (.ret (.ref (zpd s.heap l1 l2).objs.size))) { s with heap:=zpe s.heap l1 l2 }) :=
 .of_wp fun prog w A R s h=>by
  obtain⟨hp,g,d,tk,os⟩:=s;obtain⟨t1,t2,h⟩:=h
  have f0:=sub_zip
  have T1:Heap.IsTuple (Shared.heap ⟨hp,g,d,tk,os⟩) l1 xs:=t1
  have T2:Heap.IsTuple (Shared.heap ⟨hp.push { cls:=.type "tuple_iterator",data:=.fields #[.ref l1,.int 0 0] },g,d,tk,os⟩) l2 ys:=Heap.IsTuple.push t2 _
  wp_walk using wpAny_pyIter_tuple T1,wpAny_pyIter_tuple T2
  exact⟨_,rfl,h⟩
theorem WK{prog:Program}{w:World}{A:Around}{E:Value→Shared→Prop}{s:Shared}{l1 l2:Addr}{xs ys:Array Value}{Q:Value→Shared→Prop}(h1:s.heap.IsTuple l1 xs)(h2:s.heap.IsTuple l2 ys)
  (q:∀ h',IsZip h' (s.heap.objs.size + 4) (s.heap.objs.size + 2) (s.heap.objs.size + 3) .none→IsPair h' (s.heap.objs.size + 2) (.ref s.heap.objs.size) (.ref (s.heap.objs.size + 1)) →
   IsPair h' (s.heap.objs.size+3) .none .none→h'.IsTupleIter s.heap.objs.size l1 0→h'.IsTupleIter (s.heap.objs.size+1) l2 0 →
   (∀ c o,s.heap.get? c=some o→h'.get? c=some o)→Q (.ref (s.heap.objs.size + 4)) { s with heap:=h' }) :
  wpAny (model prog w) A (call (.type "zip") [.ref l1,.ref l2]) Q E s:=by
 refine callType_new F.called_zip (by decide) (F.typeCall_zip_2 _ _) (F.newCall_zip_2 _ _) (fun obj=>F.args_object_init_3 obj _ _) F.entry_zip_new
  (zip_new_tups l1 l2 xs ys) ⟨h1,h2,?_⟩
 have z1:(zpa s.heap l1).objs.size=s.heap.objs.size+1:=Heap.size_push ..
 have z2:(zpb s.heap l1 l2).objs.size=s.heap.objs.size+2:=by rw[Heap.size_push,z1]
 have z3:(zpc s.heap l1 l2).objs.size=s.heap.objs.size+3:=by rw[Heap.size_push,z2]
 have z4:(zpd s.heap l1 l2).objs.size=s.heap.objs.size+4:=by rw[Heap.size_push,z3]
 have k5:(zpe s.heap l1 l2).get? (zpd s.heap l1 l2).objs.size=some _:=Heap.get?_push_size _ rfl
 have k4:(zpe s.heap l1 l2).get? (zpc s.heap l1 l2).objs.size=some _:=Heap.get?_push_of_some _ (Heap.get?_push_size _ rfl)
 have k3:(zpe s.heap l1 l2).get? (zpb s.heap l1 l2).objs.size=some _:=Heap.get?_push_of_some _ (Heap.get?_push_of_some _ (Heap.get?_push_size _ rfl))
 have k2:(zpe s.heap l1 l2).get? (zpa s.heap l1).objs.size=some _:=Heap.get?_push_of_some _ (Heap.get?_push_of_some _ (Heap.get?_push_of_some _ (Heap.get?_push_size _ rfl)))
 have k1:(zpe s.heap l1 l2).get? s.heap.objs.size=some _:=Heap.get?_push_of_some _ (Heap.get?_push_of_some _ (Heap.get?_push_of_some _ (Heap.get?_push_of_some _ (Heap.get?_push_size _ rfl))))
 show _∧_
 rw[z2,z3,z4]at k5
 rw[z1,z2]at k3
 rw[z3]at k4
 rw[z1]at k2
 rw[z4]
 exact ⟨⟨_,k5,rfl⟩,q _ k5 k3 k4 ⟨_,k1,rfl,rfl⟩ ⟨_,k2,rfl,rfl⟩ fun c o x =>
  Heap.get?_push_of_some _ (Heap.get?_push_of_some _ (Heap.get?_push_of_some _ (Heap.get?_push_of_some _ (Heap.get?_push_of_some _ x))))⟩
end L2
namespace L2
open PySem PySem.Spec PyProof.Rows
theorem boot_zip:bootBuiltins "zip"=some (.type "zip"):=by decide +kernel
theorem nne(n a b:Nat)(h:a≠b):n+a≠n+b:=by omega
theorem nne0(n b:Nat)(h:0<b):n≠n+b:=by omega
theorem vals2'{x y:V}{us:List Value}(r:Vals [x,y] us):∃u v,us=[u,v]∧RelV x u∧RelV y v:=by
 cases r with
 | cons p q =>
  cases q with
  | cons p' q' =>
   cases q'
   exact⟨_,_,rfl,p,p'⟩
section
variable{X:Cx}{pins:List (Addr×Obj)}{σ:St}{H:Hp}{s:Shared}{h':Heap}
theorem Inv.turnedL{t':Nat}{l:List Addr}(I:Inv X pins σ H s)(k:∀b o,b∉l→s.heap.get? b=some o→h'.get? b=some o)(hf:∀b∈l,FpOk X pins H b):Inv X pins σ H { s with heap:=h',toks:=t' }:=by
 have nl:∀b u,H b=some u→b∉l:=fun b u e z=>by rw[(hf b z).1]at e;cases e
 refine I.step (g':=s.gens) (d':=s.drawn) (ch:=l) (fun b hb=>⟨(hf b hb).2.2.2.1,(hf b hb).2.1,(hf b hb).2.2.2.2.1,(hf b hb).2.2.2.2.2⟩) (fun b o _ _ hc e _=>k b o hc e) (fun b o _ _ hc e _=>⟨o.slots,k b o hc e⟩) (fun _ _ _ _ n=>n)
  (fun b o hc e=>⟨o,k b o hc e⟩) (fun _ _ e=>e) (fun _ _ _ e=>e) (fun b ps e=>⟨#[],by rw[e];simp⟩) (fun m hm=>?_) (fun b u e=>?_) I.bare
 ·obtain ⟨o,es,ep,ho,r⟩:=hm
  exact⟨o,es,ep,k _ o (fun z=>(hf _ z).2.1 rfl) ho,r⟩
 ·refine (I.hok b u e).stay (fun c v hc q=>k c v ?_ q) (fun _ q=>q) fun _ _ q=>q
  rcases hc with z|z
  ·rw [z]; exact nl b u e
  ·exact nl c _ z
theorem Inv.adopt{p:Addr}{o:HO}(I:Inv X pins σ H s)(hf:FpOk X pins H p)(new:ObjOk X.prog X.w (upd H p o) s.heap p o):Inv X pins σ (upd H p o) s:=by
 have e0:({ s with heap:=s.heap,gens:=s.gens,drawn:=s.drawn,toks:=s.toks }:Shared)=s:=rfl
 rw[← e0]
 refine I.step (H':=upd H p o) (h':=s.heap) (g':=s.gens) (d':=s.drawn) (t':=s.toks) (ch:=[p]) (fun b hb=>?_) (fun b u _ _ _ e _=>e) (fun b u _ _ _ e _=>⟨u.slots,e⟩) (fun b u hc e n=>?_) (fun b u _ e=>⟨u,e⟩)
  (fun b xs e=>?_) (fun b u v e=>?_) (fun b ps e=>⟨#[],?_⟩) (fun m hm=>hm) (fun b u e=>?_) I.bare
 ·rw [List.mem_singleton] at hb
  subst hb
  exact⟨hf.2.2.2.1,hf.2.1,hf.2.2.2.2.1,hf.2.2.2.2.2⟩
 ·rw [Jh fun z=>hc (by rw [z]; exact List.mem_singleton_self _)]
  exact n
 ·rw [Jh (Jg e hf.1)]; exact e
 ·rw [Jh (Jg e hf.1)]; exact e
 ·rw [Jh (Jg e hf.1),e]; simp
 ·by_cases hb:b=p
  ·subst hb
   rw[Jb]at e
   cases e
   exact new
  ·rw [Jh hb] at e
   exact(I.hok b u e).stay (fun c v hc q=>q) (fun c q=>by rw[Jh (Jg q hf.1)];exact q) fun c xs q=>by rw[Jh (Jg q hf.1)];exact q
end
def Itz (a b:Addr):It:=⟨fun i H=>∃ xs ys,H a=some (.tup xs)∧H b=some (.tup ys)∧i < xs.length∧i < ys.length,
 fun i H x H'=>∃p v w,x=.ref p∧H p=none∧H'=upd H p (.tup [v,w])∧∀xs ys,H a=some (.tup xs)→H b=some (.tup ys)→xs[i]?=some v∧ys[i]?=some w,
 fun i H=>∃ xs ys,H a=some (.tup xs)∧H b=some (.tup ys)∧(i=xs.length∨(i < xs.length∧i=ys.length))⟩
theorem turn_zip{P:Program}{w:World}{K:PySem.W.Frag}{es:List Expr}{kt:Nat}{tp:Pos}(a b z TI TO i1 i2:Addr)(d1:TI≠z)(d2:TO≠z)(d3:i1≠z)(d4:i2≠z)(d5:TI≠TO)(d6:TI≠i1)(d7:TI≠i2)(d8:TO≠i1)(d9:TO≠i2)(d0:i1≠i2) :
  Turn P w K (.Tuple es kt tp) (Itz a b) [z,TI,TO,i1,i2] z (fun i h=>IsZip h z TI TO .none∧IsPair h TI (.ref i1) (.ref i2)∧(∃x y,IsPair h TO x y)∧h.IsTupleIter i1 a i∧h.IsTupleIter i2 b i) where
 mem:=by simp
 obj:=fun i h st c hc=>by
  obtain⟨s1,s2,⟨x,y,s3⟩,⟨o4,s4,_,q4⟩,⟨o5,s5,_,q5⟩⟩:=st
  simp only[List.mem_cons,List.not_mem_nil,or_false]at hc
  rcases hc with rfl|rfl|rfl|rfl|rfl
  ·exact ⟨_,s1,fun v=>by intro q; cases q⟩
  ·exact ⟨_,s2,fun v=>by intro q; cases q⟩
  ·exact ⟨_,s3,fun v=>by intro q; cases q⟩
  ·exact ⟨_,s4,fun v=>by intro q; rw [q4] at q; cases q⟩
  ·exact ⟨_,s5,fun v=>by intro q; rw [q5] at q; cases q⟩
 keep:=fun i h h' st kp=>by
  obtain⟨s1,s2,⟨x,y,s3⟩,⟨o4,s4,r4⟩,⟨o5,s5,r5⟩⟩:=st
  exact⟨kp z (by simp) _ s1,kp TI (by simp) _ s2,⟨x,y,kp TO (by simp) _ s3⟩,⟨o4,kp i1 (by simp) _ s4,r4⟩,⟨o5,kp i2 (by simp) _ s5,r5⟩⟩
 item:=by
  intro X hP hw hK hc i pins s σ H E I hf st hg
  subst hP hw hK
  obtain⟨xs,ys,ha,hb,l1,l2⟩:=hg
  obtain⟨s1,s2,s3,s4,s5⟩:=st
  have nf:∀{c:Addr}{o:HO},H c=some o→∀e∈[z,TI,TO,i1,i2],c≠e:=fun hcc e he q=>by rw[q,(hf e he).1]at hcc;cases hcc
  obtain⟨its,r1,t1,_⟩:=I.tuple (SqT.of ha)
  obtain⟨its2,r2,t2,_⟩:=I.tuple (SqT.of hb)
  have D:ZAp z TI TO i1 i2 [i1,a] [i2,b]:=by
   refine⟨d1,d2,d3,d4,d5,d6,d7,d8,d9,d0,?_,?_,?_,?_,?_,?_⟩<;>simp only[List.mem_cons,List.not_mem_nil,or_false,not_or]
   ·exact ⟨d3.symm,(nf ha z (by simp)).symm⟩
   ·exact ⟨d4.symm,(nf hb z (by simp)).symm⟩
   ·exact ⟨d8,(nf ha TO (by simp)).symm⟩
   ·exact ⟨d9,(nf hb TO (by simp)).symm⟩
   ·exact ⟨d0,(nf hb i1 (by simp)).symm⟩
   ·exact ⟨d0.symm,(nf ha i2 (by simp)).symm⟩
  have hh:X.A.in1.handled=none:=I.ok.hd hc
  have e1:its.toArray.size=xs.length:=by rw[List.size_toArray,← r1.length]
  have e2:its2.toArray.size=ys.length:=by rw[List.size_toArray,← r2.length]
  refine zip_pyNext D (Yd hh i1 a (nf ha i1 (by simp)) its.toArray) (Yd hh i2 b (nf hb i2 (by simp)) its2.toArray) (by omega) (by omega) ⟨s1,s2,s3,⟨s4,t1⟩,⟨s5,t2⟩⟩ fun x y g tk p1 p2 z1 z2 z3 z4 z5 z6 z7 kp=>⟨_,rfl,?_⟩
  have p1:its[i]?=some x:=by simpa using p1
  have p2:its2[i]?=some y:=by simpa using p2
  obtain⟨vx,hx⟩:∃v,xs[i]?=some v:=⟨xs[i],by simp[l1]⟩
  obtain⟨vy,hy⟩:∃v,ys[i]?=some v:=⟨ys[i],by simp[l2]⟩
  obtain⟨x',q1,rx⟩:=r1.get hx
  rw[p1]at q1;cases q1
  obtain⟨y',q2,ry⟩:=r2.get hy
  rw[p2]at q2;cases q2
  refine wpAny_letOwnedTupleGo_zip z1 fun g2 zz hs=>?_
  have fr:H s.heap.objs.size=none:=I.hok.fresh (Nat.le_refl _)
  have I1:Inv X pins σ H { s with heap:=g2,toks:=tk }:=I.turnedL (l:=[z,TO,i1,i2]) (t':=tk) (fun c o hc e=>by
   simp only[List.mem_cons,List.not_mem_nil,or_false,not_or]at hc
   exact hs.extBut _ _ hc.1 (kp c o hc.1 hc.2.1 hc.2.2.1 hc.2.2.2 e)) fun c hc=>hf c (by
    simp only[List.mem_cons,List.not_mem_nil,or_false]at hc ⊢
    rcases hc with h | h | h | h <;> simp [h])
  have fp:=I.fpOk (H':=H) (Nat.le_refl _) fr
  have nz:∀e∈[z,TI,TO,i1,i2],e≠s.heap.objs.size:=fun e he q=>by
   obtain⟨o,ho⟩:∃o,s.heap.get? e=some o:=by
    obtain⟨x3,y3,s3⟩:=s3
    obtain⟨o4,s4,_⟩:=s4
    obtain⟨o5,s5,_⟩:=s5
    simp only[List.mem_cons,List.not_mem_nil,or_false]at he
    rcases he with rfl|rfl|rfl|rfl|rfl
    ·exact ⟨_,s1⟩
    ·exact ⟨_,s2⟩
    ·exact ⟨_,s3⟩
    ·exact ⟨_,s4⟩
    ·exact ⟨_,s5⟩
   exact absurd (Heap.lt_size ho) (by rw[q];exact Nat.lt_irrefl _)
  have at2:g2.get? s.heap.objs.size=some { cls:=.type "tuple",data:=.seq #[x,y] }:=hs.extBut _ _ (nz z (by simp)).symm z6
  refine ⟨.ref s.heap.objs.size,upd H s.heap.objs.size (.tup [vx,vy]),I1.adopt fp ⟨?_,[x,y],.cons rx (.cons ry .nil),⟨_,at2,rfl,_,rfl⟩⟩,rfl,⟨_,vx,vy,rfl,fr,rfl,fun xs' ys' q1 q2=>?_⟩,
   ⟨zz,hs.extBut _ _ d1 z3,⟨_,_,hs.extBut _ _ d2 z2⟩,z4.1.extBut hs.extBut d3,z5.1.extBut hs.extBut d4⟩,fun c hc=>?_⟩
  ·show 2≤sizeLine
   decide
  ·rw [ha] at q1; cases q1
   rw[hb]at q2;cases q2
   exact⟨hx,hy⟩
  ·rw [Jh (nz c hc)]
   exact(hf c hc).1
 done:=by
  intro X hP hw hK hc i pins s σ H E I hf st hg
  subst hP hw hK
  obtain⟨xs,ys,ha,hb,hl⟩:=hg
  obtain⟨s1,s2,s3,s4,s5⟩:=st
  have nf:∀{c:Addr}{o:HO},H c=some o→∀e∈[z,TI,TO,i1,i2],c≠e:=fun hcc e he q=>by rw[q,(hf e he).1]at hcc;cases hcc
  obtain⟨its,r1,t1,_⟩:=I.tuple (SqT.of ha)
  obtain⟨its2,r2,t2,_⟩:=I.tuple (SqT.of hb)
  have D:ZAp z TI TO i1 i2 [i1,a] [i2,b]:=by
   refine⟨d1,d2,d3,d4,d5,d6,d7,d8,d9,d0,?_,?_,?_,?_,?_,?_⟩<;>simp only[List.mem_cons,List.not_mem_nil,or_false,not_or]
   ·exact ⟨d3.symm,(nf ha z (by simp)).symm⟩
   ·exact ⟨d4.symm,(nf hb z (by simp)).symm⟩
   ·exact ⟨d8,(nf ha TO (by simp)).symm⟩
   ·exact ⟨d9,(nf hb TO (by simp)).symm⟩
   ·exact ⟨d0,(nf hb i1 (by simp)).symm⟩
   ·exact ⟨d0.symm,(nf ha i2 (by simp)).symm⟩
  have hh:X.A.in1.handled=none:=I.ok.hd hc
  have e1:its.toArray.size=xs.length:=by rw[List.size_toArray,← r1.length]
  have e2:its2.toArray.size=ys.length:=by rw[List.size_toArray,← r2.length]
  refine Qe D (Yd hh i1 a (nf ha i1 (by simp)) its.toArray) (Yd hh i2 b (nf hb i2 (by simp)) its2.toArray) (by rcases hl with h|⟨h,h2⟩<;>omega) ⟨s1,s2,s3,⟨s4,t1⟩,⟨s5,t2⟩⟩ fun g tk kp=>⟨rfl,?_⟩
  exact I.turnedL (l:=[z,TO,i1,i2]) (t':=tk) (fun c o hc e=>by
   simp only[List.mem_cons,List.not_mem_nil,or_false,not_or]at hc
   exact kp c o hc.1 hc.2.1 hc.2.2.1 hc.2.2.2 e) fun c hc=>hf c (by
    simp only[List.mem_cons,List.not_mem_nil,or_false]at hc ⊢
    rcases hc with h | h | h | h <;> simp [h])
 self:=fun _ _ _ _ _ st h=>wpAny_pyIter_zip st.1 h
section
variable{X:Cx}{es:List Expr}{kt:Nat}{tp:Pos}
def iZip(ta:TA):TI:=fun σ H R=>ta σ H fun vs H1=>∃a b xs ys,vs=[.ref a,.ref b]∧H1 a=some (.tup xs)∧H1 b=some (.tup ys)∧R (Itz a b) H1
theorem pi_zip{a b:Expr}{ta:TA}{p pos:Pos}(hg:Gl X "zip")(hm:X.mg "zip"=none)(ha:PA X [a,b] ta)(hs:starEach [a,b] X.env=[(false,eval a X.env),(false,eval b X.env)]:=by rfl)(hs2:starEach [b] X.env=[(false,eval b X.env)]:=by rfl) :
  PI X (.Tuple es kt tp) (.Call (.Name "zip" p) [a,b] [] pos) (iZip ta):=by
 intro pins s σ H R I h
 refine Call_ (ZB I hg hm boot_zip (PyProof.Rows.callWith_type1 (thn (ha pos pins s σ H _ I h) fun us s1 h1=>?_) (by rw[hs,hs2]) (by rw[hs2];rfl)))
 obtain⟨vs,H1,I1,r1,a,b,xs,ys,e,ha,hb,q⟩:=h1
 subst e
 obtain⟨u,v,rfl,ru,rv⟩:=vals2' r1
 cases ru
 cases rv
 obtain⟨its,_,t1,_⟩:=I1.tuple (SqT.of ha)
 obtain⟨its2,_,t2,_⟩:=I1.tuple (SqT.of hb)
 refine WK t1 t2 fun h' z1 z2 z3 z4 z5 kp=>wpAny_pyIter_zip z1 ?_
 have I2:Inv X pins σ H1 { s1 with heap:=h' }:=I1.kept (t':=s1.toks) kp
 have fr:∀k:Nat,H1 (s1.heap.objs.size+k)=none:=fun k=>I1.hok.fresh (Nat.le_add_right _ _)
 refine ⟨s1.heap.objs.size + 4,_,_,Itz a b,H1,rfl,I2,turn_zip a b (s1.heap.objs.size + 4) (s1.heap.objs.size + 2) (s1.heap.objs.size + 3) s1.heap.objs.size (s1.heap.objs.size + 1)
  (nne _ 2 4 (by decide)) (nne _ 3 4 (by decide)) (nne0 _ 4 (by decide)) (nne _ 1 4 (by decide)) (nne _ 2 3 (by decide)) (nne0 _ 2 (by decide)).symm (nne _ 2 1 (by decide)) (nne0 _ 3 (by decide)).symm (nne _ 3 1 (by decide)) (nne0 _ 1 (by decide)),⟨z1,z2,⟨_,_,z3⟩,z4,z5⟩,fun c hc=>?_,q⟩
 simp only[List.mem_cons,List.not_mem_nil,or_false]at hc
 rcases hc with rfl|rfl|rfl|rfl|rfl
 ·exact I1.fpOk (Nat.le_add_right _ _) (fr 4)
 ·exact I1.fpOk (Nat.le_add_right _ _) (fr 2)
 ·exact I1.fpOk (Nat.le_add_right _ _) (fr 3)
 ·exact I1.fpOk (Nat.le_refl _) (fr 0)
 ·exact I1.fpOk (Nat.le_add_right _ _) (fr 1)
end
end L2
namespace L2
open PySem PySem.Spec PyProof.Rows
theorem Same.upd{H:Hp}{p:Addr}{o:HO}(h:H p=none):Same H (upd H p o):=fun b u e=>by
 rw[Jh (Jg e h)]
 exact e
def SameBut(p:Addr)(H H':Hp):Prop:=∀b o,b≠p→H b=some o→H' b=some o
theorem Same.but{p:Addr}{H H':Hp}(h:Same H H'):SameBut p H H':=fun b o _ e=>h b o e
theorem SameBut.refl(p:Addr)(H:Hp):SameBut p H H:=fun _ _ _ e=>e
theorem SameBut.trans{p:Addr}{H H1 H2:Hp}(a:SameBut p H H1)(b:SameBut p H1 H2):SameBut p H H2:=fun c o n e=>b c o n (a c o n e)
theorem SameBut.upd{p:Addr}{H:Hp}{o:HO}:SameBut p H (upd H p o):=fun b u n e=>by rw[Jh n];exact e
section
variable{X:Cx}
theorem Yk(hc:X.calm=true):Yo X (.builtin "all") (fun xs H Q=>∃(p:Addr)(bs:List Bool),xs=[.ref p]∧SqL X.K H p (bs.map V.bl)∧Q (.bl (bs.all id)) H):=by
 intro pins s σ H xs us Q I r h
 obtain⟨p,bs,rfl,hq,q⟩:=h
 obtain⟨u,rfl,ru⟩:=Yu r
 cases ru
 obtain⟨its,rv,pl,hz⟩:=I.list hq
 have hlen:its.toArray.size=bs.length:=by rw[List.size_toArray,← rv.length,List.length_map]
 have hne:p≠s.heap.objs.size:=by
  obtain⟨o,n,e,_⟩:=pl
  exact Nat.ne_of_lt (Heap.lt_size e)
 refine call_all_walk (wpAny_pyIter_list pl.isList ?_)
 refine⟨s.heap.objs.size,_,_,its.toArray.size,_,_,fun i=>bs.getD i false,rfl,Walks.list (A:=X.A.in1) (I.ok.hd hc) s.heap.objs.size p hne its.toArray,⟨⟨_,Heap.get?_push_size _ rfl,rfl,rfl⟩,pl.isList.push _⟩,fun i v t Q' E' hv hQ'=>?_,fun h' tk kp=>?_⟩
 ·have hv:its[i]?=some v:=by simpa using hv
  have hi:i<bs.length:=by
   have:=(List.getElem?_eq_some_iff.mp hv).1
   rw[← rv.length,List.length_map]at this
   exact this
  obtain⟨u,e1,e2⟩:=rv.get (i:=i) (x:=V.bl bs[i]) (by simp[hi])
  rw[hv]at e1
  cases e1
  have e2:v=Value.bool bs[i]:=e2
  subst e2
  have e3:bs.getD i false=bs[i]:=by simp[hi]
  rw[← e3]
  exact wpAny_truthy_bool hQ'
 ·have e:(List.range its.toArray.size).all (fun i=>bs.getD i false)=bs.all id:=by
   rw[hlen,Bool.eq_iff_iff,List.all_eq_true,List.all_eq_true]
   constructor
   ·intro h b hb
    obtain⟨i,hi,rfl⟩:=List.mem_iff_getElem.mp hb
    have:=h i (by simpa using hi)
    simpa [hi]using this
   ·intro h i hi
    have hi:i<bs.length:=by simpa using hi
    have:=h bs[i] (List.getElem_mem hi)
    simpa [hi]using this
  rw[e]
  exact ⟨.bl (bs.all id),H,I.kept (t':=tk) fun b o eb=>kp b o (fun z=>by
   have z:b=s.heap.objs.size:=by simpa using z
   exact absurd (Heap.lt_size eb) (by rw [z]; exact Nat.lt_irrefl _)) (Heap.get?_push_of_some _ eb),rfl,q⟩
theorem Wx(hc:X.calm=true):Yo X (.builtin "any") (fun xs H Q=>∃(p:Addr)(bs:List Bool),xs=[.ref p]∧SqL X.K H p (bs.map V.bl)∧Q (.bl (bs.any id)) H):=by
 intro pins s σ H xs us Q I r h
 obtain⟨p,bs,rfl,hq,q⟩:=h
 obtain⟨u,rfl,ru⟩:=Yu r
 cases ru
 obtain⟨its,rv,pl,hz⟩:=I.list hq
 have hlen:its.toArray.size=bs.length:=by rw[List.size_toArray,← rv.length,List.length_map]
 have hne:p≠s.heap.objs.size:=by
  obtain⟨o,n,e,_⟩:=pl
  exact Nat.ne_of_lt (Heap.lt_size e)
 refine call_any_walk (wpAny_pyIter_list pl.isList ?_)
 refine⟨s.heap.objs.size,_,_,its.toArray.size,_,_,fun i=>bs.getD i false,rfl,Walks.list (A:=X.A.in1) (I.ok.hd hc) s.heap.objs.size p hne its.toArray,⟨⟨_,Heap.get?_push_size _ rfl,rfl,rfl⟩,pl.isList.push _⟩,fun i v t Q' E' hv hQ'=>?_,fun h' tk kp=>?_⟩
 ·have hv:its[i]?=some v:=by simpa using hv
  have hi:i<bs.length:=by
   have:=(List.getElem?_eq_some_iff.mp hv).1
   rw[← rv.length,List.length_map]at this
   exact this
  obtain⟨u,e1,e2⟩:=rv.get (i:=i) (x:=V.bl bs[i]) (by simp[hi])
  rw[hv]at e1
  cases e1
  have e2:v=Value.bool bs[i]:=e2
  subst e2
  have e3:bs.getD i false=bs[i]:=by simp[hi]
  rw[← e3]
  exact wpAny_truthy_bool hQ'
 ·have e:(List.range its.toArray.size).any (fun i=>bs.getD i false)=bs.any id:=by
   rw[hlen,Bool.eq_iff_iff,List.any_eq_true,List.any_eq_true]
   constructor
   ·rintro ⟨i,hi,h⟩
    have hi:i<bs.length:=by simpa using hi
    exact⟨bs[i],List.getElem_mem hi,by simpa [hi]using h⟩
   ·rintro ⟨b,hb,h⟩
    obtain⟨i,hi,rfl⟩:=List.mem_iff_getElem.mp hb
    exact⟨i,by simpa using hi,by simpa [hi]using h⟩
  rw[e]
  exact ⟨.bl (bs.any id),H,I.kept (t':=tk) fun b o eb=>kp b o (fun z=>by
   have z:b=s.heap.objs.size:=by simpa using z
   exact absurd (Heap.lt_size eb) (by rw [z]; exact Nat.lt_irrefl _)) (Heap.get?_push_of_some _ eb),rfl,q⟩
theorem call_isinst:Yo X (.builtin "isinstance") (fun xs H Q=>∃x T t b,xs=[x,.ty T]∧TyOf X.K H x t∧PySem.W.kitOne X.K t (.type T)=some b∧Q (.bl b) H):=by
 intro pins s σ H xs us Q I r h
 obtain⟨x,T,t,b,rfl,ty,e,q⟩:=h
 obtain⟨u,v,rfl,ru,rv⟩:=vals2 r
 have rv:v=Value.type T:=rv
 subst rv
 exact isinst_ok I ru ty e fun tk=>⟨.bl b,H,I.tok tk,rfl,q⟩
def rEqNil(K:PySem.W.Frag):R2:=fun x y H Q=>∃a b xs,x=.ref a∧y=.ref b∧SqL K H a xs∧SqL K H b []∧Q (.bl xs.isEmpty) H
def rNeNil(K:PySem.W.Frag):R2:=fun x y H Q=>∃a b xs,x=.ref a∧y=.ref b∧SqL K H a xs∧SqL K H b []∧Q (.bl (!xs.isEmpty)) H
theorem Qy(hu:X.A.units<cLine):OpR X (compareOp .Eq) (rEqNil X.K):=by
 intro pins s σ H x y v u Q I rx ry h
 obtain⟨a,b,xs,rfl,rfl,ha,hb,q⟩:=h
 cases rx
 cases ry
 obtain⟨its,r1,p1,_⟩:=I.list ha
 obtain⟨its2,r2,p2,_⟩:=I.list hb
 cases r2
 by_cases hx:xs=[]
 ·subst hx
  cases r1
  exact SeqAt.eq_listAt (e:=fun _=>true) p1.isList p2.isList rfl hu (fun j h1 _=>absurd h1 (by simp)) ⟨.bl true,H,I,by simp;rfl,q⟩
 ·have e:xs.isEmpty=false:=by cases xs with
   | nil=>exact absurd rfl hx
   | cons _ _=>rfl
  rw[e]at q
  refine SeqAt.eq_list_lengthsAt p1.isList p2.isList ?_ hu ⟨.bl false,H,I,rfl,q⟩
  have h0:its.length≠0:=by
   rw[← r1.length]
   exact fun z=>hx (List.length_eq_zero_iff.mp z)
  simpa using h0
theorem Ui(hu:X.A.units<cLine):OpR X (compareOp .NotEq) (rNeNil X.K):=by
 intro pins s σ H x y v u Q I rx ry h
 obtain⟨a,b,xs,rfl,rfl,ha,hb,q⟩:=h
 cases rx
 cases ry
 obtain⟨its,r1,p1,_⟩:=I.list ha
 obtain⟨its2,r2,p2,_⟩:=I.list hb
 cases r2
 by_cases hx:xs=[]
 ·subst hx
  cases r1
  exact SeqAt.RcNeAt.lists (e:=fun _=>true) p1.isList p2.isList rfl hu (fun j h1 _=>absurd h1 (by simp)) _ _ _ _ ⟨.bl false,H,I,by simp;rfl,q⟩
 ·have e:xs.isEmpty=false:=by cases xs with
   | nil=>exact absurd rfl hx
   | cons _ _=>rfl
  rw[e]at q
  refine SeqAt.RcNeAt.lists_lengths p1.isList p2.isList ?_ hu _ _ _ _ ⟨.bl true,H,I,rfl,q⟩
  have h0:its.length≠0:=by
   rw[← r1.length]
   exact fun z=>hx (List.length_eq_zero_iff.mp z)
  simpa using h0
def rCat2:R2:=fun x y H Q=>∃a b xs ys,x=.ref a∧y=.ref b∧H a=some (.tup xs)∧H b=some (.tup ys)∧xs.length+ys.length≤sizeLine∧∀p H',Same H H'→H' p=some (.tup (xs++ys))→Q (.ref p) H'
theorem op_cat2:OpR X (binaryOp .Add) rCat2:=by
 intro pins s σ H x y v u Q I rx ry h
 obtain⟨a,b,xs,ys,rfl,rfl,ha,hb,hz,q⟩:=h
 by_cases hx:xs=[]
 ·subst hx
  cases rx
  cases ry
  obtain⟨its,r1,p1,_⟩:=I.tuple (SqT.of ha)
  obtain⟨its2,r2,p2,_⟩:=I.tuple (SqT.of hb)
  cases r1
  obtain⟨⟨cls,dd,data,sl⟩,ho,hc,n,hd⟩:=id p1
  obtain⟨⟨cls2,dd2,data2,sl2⟩,ho2,hc2,n2,hd2⟩:=id p2
  simp only at hc hd hc2 hd2
  subst hc hd hc2 hd2
  exact concat_meets ⟨_,ho,rfl⟩ ⟨_,ho2,rfl⟩ noFill_tuple_add seq_tuple_add PySem.F.slot_tuple_add PySem.F.entry_tuple_add (PySem.F.args_tuple_add_2 _ _)
   (tuple_addW0 a b _ _ n n2 dd dd2 sl sl2 (by simp)) ⟨ho,ho2,⟨.ref b,H,I,rfl,q b H (Same.refl H) hb⟩⟩
 ·refine op_catT pins s σ H (.ref a) (.ref b) v u Q I rx ry ⟨a,b,xs,ys,rfl,rfl,SqT.of ha,SqT.of hb,hx,hz,fun e=>?_,fun _ p hp=>q p _ (Same.upd hp) Jb⟩
  subst e
  exact q a H (Same.refl H) (by rw[List.append_nil];exact ha)
def rSl2:V→Option Int→Option Int→Hp→VK→Prop:=fun x lo hi H Q=>∃a xs,x=.ref a∧H a=some (.tup xs)∧∀p H',Same H H'→H' p=some (.tup (cutV xs lo hi))→Q (.ref p) H'
theorem WC{prog:Program}{w:World}{A:Around}{E:Value→Shared→Prop}{s:Shared}{t sl:Addr}{items:Array Value}{vl vu:Value}{lo hi:Option Int}{Q:Value→Shared→Prop}(ht:IsTup s.heap t items)(hs:s.heap.IsSliceOf sl vl vu .none)
  (pl:IsPart vl lo) (pu:IsPart vu hi) (hw:HT.sIx items.size 0 lo=0∧HT.sIx items.size items.size hi=items.size) (h:Q (.ref t) s):wpAny (model prog w) A (getItem (.ref t) (.ref sl)) Q E s:=by
 obtain⟨os,hos,hcs,hds⟩:=id hs
 have hTs:s.TypeIs (.ref sl) "slice":=⟨os,hos,hcs⟩
 unfold getItem
 try with_reducible refine wpAny_holding ?_
 first|refine wpAny_bind (wpAny_pure ?_)|skip
 refine wpAny_bind (wpAny_sequenceKey ht.typeIs (by decide) ?_)
 refine wpAny_bind (wpAny_callSpecial?_slot (name:=Str.ofString "__getitem__") ht.typeIs PyProof.Rows.slot_tuple_getitem
  (wpAny_call_entry PyProof.Rows.slot_tuple_getitem ht.typeIs entry_tuple_getitem ?_ (args_tuple_getitem _ _)))
 show wpAny (model prog w) _ (Builtin.Tuple.tupleItemsOf (.ref t) >>= _) _ _ s
 refine wpAny_bind (tupleItemsOf_ ht ?_)
 refine wpAny_bind (wpAny_typeOf hTs ?_)
 rw[if_pos (by decide)]
 refine wpAny_bind (HT.sliceApplied_gen hs pl pu ?_)
 have yes:(((HT.sIx items.size 0 lo:Nat):Int)==0&&(1:Int)==1&&(HT.sIx items.size items.size hi-HT.sIx items.size 0 lo)==items.size)=true:=by
  rw[hw.1,hw.2]
  simp
 show wpAny (model prog w) _ (if (((HT.sIx items.size 0 lo:Nat):Int)==0&&(1:Int)==1&&(HT.sIx items.size items.size hi-HT.sIx items.size 0 lo)==items.size)=true then _ else _) _ _ s
 rw[if_pos yes]
 have ex:wpAny (model prog w) A.in1 (Builtin.Tuple.tupleIsExact (.ref t)) (fun b t'=>b=true∧t'=s) E s:=by
  unfold Builtin.Tuple.tupleIsExact
  exact wpAny_bind (wpAny_typeOf ht.typeIs (wpAny_pure ⟨rfl,rfl⟩))
 refine wpAny_bind (wpAny_mono ex (fun b t' hb=>?_) fun _ _ z=>z)
 obtain⟨rfl,rfl⟩:=hb
 rw[if_pos rfl]
 exact wpAny_bind (wpAny_rule (wpAny_pure ⟨_,rfl,wpAny_pure h⟩))
theorem sl_tup2:SlR X rSl2:=by
 intro pins s σ H x v vl vu lo hi sl Q I rx hs pl pu h
 obtain⟨a,xs,rfl,hx,q⟩:=h
 by_cases hw:HT.sIx xs.length 0 lo=0∧HT.sIx xs.length xs.length hi=xs.length
 ·cases rx
  obtain⟨its,r,ht,hz⟩:=I.tuple (SqT.of hx)
  have hlen:its.toArray.size=xs.length:=by rw[List.size_toArray];exact r.length.symm
  refine⟨"tuple",_,PyProof.Rows.slot_tuple_getitem.lookup,ht.typeIs,?_⟩
  refine WC ht hs pl pu (by rw[hlen];exact hw) ⟨.ref a,H,I,rfl,q a H (Same.refl H) ?_⟩
  have e:cutV xs lo hi=xs:=by
   unfold cutV
   rw[hw.1,hw.2]
   simp
  rw[e]
  exact hx
 ·exact sl_tup pins s σ H (.ref a) v vl vu lo hi sl Q I rx hs pl pu ⟨a,xs,rfl,SqT.of hx,hw,fun p hp=>q p _ (Same.upd hp) Jb⟩
theorem call_dict_of:Yo X (.type "dict") (fun xs H Q=>∃a kvs,xs=[.ref a]∧H a=some (.dK kvs)∧∀p,H p=none→Q (.ref p) (upd H p (.dK kvs))):=by
 intro pins s σ H xs us Q I r h
 obtain⟨a,kvs,rfl,ha,q⟩:=h
 obtain⟨u,rfl,ru⟩:=Yu r
 cases ru
 exact d_copyOf I (.inl ha) fun p s' hp I'=>⟨.ref p,_,I',rfl,q p hp⟩
end
end L2
namespace L2
open PySem PySem.Spec PyProof.Rows
structure Kn(P:Program)(w:World)(K:PySem.W.Frag)(mg:Str→Option Value)(base:Heap)(k:Nat)(x:Str)(ps:List Str)(sp:Sp):Prop where
 ex:∃(f:Addr)(fd:FuncData),FnOk P w K mg base CX0 k f fd ps sp∧mg x=some (.ref f)∧PySem.W.keepIn K (.ref f)=true∧Binds K fd ps []
theorem Jp{X:Cx}{k:Nat}{x:Str}{ps:List Str}{sp:Sp}{p pos:Pos}{e:Expr}{es:List Expr}{t:TA}(h:Kn X.prog X.w X.K X.mg X.base k x ps sp)(hr:Room k X.A)(ha:PA X (e::es) t)(hg:Gl X x:=by rfl)
  (hdb:(x==("__debug__":Str))=false:=by decide) (he:starEach (e::es) X.env=(false,eval e X.env)::starEach es X.env:=by rfl) (hpl:(backTo pos (starEach es X.env)).any (·.1)=false:=by rfl) :
  PE X (.Call (.Name x p) (e::es) [] pos) (tCall sp [] E0 t):=by
 obtain⟨f,fd,F,hm,hk,hb⟩:=h.ex
 exact pe_call F hr hg hm hk hb .nil pass0 ha hdb he hpl
theorem Yq{X:Cx}{f:Expr}{es:List Expr}{ks:List Keyword}{pos:Pos}{t:TE}(h:PE X (.Call f es ks pos) t):PT X (.Call f es ks pos) (tB t):=pt_val h
structure DefAt(K:PySem.W.Frag)(mg:Str→Option Value)(x:Str)(st:Stmt)(ps:List Str):Prop where
 ex:∃(f:Addr)(fd:FuncData),Fun K x x st f fd∧mg x=some (.ref f)∧Binds K fd ps []
theorem DefAt.kn{P:Program}{w:World}{K:PySem.W.Frag}{mg:Str→Option Value}{base:Heap}{k:Nat}{x:Str}{st:Stmt}{N ps:List Str}{sp:Sp}(D:DefAt K mg x st ps)(S:FnScope N ps (Jl st))(len:∀vs H Q E,sp vs H Q E→vs.length=ps.length)
  (hbody:∀ (f:Addr) (cdv:Value) (A:Around) (outer:List Env) (s:Shared) (H:Hp) (vs:List V) (Q:VK) (E:XK),Room k (A.deeper (envOfC x (Jl st) s.heap.objs.size f cdv))→sp vs H Q E →
   ∃ t,PSs (cxOf CX0 P w K mg base N x (Jl st) f cdv A outer s H E).nox (YJ st) t∧t { nx:=fun _ H'=>Q .non H',rt:=Q } (start N vs) H):Kn P w K mg base (k + 1) x ps sp:=by
 obtain⟨f,fd,F,hm,hb⟩:=D.ex
 exact⟨f,fd,F.ok S len fun cdv A outer s H vs Q E hr h=>hbody f cdv A outer s H vs Q E hr h,hm,F.kp,hb⟩
def Free(mg:Str→Option Value)(l:List Str):Prop:=∀x∈l,mg x=none
inductive Dat(H:Hp):V→String→Prop where
 | non:Dat H .non "NoneType"
 | bl (b:Bool):Dat H (.bl b) "bool"
 | int (i:Int):Dat H (.int i) "int"
 | str (x:Str):Dat H (.str x) "str"
 | lst {a:Addr} {xs:List V} (h:H a=some (.lst xs)):Dat H (.ref a) "list"
 | tup {a:Addr} {xs:List V} (h:H a=some (.tup xs)):Dat H (.ref a) "tuple"
 | dK {a:Addr} {kvs:List (Key×V)} (h:H a=some (.dK kvs)):Dat H (.ref a) "dict"
theorem Dat.mono{H H':Hp}{x:V}{T:String}(s:Same H H')(h:Dat H x T):Dat H' x T:=by
 cases h with
 | non=>exact .non
 | bl b=>exact .bl b
 | int i=>exact .int i
 | str z=>exact .str z
 | lst e=>exact .lst (s _ _ e)
 | tup e=>exact .tup (s _ _ e)
 | dK e=>exact .dK (s _ _ e)
theorem Dat.ty{K:PySem.W.Frag}{H:Hp}{x:V}{T:String}(h:Dat H x T):TyOf K H x (.type T):=by
 cases h with
 | non=>exact .non
 | bl b=>exact .bl b
 | int i=>exact .int i
 | str z=>exact .str z
 | lst e=>exact .lst e
 | tup e=>exact .tup e
 | dK e=>exact .dK e
theorem Dat.mem{H:Hp}{x:V}{T:String}(h:Dat H x T):T∈["NoneType","bool","int","str","list","tuple","dict"]:=by
 cases h<;>simp
def kitB(t T:String):Bool:=t==T||(t=="bool"&&T=="int")
theorem kit_of(K:PySem.W.Frag){t T:String}(h:t∈["NoneType","bool","int","str","list","tuple","dict"])(h':T∈["int","bool","tuple","list","str","dict"]):PySem.W.kitOne K (.type t) (.type T)=some (kitB t T):=by
 simp only[List.mem_cons,List.not_mem_nil,or_false]at h h'
 rcases h with rfl|rfl|rfl|rfl|rfl|rfl|rfl<;>rcases h' with rfl|rfl|rfl|rfl|rfl|rfl<;>kernel_rfl
theorem Uq{X:Cx}:Yo X (.builtin "isinstance") (fun xs H Q=>∃x T T',xs=[x,.ty T]∧Dat H x T'∧T∈["int","bool","tuple","list","str","dict"]∧Q (.bl (kitB T' T)) H):=by
 intro pins s σ H xs us Q I r h
 obtain⟨x,T,T',e,d,m,q⟩:=h
 exact call_isinst pins s σ H xs us Q I r ⟨x,T,.type T',_,e,d.ty,kit_of X.K d.mem m,q⟩
theorem Wy:bootBuiltins "isinstance"=some (.builtin "isinstance"):=by decide +kernel
theorem boot_tint:bootBuiltins "int"=some (.type "int"):=by decide +kernel
theorem boot_tbool:bootBuiltins "bool"=some (.type "bool"):=by decide +kernel
theorem JB:bootBuiltins "tuple"=some (.type "tuple"):=by decide +kernel
theorem boot_tlist:bootBuiltins "list"=some (.type "list"):=by decide +kernel
theorem boot_tdict:bootBuiltins "dict"=some (.type "dict"):=by decide +kernel
theorem YG:bootBuiltins "all"=some (.builtin "all"):=by decide +kernel
theorem UF:bootBuiltins "any"=some (.builtin "any"):=by decide +kernel
theorem boot_fmax:bootBuiltins "max"=some (.builtin "max"):=by decide +kernel
theorem UE:bootBuiltins "min"=some (.builtin "min"):=by decide +kernel
theorem Yn:bootBuiltins "sorted"=some (.builtin "sorted"):=by decide +kernel
inductive Thing(H:Hp):V→Option (List V)→Prop where
 | tup {p:Addr} {ys:List V} (h:H p=some (.tup ys)) (ty:∀ y∈ys,∃ T,Dat H y T) (z:ys.length≤sizeLine):Thing H (.ref p) (some ys)
 | oth {x:V} {T:String} (h:Dat H x T) (n:T≠"tuple"):Thing H x none
def Ars(H:Hp):List V→List (Int×Int)→Prop:=Paired fun v p=>∃q,v=V.ref q∧H q=some (.tup [.int p.1,.int p.2])
theorem Ars.mono{H H':Hp}{vs:List V}{ars:List (Int×Int)}(s:Same H H')(h:Ars H vs ars):Ars H' vs ars:=Paired.mapP h fun _ _ ⟨q,e,z⟩=>⟨q,e,s _ _ z⟩
structure Web(H:Hp)(a t:Addr)(m:Int)(vs:List V)(ars:List (Int×Int)):Prop where
 top:H a=some (.tup [.int m,.ref t])
 arr:H t=some (.tup vs)
 ars:Ars H vs ars
 len:vs.length≤1000
 mb:0≤m∧m≤1000
theorem Web.mono{H H':Hp}{a t:Addr}{m:Int}{vs:List V}{ars:List (Int×Int)}(s:Same H H')(h:Web H a t m vs ars):Web H' a t m vs ars:=⟨s _ _ h.top,s _ _ h.arr,h.ars.mono s,h.len,h.mb⟩
theorem Paired.get'{α β:Type}{F:α→β→Prop}:∀{l:List α}{r:List β}{i:Nat}{x:α},Paired F l r→l[i]?=some x→∃y,r[i]?=some y∧F x y
 | _,_,_,_,.nil,e=>by simp at e
 | _,_,0,_,.cons h _,e=>by
  simp at e
  subst e
  exact⟨_,rfl,h⟩
 | _,_,i + 1,x,.cons _ t,e=>by
  obtain⟨y,h1,h2⟩:=Paired.get' (i:=i) (x:=x) t (by simpa using e)
  exact⟨y,by simpa using h1,h2⟩
def isI:V→Bool
 | .int _=>true
 | _=>false
def plG(m:Int):V→Bool
 | .int n=>decide (0≤n) && decide (n < m)
 | _=>false
def YA:List Int→Bool
 | []=>true
 | [_]=>true
 | a::b::r=>decide (a < b) && YA (b::r)
def Jt(ys:List V):List Int:=ys.filterMap fun y=>match y with|.int n=>some n|_=>none
def plsG(m:Int):Option (List V)→Bool
 | none=>false
 | some ys=>ys.all (plG m) && YA (Jt ys)
theorem Zq{m:Int}:∀{ys:List V},ys.all (plG m)=true→ys=(Jt ys).map V.int
 | [],_=>rfl
 | y::r,h=>by
  rw[List.all_cons,Bool.and_eq_true]at h
  cases y with
  | int n =>
   show V.int n::r=V.int n::(Jt r).map V.int
   rw[← Zq h.2]
  | _=>exact absurd h.1 (by simp [plG])
theorem Yt(ns:List Int):Jt (ns.map V.int)=ns:=by
 induction ns with
 | nil=>rfl
 | cons n r ih=>show n::Jt (r.map V.int)=n::r; rw [ih]
end L2
namespace L2
open PySem PySem.Spec PyProof.Rows
def Wn(n:Nat)(Pv:Nat→List V→Hp→Prop)(i m:Nat)(zs:List V)(H:Hp):Prop:=m=n-i∧i≤n∧Pv i zs H
theorem nx{n i:Nat}{Pv:Nat→List V→Hp→Prop}{zs:List V}{H:Hp}(hi:i<n)(h:Pv (i+1) zs H):∃m',m'<n-i∧Wn n Pv (i+1) m' zs H:=⟨n-(i+1),by omega,rfl,hi,h⟩
section
variable{K:PySem.W.Frag}{g:TG}{tc:TT}{te:TE}{σ:St}{H:Hp}{R:List V→Hp→Prop}
theorem lc_by{J:It}(n:Nat)(Pv:Nat→List V→Hp→Prop)(h0:Pv 0 [] H)(stop:∀zs H,Pv n zs H→J.stop n H∧zs.length≤sizeLine∧R zs H)
  (go:∀ i zs H,i < n→Pv i zs H→J.go i H∧zs.length≤sizeLine∧∀ x H',J.yld i H x H'→g x σ H' fun σ2 H2=>tc σ2 H2 fun b H3 =>
   if b=true then te σ2 H3 fun y H4=>∃ m',m' < n - i∧Wn n Pv (i + 1) m' (zs++[y]) H4 else ∃ m',m' < n - i∧Wn n Pv (i + 1) m' zs H3) :
  ∃W:Nat→Nat→List V→Hp→Prop,(∃m,W 0 m [] H)∧∀i m ys H,W i m ys H→(J.stop i H∧ys.length≤sizeLine∧R ys H) ∨
   (J.go i H∧ys.length≤sizeLine∧∀ x H',J.yld i H x H'→g x σ H' fun σ2 H2=>tc σ2 H2 fun b H3 =>
    if b=true then te σ2 H3 fun y H4=>∃ m',m' < m∧W (i + 1) m' (ys++[y]) H4 else ∃ m',m' < m∧W (i + 1) m' ys H3):=by
 refine⟨Wn n Pv,⟨n,rfl,Nat.zero_le _,h0⟩,?_⟩
 rintro i m ys H ⟨rfl,hi,p⟩
 by_cases hlt:i<n
 ·exact .inr (go i ys H hlt p)
 ·have e:i=n:=by omega
  subst e
  exact .inl (stop ys H p)
theorem QF{a:Addr}{xs:List V}(Pv:Nat→List V→Hp→Prop)(h0:Pv 0 [] H)(hl:∀i zs H,i≤xs.length→Pv i zs H→SqT K H a xs∧zs.length≤sizeLine)(hd:∀zs H,Pv xs.length zs H→R zs H)
  (hs:∀ i x zs H,xs[i]?=some x→i < xs.length→Pv i zs H→g x σ H fun σ2 H2=>tc σ2 H2 fun b H3 =>
   if b=true then te σ2 H3 fun y H4=>∃ m',m' < xs.length - i∧Wn xs.length Pv (i + 1) m' (zs++[y]) H4 else ∃ m',m' < xs.length - i∧Wn xs.length Pv (i + 1) m' zs H3) :
  ∃W:Nat→Nat→List V→Hp→Prop,(∃m,W 0 m [] H)∧∀i m ys H,W i m ys H→((Itt K a).stop i H∧ys.length≤sizeLine∧R ys H) ∨
   ((Itt K a).go i H∧ys.length≤sizeLine∧∀ x H',(Itt K a).yld i H x H'→g x σ H' fun σ2 H2=>tc σ2 H2 fun b H3 =>
    if b=true then te σ2 H3 fun y H4=>∃ m',m' < m∧W (i + 1) m' (ys++[y]) H4 else ∃ m',m' < m∧W (i + 1) m' ys H3):=by
 refine lc_by xs.length Pv h0 (fun zs H p=>?_) (fun i zs H hi p=>?_)
 ·obtain ⟨q,z⟩:=hl _ zs H (Nat.le_refl _) p
  exact⟨⟨xs,q,Nat.le_refl _⟩,z,hd zs H p⟩
 ·obtain ⟨q,z⟩:=hl i zs H (Nat.le_of_lt hi) p
  refine⟨⟨xs,xs[i],q,by simp[hi]⟩,z,fun x H' y=>?_⟩
  obtain⟨e,y⟩:=y
  subst e
  exact hs i x zs _ (y xs q) hi p
theorem UY{a:Addr}{xs:List V}(Pv:Nat→List V→Hp→Prop)(h0:Pv 0 [] H)(hl:∀i zs H,i≤xs.length→Pv i zs H→SqL K H a xs∧zs.length≤sizeLine)(hd:∀zs H,Pv xs.length zs H→R zs H)
  (hs:∀ i x zs H,xs[i]?=some x→i < xs.length→Pv i zs H→g x σ H fun σ2 H2=>tc σ2 H2 fun b H3 =>
   if b=true then te σ2 H3 fun y H4=>∃ m',m' < xs.length - i∧Wn xs.length Pv (i + 1) m' (zs++[y]) H4 else ∃ m',m' < xs.length - i∧Wn xs.length Pv (i + 1) m' zs H3) :
  ∃W:Nat→Nat→List V→Hp→Prop,(∃m,W 0 m [] H)∧∀i m ys H,W i m ys H→((Itl K a).stop i H∧ys.length≤sizeLine∧R ys H) ∨
   ((Itl K a).go i H∧ys.length≤sizeLine∧∀ x H',(Itl K a).yld i H x H'→g x σ H' fun σ2 H2=>tc σ2 H2 fun b H3 =>
    if b=true then te σ2 H3 fun y H4=>∃ m',m' < m∧W (i + 1) m' (ys++[y]) H4 else ∃ m',m' < m∧W (i + 1) m' ys H3):=by
 refine lc_by xs.length Pv h0 (fun zs H p=>?_) (fun i zs H hi p=>?_)
 ·obtain ⟨q,z⟩:=hl _ zs H (Nat.le_refl _) p
  exact⟨⟨xs,q,Nat.le_refl _⟩,z,hd zs H p⟩
 ·obtain ⟨q,z⟩:=hl i zs H (Nat.le_of_lt hi) p
  refine⟨⟨xs,xs[i],q,by simp[hi]⟩,z,fun x H' y=>?_⟩
  obtain⟨e,y⟩:=y
  subst e
  exact hs i x zs _ (y xs q) hi p
theorem Wt{lo:Int}{n:Nat}(Pv:Nat→List V→Hp→Prop)(h0:Pv 0 [] H)(hl:∀i zs H,i≤n→Pv i zs H→zs.length≤sizeLine)(hd:∀zs H,Pv n zs H→R zs H)
  (hs:∀ i zs H,i < n→Pv i zs H→g (.int (lo + i)) σ H fun σ2 H2=>tc σ2 H2 fun b H3 =>
   if b=true then te σ2 H3 fun y H4=>∃ m',m' < n - i∧Wn n Pv (i + 1) m' (zs++[y]) H4 else ∃ m',m' < n - i∧Wn n Pv (i + 1) m' zs H3) :
  ∃W:Nat→Nat→List V→Hp→Prop,(∃m,W 0 m [] H)∧∀i m ys H,W i m ys H→((Itr lo n).stop i H∧ys.length≤sizeLine∧R ys H) ∨
   ((Itr lo n).go i H∧ys.length≤sizeLine∧∀ x H',(Itr lo n).yld i H x H'→g x σ H' fun σ2 H2=>tc σ2 H2 fun b H3 =>
    if b=true then te σ2 H3 fun y H4=>∃ m',m' < m∧W (i + 1) m' (ys++[y]) H4 else ∃ m',m' < m∧W (i + 1) m' ys H3):=by
 refine lc_by n Pv h0 (fun zs H p=>⟨Nat.le_refl _,hl _ zs H (Nat.le_refl _) p,hd zs H p⟩) (fun i zs H hi p=>⟨hi,hl i zs H (Nat.le_of_lt hi) p,fun x H' y=>?_⟩)
 obtain⟨e,y⟩:=y
 subst e y
 exact hs i zs _ hi p
theorem lc_zip{a b:Addr}{xs ys:List V}(hxy:ys.length+1=xs.length∨(xs.length=0∧ys.length=0)∨ys.length=xs.length)(Pv:Nat→List V→Hp→Prop)(h0:Pv 0 [] H)
  (hl:∀i zs H,i≤ys.length→Pv i zs H→H a=some (.tup xs)∧H b=some (.tup ys)∧zs.length≤sizeLine) (hd:∀zs H,Pv ys.length zs H→R zs H)
  (hs:∀ i v w zs H p,xs[i]?=some v→ys[i]?=some w→i < ys.length→Pv i zs H→H p=none→g (.ref p) σ (upd H p (.tup [v,w])) fun σ2 H2=>tc σ2 H2 fun b H3 =>
   if b=true then te σ2 H3 fun y H4=>∃ m',m' < ys.length - i∧Wn ys.length Pv (i + 1) m' (zs++[y]) H4 else ∃ m',m' < ys.length - i∧Wn ys.length Pv (i + 1) m' zs H3) :
  ∃W:Nat→Nat→List V→Hp→Prop,(∃m,W 0 m [] H)∧∀i m ys H,W i m ys H→((Itz a b).stop i H∧ys.length≤sizeLine∧R ys H) ∨
   ((Itz a b).go i H∧ys.length≤sizeLine∧∀ x H',(Itz a b).yld i H x H'→g x σ H' fun σ2 H2=>tc σ2 H2 fun b H3 =>
    if b=true then te σ2 H3 fun y H4=>∃ m',m' < m∧W (i + 1) m' (ys++[y]) H4 else ∃ m',m' < m∧W (i + 1) m' ys H3):=by
 refine lc_by ys.length Pv h0 (fun zs H p=>?_) (fun i zs H hi p=>?_)
 ·obtain ⟨q1,q2,z⟩:=hl _ zs H (Nat.le_refl _) p
  exact⟨⟨xs,ys,q1,q2,by omega⟩,z,hd zs H p⟩
 ·obtain ⟨q1,q2,z⟩:=hl i zs H (Nat.le_of_lt hi) p
  refine⟨⟨xs,ys,q1,q2,by omega,hi⟩,z,fun x H' y=>?_⟩
  obtain⟨p',v,w,e1,e2,e3,y⟩:=y
  subst e1 e3
  obtain⟨y1,y2⟩:=y xs ys q1 q2
  exact hs i v w zs H p' y1 y2 hi p e2
end
section
variable{K:PySem.W.Frag}{g:TG}{te:TE}{σ:St}{H:Hp}{R:List V→Hp→Prop}
theorem Uk{a:Addr}{xs:List V}(Pv:Nat→List V→Hp→Prop)(h0:Pv 0 [] H)(hl:∀i zs H,i≤xs.length→Pv i zs H→SqT K H a xs∧zs.length≤sizeLine)(hd:∀zs H,Pv xs.length zs H→R zs H)
  (hs:∀i x zs H,xs[i]?=some x→i<xs.length→Pv i zs H→g x σ H fun σ2 H2=>te σ2 H2 fun y H4=>∃m',m'<xs.length-i∧Wn xs.length Pv (i+1) m' (zs++[y]) H4) :
  ∃W:Nat→Nat→List V→Hp→Prop,(∃m,W 0 m [] H)∧∀i m ys H,W i m ys H→((Itt K a).stop i H∧ys.length≤sizeLine∧R ys H) ∨
   ((Itt K a).go i H∧ys.length≤sizeLine∧∀ x H',(Itt K a).yld i H x H'→g x σ H' fun σ2 H2=>tYes σ2 H2 fun b H3 =>
    if b=true then te σ2 H3 fun y H4=>∃ m',m' < m∧W (i + 1) m' (ys++[y]) H4 else ∃ m',m' < m∧W (i + 1) m' ys H3):=QF (tc:=tYes) Pv h0 hl hd hs
theorem Zm{a:Addr}{xs:List V}(Pv:Nat→List V→Hp→Prop)(h0:Pv 0 [] H)(hl:∀i zs H,i≤xs.length→Pv i zs H→SqL K H a xs∧zs.length≤sizeLine)(hd:∀zs H,Pv xs.length zs H→R zs H)
  (hs:∀i x zs H,xs[i]?=some x→i<xs.length→Pv i zs H→g x σ H fun σ2 H2=>te σ2 H2 fun y H4=>∃m',m'<xs.length-i∧Wn xs.length Pv (i+1) m' (zs++[y]) H4) :
  ∃W:Nat→Nat→List V→Hp→Prop,(∃m,W 0 m [] H)∧∀i m ys H,W i m ys H→((Itl K a).stop i H∧ys.length≤sizeLine∧R ys H) ∨
   ((Itl K a).go i H∧ys.length≤sizeLine∧∀ x H',(Itl K a).yld i H x H'→g x σ H' fun σ2 H2=>tYes σ2 H2 fun b H3 =>
    if b=true then te σ2 H3 fun y H4=>∃ m',m' < m∧W (i + 1) m' (ys++[y]) H4 else ∃ m',m' < m∧W (i + 1) m' ys H3):=UY (tc:=tYes) Pv h0 hl hd hs
theorem Zd{lo:Int}{n:Nat}(Pv:Nat→List V→Hp→Prop)(h0:Pv 0 [] H)(hl:∀i zs H,i≤n→Pv i zs H→zs.length≤sizeLine)(hd:∀zs H,Pv n zs H→R zs H)
  (hs:∀i zs H,i<n→Pv i zs H→g (.int (lo+i)) σ H fun σ2 H2=>te σ2 H2 fun y H4=>∃m',m'<n-i∧Wn n Pv (i+1) m' (zs++[y]) H4) :
  ∃W:Nat→Nat→List V→Hp→Prop,(∃m,W 0 m [] H)∧∀i m ys H,W i m ys H→((Itr lo n).stop i H∧ys.length≤sizeLine∧R ys H) ∨
   ((Itr lo n).go i H∧ys.length≤sizeLine∧∀ x H',(Itr lo n).yld i H x H'→g x σ H' fun σ2 H2=>tYes σ2 H2 fun b H3 =>
    if b=true then te σ2 H3 fun y H4=>∃ m',m' < m∧W (i + 1) m' (ys++[y]) H4 else ∃ m',m' < m∧W (i + 1) m' ys H3):=Wt (tc:=tYes) Pv h0 hl hd hs
theorem lc_zip0{a b:Addr}{xs ys:List V}(hxy:ys.length+1=xs.length∨(xs.length=0∧ys.length=0)∨ys.length=xs.length)(Pv:Nat→List V→Hp→Prop)(h0:Pv 0 [] H)
  (hl:∀i zs H,i≤ys.length→Pv i zs H→H a=some (.tup xs)∧H b=some (.tup ys)∧zs.length≤sizeLine) (hd:∀zs H,Pv ys.length zs H→R zs H)
  (hs:∀i v w zs H p,xs[i]?=some v→ys[i]?=some w→i<ys.length→Pv i zs H→H p=none→g (.ref p) σ (upd H p (.tup [v,w])) fun σ2 H2=>te σ2 H2 fun y H4=>∃m',m'<ys.length-i∧Wn ys.length Pv (i+1) m' (zs++[y]) H4) :
  ∃W:Nat→Nat→List V→Hp→Prop,(∃m,W 0 m [] H)∧∀i m ys H,W i m ys H→((Itz a b).stop i H∧ys.length≤sizeLine∧R ys H) ∨
   ((Itz a b).go i H∧ys.length≤sizeLine∧∀ x H',(Itz a b).yld i H x H'→g x σ H' fun σ2 H2=>tYes σ2 H2 fun b H3 =>
    if b=true then te σ2 H3 fun y H4=>∃ m',m' < m∧W (i + 1) m' (ys++[y]) H4 else ∃ m',m' < m∧W (i + 1) m' ys H3):=lc_zip (tc:=tYes) hxy Pv h0 hl hd hs
end
theorem Ju{α:Type}(l:List α)(i:Nat)(x:α)(h:l[i]?=some x):l.take (i+1)=l.take i++[x]:=by
 rw[List.take_add_one,h]
 rfl
theorem rises_zip:∀ns:List Int,((ns.zip (ns.drop 1)).map fun p=>decide (p.1<p.2)).all id=YA ns
 | []=>rfl
 | [_]=>rfl
 | a::b::r=>by
  have ih:=rises_zip (b::r)
  show(decide (a<b)::((b::r).zip r).map fun p=>decide (p.1<p.2)).all id=(decide (a<b)&&YA (b::r))
  rw[List.all_cons,← ih]
  rfl
theorem cut1(ns:List Int):cutV (ns.map V.int) (some 1) none=(ns.drop 1).map V.int:=by
 unfold cutV
 have e1:HT.sIx (ns.map V.int).length 0 (some 1)=min 1 (ns.map V.int).length:=HT.sIx_nat _ 0 1
 have e2:HT.sIx (ns.map V.int).length (ns.map V.int).length none=(ns.map V.int).length:=rfl
 rw[e1,e2]
 cases ns with
 | nil=>rfl
 | cons n r =>
  simp
  rw[List.take_of_length_le (by simp)]
end L2
namespace L2
open PySem PySem.Calls PySem.Spec PyProof.Rows
def RawD(h:Heap)(d:Addr)(es:Array DictEntry)(ep:Nat):Prop:=∃o,h.get? d=some o∧o.ExactDict∧o.data=.dict es ep
section
variable{prog:Program}{w:World}{A:Around}{E:Value→Shared→Prop}{s:Shared}{d it:Addr}{es:Array DictEntry}{ep i:Nat}
theorem RawD.ty(h:RawD s.heap d es ep):s.TypeIs (.ref d) "dict":=let⟨o,a,b,_⟩:=h;⟨o,a,b.1⟩
theorem raw_iter{Q:Value→Shared→Prop}(hd:(d==sysModules)=false)(hm:RawD s.heap d es ep)
  (q:Q (.ref s.heap.objs.size) { s with heap:=s.heap.push { cls:=.type "dict_keyiterator",data:=.fields #[.ref d,.int 0 0,.int es.size 0,.int ep 0] } }) :
  wpAny (model prog w) A (pyIter (.ref d)) Q E s:=by
 have hT:=hm.ty
 obtain⟨o,h1,h2,h3⟩:=id hm
 refine wpAny_pyIter_slot hT F.slot_dict_iter (wpAny_call_entry F.slot_dict_iter hT F.entry_dict_iter ?_ (F.args_dict_iter_1 _))
 unfold Builtin.«dict.__iter__»
 refine wpAny_bind ?_
 unfold Builtin.Dict.dictSlotNone
 refine wpAny_bind (wpAny_notOrdered_dict hT ?_)
 show wpAny (model prog w) _ (pure (Value.ref d)) _ _ s
 refine wpAny_pure ?_
 show wpAny (model prog w) _ (Builtin.Dict.showsAll d >>= _) _ _ s
 unfold Builtin.Dict.showsAll
 rw[if_neg (by rw[hd];exact Bool.false_ne_true)]
 refine wpAny_bind (wpAny_pure ?_)
 refine wpAny_bind (wpAny_dictEntries h1 h3 ?_)
 refine wpAny_bind (wpAny_dictEpoch h1 h3 ?_)
 exact wpAny_bind (wpAny_newObj_type (wpAny_pure ⟨_,rfl,"dict_keyiterator",_,⟨_,Heap.get?_push_size _ rfl,rfl⟩,F.slot_dict_keyiterator_next.lookup,q⟩))
theorem raw_next{Q:Option Value→Shared→Prop}(hi:s.heap.IsKeyIter it d i es.size ep)(hm:RawD s.heap d es ep)(hx:i<es.size)
  (q:∀h',h'.IsKeyIter it d (i+1) es.size ep→Heap.SameBut it s.heap h'→Q (some es[i].key) { s with heap:=h' }):wpAny (model prog w) A (pyNext (.ref it)) Q E s:=by
 obtain⟨o,a1,a2,a3⟩:=id hi
 obtain⟨od,b1,b2,b3⟩:=id hm
 unfold pyNext
 refine wpAny_bind (wpAny_attempt (wpAny_callSpecial?_slot (name:=Str.ofString "__next__") hi.typeIs F.slot_dict_keyiterator_next
  (wpAny_call_entry F.slot_dict_keyiterator_next hi.typeIs F.entry_dict_keyiterator_next ?_ (F.args_dict_keyiterator_next_1 _))))
 refine wpAny_bind (wpAny_pure ?_)
 refine wpAny_bind ?_
 refine wpAny_bind ?_
 first|refine wpAny_bind (wpAny_typeNameOfWhole_keyiter hi.typeIs (wpAny_pure ?_))|refine wpAny_bind (wpAny_typeNameOf_keyiter hi.typeIs (wpAny_pure ?_))
 refine wpAny_bind (wpAny_fieldsOf a1 a3 ?_)
 have own:Builtin.Dict_items.ownsTuple "dict_keyiterator"=false:=by decide
 simp only[own,Bool.false_eq_true,if_false]
 show wpAny (model prog w) _ (if (Value.ref d==Value.none)=true then _ else _) _ _ s
 rw[if_neg (show ¬ (Value.ref d==Value.none)=true from Bool.false_ne_true)]
 refine wpAny_bind (wpAny_pure ?_)
 refine wpAny_bind (wpAny_dictEntries b1 b3 ?_)
 rw[if_neg (by simp)]
 refine wpAny_bind (wpAny_pure ?_)
 refine wpAny_bind (wpAny_dictEpoch b1 b3 ?_)
 rw[if_neg (by simp)]
 refine wpAny_pure ?_
 simp only[show ¬ ((i:Int)<0)from by omega,if_false,Int.toNat_natCast,Array.getElem?_eq_getElem hx]
 refine wpAny_bind ?_
 first|refine wpAny_bind (wpAny_typeNameOfWhole_keyiter hi.typeIs (wpAny_pure ?_))|refine wpAny_bind (wpAny_typeNameOf_keyiter hi.typeIs (wpAny_pure ?_))
 refine wpAny_bind (wpAny_isOneOf_keyiter hi.typeIs ?_)
 show wpAny (model prog w) _ (setField (.ref it) 1 (rawInt ((i:Int)+1)) >>= _) _ _ s
 refine wpAny_bind (wpAny_setField a1 a3 (by simp) ?_)
 have nxt:(s.heap.update it (Obj.mapFields (·.setIfInBounds 1 (rawInt ((i:Int)+1))))).IsKeyIter it d (i+1) es.size ep :=
  ⟨_,Heap.get?_update_self _ a1 (Obj.isFreed_of_fields (Obj.data_mapFields a3 _)),(Obj.cls_mapFields ..).trans a2,by rw[Obj.data_mapFields a3];simp[rawInt]⟩
 refine wpAny_bind (wpAny_holding ?_)
 refine wpAny_bind (wpAny_isOneOf_keyiter (s:={ s with heap:=s.heap.update it (Obj.mapFields (·.setIfInBounds 1 (rawInt ((i:Int)+1)))) }) nxt.typeIs ?_)
 show wpAny (model prog w) _ (pure es[i].key) _ _ _
 exact wpAny_pure (wpAny_pure ⟨_,rfl,wpAny_pure (q _ nxt (Heap.SameBut.update ..))⟩)
theorem raw_end{Q:Option Value→Shared→Prop}(hh:A.handled=none)(hi:s.heap.IsKeyIter it d es.size es.size ep)(hm:RawD s.heap d es ep)
  (q:∀h',Heap.ExtBut it s.heap h'→Q none { s with heap:=h' }):wpAny (model prog w) A (pyNext (.ref it)) Q E s:=by
 obtain⟨o,a1,a2,a3⟩:=id hi
 obtain⟨od,b1,b2,b3⟩:=id hm
 unfold pyNext
 refine wpAny_bind (wpAny_attempt (wpAny_callSpecial?_slot (name:=Str.ofString "__next__") hi.typeIs F.slot_dict_keyiterator_next
  (wpAny_call_entry F.slot_dict_keyiterator_next hi.typeIs F.entry_dict_keyiterator_next ?_ (F.args_dict_keyiterator_next_1 _))))
 refine wpAny_bind (wpAny_pure ?_)
 refine wpAny_bind ?_
 refine wpAny_bind ?_
 first|refine wpAny_bind (wpAny_typeNameOfWhole_keyiter hi.typeIs (wpAny_pure ?_))|refine wpAny_bind (wpAny_typeNameOf_keyiter hi.typeIs (wpAny_pure ?_))
 refine wpAny_bind (wpAny_fieldsOf a1 a3 ?_)
 have own:Builtin.Dict_items.ownsTuple "dict_keyiterator"=false:=by decide
 simp only[own,Bool.false_eq_true,if_false]
 show wpAny (model prog w) _ (if (Value.ref d==Value.none)=true then _ else _) _ _ s
 rw[if_neg (show ¬ (Value.ref d==Value.none)=true from Bool.false_ne_true)]
 refine wpAny_bind (wpAny_pure ?_)
 refine wpAny_bind (wpAny_dictEntries b1 b3 ?_)
 rw[if_neg (by simp)]
 refine wpAny_bind (wpAny_pure ?_)
 refine wpAny_bind (wpAny_dictEpoch b1 b3 ?_)
 rw[if_neg (by simp)]
 refine wpAny_pure ?_
 simp only[show ¬ ((es.size:Int)<0)from by omega,if_false,Int.toNat_natCast,Array.getElem?_eq_none (Nat.le_refl es.size)]
 refine wpAny_bind ?_
 first|refine wpAny_bind (wpAny_typeNameOfWhole_keyiter hi.typeIs (wpAny_pure ?_))|refine wpAny_bind (wpAny_typeNameOf_keyiter hi.typeIs (wpAny_pure ?_))
 show wpAny (model prog w) _ (setField (.ref it) 0 .none >>= _) _ _ s
 refine wpAny_bind (wpAny_setField a1 a3 (by simp) ?_)
 show wpAny (model prog w) _ (newExc (.type "StopIteration") [] >>= _) _ _ _
 refine wpAny_bind ?_
 simp only[newExc,newTuple]
 refine wpAny_bind (wpAny_newObj_type ?_ (by size_fits))
 refine wpAny_bind (m:=firstArgMember _ _) (wpAny_of_eq (a:=Value.none) (by first|rfl|(simp only[firstArgMember];rfl)) ?_)
 refine wpAny_newObj_type ?_ (by size_fits)
 simp only[raiseNew]
 refine wpAny_bind (wpAny_handled ?_)
 rw[show A.in1.handled=none from hh]
 refine wpAny_bind (wpAny_pure (wpAny_throw ?_))
 refine wpAny_bind (wpAny_isInstance (T:="StopIteration") (b:=true) ⟨_,Heap.get?_push_size _ rfl,rfl⟩ isSubtype_stop ?_)
 exact wpAny_pure (q _ (((Heap.SameBut.update ..).extBut.push _).push _))
theorem raw_walks(hh:A.handled=none)(it d:Addr)(hne:d≠it)(es:Array DictEntry)(ep:Nat) :
  Walks prog w A it [it,d] [it] es.size (fun i v=>∃e,es[i]?=some e∧v=e.key) (fun i h=>h.IsKeyIter it d i es.size ep∧RawD h d es ep) where
 sub:=fun b hb=>by simp at hb;simp[hb]
 frame:=fun _ _ _ st hk=>⟨st.1.at fun o e=>hk it (by simp) o e,let⟨o,a,r⟩:=st.2;⟨o,hk d (by simp) o a,r⟩⟩
 item:=fun i s Q E hi st hQ=>by
  refine raw_next st.1 st.2 hi fun h' a b=>?_
  exact hQ _ h' s.toks ⟨es[i],by simp[hi],rfl⟩ ⟨a,let⟨o,x,r⟩:=st.2;⟨o,b.extBut d o hne x,r⟩⟩ fun c o hc e=>b.extBut c o (fun z=>hc (by simp[z])) e
 done:=fun s Q E st hQ=>raw_end hh st.1 st.2 fun h' x=>hQ h' s.toks fun b o hb e=>x b o (fun z=>hb (by simp[z])) e
 self:=fun _ _ _ _ st hQ=>wpAny_pyIter_keyiter st.1 hQ
theorem raw_src(hd:(d==sysModules)=false)(es:Array DictEntry)(ep:Nat):PySem.W.KdlSrc prog w "dict" d d es.size (fun i v=>∃e,es[i]?=some e∧v=e.key) (fun h=>RawD h d es ep) where
 type:=fun _ hm=>hm.ty
 there:=fun _ hm=>let⟨_,a,_⟩:=hm;⟨Heap.lt_size a,Heap.lt_size a⟩
 keep:=fun _ _ hm hk=>let⟨o,a,r⟩:=hm;⟨o,hk d (.inl rfl) o a,r⟩
 notList:=by decide
 notTuple:=by decide
 hint:=fun _ _ _ _ hm hq=>PySem.W.kdl_hint_dict hm.ty hq
 iter:=fun _ _ hh hm=>⟨_,_,(fun _ _ hq=>raw_iter hd hm hq),raw_walks hh _ d (let⟨_,a,_⟩:=hm;Nat.ne_of_lt (Heap.lt_size a)) es ep,⟨⟨_,Heap.get?_push_size _ rfl,rfl,rfl⟩,let⟨o,a,r⟩:=hm;⟨o,Heap.get?_push_of_some _ a,r⟩⟩⟩
end
end L2
namespace Tim
open PySem PyProof.Rows
structure Ok(κ:SortKind)(a0:Array Keyed)(st:SortSt):Prop where
 kind:kindOf st=κ
 fail:failedOf st=none
 perm:(arrOf st).Perm a0
def gallop':Bool→Keyed→Array Keyed→Nat→Nat→Nat→StateT SortSt Sem (Option Nat):=sortPriv% PySem.Builtin.gallop
def mergeLo':Array Keyed→Array Keyed→StateT SortSt Sem (Array Keyed):=sortPriv% PySem.Builtin.mergeLo
def mergeHi':Array Keyed→Array Keyed→StateT SortSt Sem (Array Keyed):=sortPriv% PySem.Builtin.mergeHi
section
variable{prog:Program}{w:World}{A:Around}{E:Value→Shared→Prop}{s:Shared}{κ:SortKind}{a0:Array Keyed}
theorem JJ{arr:Array Keyed}{i:Nat}{st:SortSt}{Q:Keyed→SortSt→Prop}(h:i<arr.size)(q:Q arr[i] st):wpS (model prog w) A E s (elem' arr i) Q st:=by
 rw[elem'_eq,Array.getElem?_eq_getElem h]
 exact wpS_pure q
def In(a0 arr:Array Keyed):Prop:=∀x∈arr,x∈a0
def PL(a b out:Array Keyed)(ia ib:Nat):Prop:=(out.toList++(a.toList.drop ia++b.toList.drop ib)).Perm (a.toList++b.toList)
theorem Qc(a:Array Keyed)(i k:Nat)(h:i≤k):a.toList.drop i=(a.extract i k).toList++a.toList.drop k:=by
 rw[Array.toList_extract,List.extract_eq_take_drop]
 have e:a.toList.drop k=(a.toList.drop i).drop (k-i):=by
  rw[List.drop_drop]
  congr 1
  omega
 rw[e,List.take_append_drop]
theorem Zs(a:Array Keyed)(i:Nat):(a.extract i a.size).toList=a.toList.drop i:=by
 rw[Array.toList_extract,List.extract_eq_take_drop]
 exact List.take_of_length_le (by simp)
section
variable{a b out:Array Keyed}{ia ib:Nat}
theorem PL.takeA(h:PL a b out ia ib)(k:Nat):PL a b (out++a.extract ia (ia+k)) (ia+k) ib:=by
 unfold PL at h ⊢
 rw[Qc a ia (ia+k) (by omega)]at h
 simpa using h
theorem PL.takeB(h:PL a b out ia ib)(k:Nat):PL a b (out++b.extract ib (ib+k)) ia (ib+k):=by
 unfold PL at h ⊢
 rw[Qc b ib (ib+k) (by omega)]at h
 refine List.Perm.trans ?_ h
 simp only[Array.toList_append,List.append_assoc]
 refine List.Perm.append_left _ ?_
 rw[← List.append_assoc,← List.append_assoc]
 exact List.Perm.append_right _ List.perm_append_comm
theorem PL.pushA(h:PL a b out ia ib)(hi:ia<a.size):PL a b (out.push a[ia]) (ia+1) ib:=by
 unfold PL at h ⊢
 rw[List.drop_eq_getElem_cons (by simpa using hi)]at h
 simpa using h
theorem PL.pushB(h:PL a b out ia ib)(hi:ib<b.size):PL a b (out.push b[ib]) ia (ib+1):=by
 unfold PL at h ⊢
 rw[List.drop_eq_getElem_cons (l:=b.toList) (by simpa using hi)]at h
 refine List.Perm.trans ?_ h
 simp only[Array.toList_push,List.append_assoc,List.singleton_append]
 refine List.Perm.append_left _ ?_
 simpa using List.perm_middle.symm
theorem PL.done(h:PL a b out ia ib):(out++a.extract ia a.size++b.extract ib b.size).Perm (a++b):=by
 unfold PL at h
 rw[Array.perm_iff_toList_perm]
 simp only[Array.toList_append,Zs,List.append_assoc]
 exact h
theorem PL.last(h:PL a b out ia ib):(out++b.extract ib b.size++a.extract ia a.size).Perm (a++b):=by
 unfold PL at h
 rw[Array.perm_iff_toList_perm]
 simp only[Array.toList_append,Zs,List.append_assoc]
 exact(List.Perm.append_left _ List.perm_append_comm).trans h
end
structure SI(κ:SortKind)(a0:Array Keyed)(st st':SortSt):Prop where
 ok:Ok κ a0 st'
 pend:pendingOf st'=pendingOf st
 arr:arrOf st'=arrOf st
def PH(a b out:Array Keyed)(na nb:Nat):Prop:=((a.toList.take na++b.toList.take nb)++out.toList.reverse).Perm (a.toList++b.toList)
theorem US(a:Array Keyed)(i k:Nat)(h:i≤k):a.toList.take k=a.toList.take i++(a.extract i k).toList:=by
 rw[Array.toList_extract,List.extract_eq_take_drop]
 have e:k=i+(k-i):=by omega
 conv=>lhs;rw[e,List.take_add]
theorem Zb(a:Array Keyed)(n:Nat)(h0:0<n)(h:n-1<a.size):a.toList.take n=a.toList.take (n-1)++[a[n-1]]:=by
 have e:n=(n-1)+1:=by omega
 conv=>lhs;rw[e,List.take_add_one]
 rw[Array.getElem?_toList,Array.getElem?_eq_getElem h]
 rfl
theorem YQ(a:Array Keyed)(n:Nat):(a.extract 0 n).toList=a.toList.take n:=by
 rw[Array.toList_extract,List.extract_eq_take_drop]
 simp
section
variable{a b out:Array Keyed}{na nb:Nat}
theorem PH.downA(h:PH a b out na nb)(h0:0<na)(hi:na-1<a.size):PH a b (out.push a[na-1]) (na-1) nb:=by
 unfold PH at h ⊢
 rw[Zb a na h0 hi]at h
 refine List.Perm.trans ?_ h
 simp only[Array.toList_push,List.reverse_append,List.reverse_singleton,List.append_assoc,List.singleton_append]
 exact List.Perm.append_left _ List.perm_middle
theorem PH.downB(h:PH a b out na nb)(h0:0<nb)(hi:nb-1<b.size):PH a b (out.push b[nb-1]) na (nb-1):=by
 unfold PH at h ⊢
 rw[Zb b nb h0 hi]at h
 simpa using h
theorem PH.takeA(h:PH a b out na nb){k:Nat}(hk:k≤na):PH a b (out++(a.extract k na).reverse) k nb:=by
 unfold PH at h ⊢
 rw[US a k na hk]at h
 refine List.Perm.trans ?_ h
 simp only[Array.toList_append,Array.toList_reverse,List.reverse_append,List.reverse_reverse,List.append_assoc]
 refine List.Perm.append_left _ ?_
 rw[← List.append_assoc,← List.append_assoc]
 exact List.Perm.append_right _ List.perm_append_comm
theorem PH.takeB(h:PH a b out na nb){k:Nat}(hk:k≤nb):PH a b (out++(b.extract k nb).reverse) na k:=by
 unfold PH at h ⊢
 rw[US b k nb hk]at h
 simpa using h
theorem PH.done(h:PH a b out na nb):(a.extract 0 na++b.extract 0 nb++out.reverse).Perm (a++b):=by
 unfold PH at h
 rw[Array.perm_iff_toList_perm]
 simp only[Array.toList_append,YQ,Array.toList_reverse]
 exact h
theorem PH.first(h:PH a b out na nb):(b.extract 0 nb++a.extract 0 na++out.reverse).Perm (a++b):=by
 unfold PH at h
 rw[Array.perm_iff_toList_perm]
 simp only[Array.toList_append,YQ,Array.toList_reverse]
 exact(List.Perm.append_right _ List.perm_append_comm).trans h
end
theorem wpS_set{M:Model}{σ:Type}{x:σ}{Q:PUnit→σ→Prop}{st:σ}(h:Q ⟨⟩ x):wpS M A E s (set x:StateT σ Sem PUnit) Q st:=by
 unfold wpS
 rw[StateT.run_set]
 exact wpAny_pure ⟨rfl,h⟩
def Chain:List (Nat×Nat×Nat)→Nat→Nat→Prop
 | [],b,e=>b=e
 | r::rest,b,e=>r.1=b∧1≤r.2.1∧Chain rest (b + r.2.1) e
theorem Chain.le:∀{l:List (Nat×Nat×Nat)}{b e:Nat},Chain l b e→b≤e
 | [],_,_,h=>Nat.le_of_eq h
 | _::_,_,_,h=>Nat.le_trans (Nat.le_add_right _ _) h.2.2.le
theorem Chain.merge:∀{l:List (Nat×Nat×Nat)}{b e i:Nat}{x y:Nat×Nat×Nat},Chain l b e→l[i]?=some x→l[i+1]?=some y →
  y.1=x.1+x.2.1∧1≤x.2.1∧1≤y.2.1∧y.1+y.2.1≤e∧Chain ((l.set i (x.1,x.2.1+y.2.1,x.2.2)).eraseIdx (i+1)) b e
 | [],_,_,_,_,_,_,h,_=>by simp at h
 | r::rest,b,e,0,x,y,h,h1,h2=>by
  obtain rfl:r=x:=by simpa using h1
  cases rest with
  | nil=>simp at h2
  | cons r2 rest =>
   obtain rfl:r2=y:=by simpa using h2
   have e1:r.1=b:=h.1
   have n1:1≤r.2.1:=h.2.1
   have e2:r2.1=b+r.2.1:=h.2.2.1
   have n2:1≤r2.2.1:=h.2.2.2.1
   have c:Chain rest (b+r.2.1+r2.2.1) e:=h.2.2.2.2
   have:=c.le
   refine⟨by omega,n1,n2,by omega,?_⟩
   show Chain ((r.1,r.2.1+r2.2.1,r.2.2)::rest) b e
   refine⟨e1,Nat.le_trans n1 (Nat.le_add_right _ _),?_⟩
   show Chain rest (b+(r.2.1+r2.2.1)) e
   rw[← Nat.add_assoc]
   exact c
 | r::rest,b,e,i + 1,x,y,h,h1,h2=>by
  obtain⟨e1,n1,c⟩:=h
  obtain⟨g1,g2,g3,g4,g5⟩:=Chain.merge (i:=i) c (by simpa using h1) (by simpa using h2)
  refine⟨g1,g2,g3,g4,?_⟩
  show Chain (r::(rest.set i _).eraseIdx (i+1)) b e
  exact⟨e1,n1,g5⟩
theorem Chain.snoc:∀{l:List (Nat×Nat×Nat)}{b e n p:Nat},Chain l b e→1≤n→Chain (l++[(e,n,p)]) b (e+n)
 | [],_,_,_,_,h,hn=>⟨h.symm,hn,by show _ + _=_; rw [h]⟩
 | _::_,_,_,_,_,h,hn=>⟨h.1,h.2.1,h.2.2.snoc hn⟩
theorem Chain.mod:∀{l:List (Nat×Nat×Nat)}{b e:Nat}(i pw:Nat),Chain l b e→Chain (l.modify i fun x=>(x.1,x.2.1,pw)) b e
 | [],_,_,i,_,h=>by cases i <;> exact h
 | _::_,_,_,0,_,h=>h
 | _::_,_,_,i + 1,pw,h=>⟨h.1,h.2.1,h.2.2.mod i pw⟩
theorem put_all(sa:Nat):∀(l:List Keyed)(arr:Array Keyed)(j:Nat),sa+j+l.length≤arr.size →
  ((l.zipIdx j).foldl (fun a (x:Keyed×Nat)=>a.setIfInBounds (sa+x.2) x.1) arr).toList=arr.toList.take (sa+j)++(l++arr.toList.drop (sa+j+l.length))
 | [],arr,j,h=>by simp
 | x::r,arr,j,h=>by
  rw[List.length_cons]at h
  rw[List.zipIdx_cons,List.foldl_cons,put_all sa r _ (j+1) (by rw[Array.size_setIfInBounds];omega)]
  have hl:sa+j<arr.toList.length:=by rw[Array.length_toList];omega
  rw[Array.toList_setIfInBounds,List.length_cons]
  have e1:sa+(j+1)=sa+j+1:=by omega
  rw[e1,List.take_set,List.drop_set_of_lt (by omega),List.take_add_one,List.getElem?_eq_getElem hl]
  have e2:sa+j+1+r.length=sa+j+(r.length+1):=by omega
  rw[e2]
  have hlen:(arr.toList.take (sa+j)).length=sa+j:=by rw[List.length_take];omega
  rw[List.set_append_right _ _ (by rw[hlen];exact Nat.le_refl _),hlen]
  simp
theorem ite_lt{c:Prop}[Decidable c]{x y n:Nat}(h1:x+1<n)(h2:y+1<n):(if c then x else y)+1<n:=by
 split
 ·exact h1
 ·exact h2
end
end Tim
namespace L2
open PySem PySem.Calls PySem.Spec PyProof.Rows
section
variable{prog:Program}{w:World}{A:Around}{E:Value→Shared→Prop}{s:Shared}
theorem sort_list{a:Addr}{vs:List Value}{n:Nat}{P:PySem.Fin→Shared→Prop}{Out:List Value→Prop}(ho:s.heap.get? a=some (seqObj "list" vs.toArray n))(hz:vs.length≤1000000)
  (h1:vs.length<2→Out vs) (hlen:∀o,Out o→o.length=vs.length)
  (hrun:2≤vs.length→∀ t:Shared,(∀ b o,b≠a→s.heap.get? b=some o→t.heap.get? b=some o)→wpAny (model prog w) A (keyKind' vs.toArray) (fun κ t'=>t'=t ∧
   wpAny (model prog w) A ((sortRuns').run (SortSt.mk' κ (vs.toArray.zip vs.toArray) #[] 7 none)) (fun r t2=>t2=t∧failedOf r.2=none∧Out ((arrOf r.2).map (·.2)).toList) (fun _ _=>False) t) (fun _ _=>False) t)
  (q:∀out:Array Value,Out out.toList→P (.done (.ret .none)) { s with heap:=sortedHeap s.heap a vs out }):wpAny (model prog w) A (Builtin.«list.sort» ⟨[.ref a],[]⟩) P E s:=by
 have sl:(1000000:Nat)<sizeLine:=by decide
 have hza:vs.toArray.size≤sizeLine:=by rw[List.size_toArray];omega
 have lta:a<s.heap.objs.size:=Heap.lt_size ho
 rw[list_sort_plain]
 refine wpAny_bind (listItems_at ho rfl ?_)
 refine wpAny_bind (listUpdate_at ho rfl ?_ hza (Nat.zero_le _))
 obtain⟨e1,ho1⟩:∃e1,(s.heap.update a (Obj.mapSeq fun _=>(#[]:Array Value))).get? a=some (seqObj "list" #[] e1):=⟨_,get?_update_seq ho fun _=>#[]⟩
 refine wpAny_bind (seqEpoch_at ho1 rfl ?_)
 refine wpAny_bind (wpAny_newTuple ?_ (by show vs.length≤sizeLine;omega))
 refine wpAny_bind (wpAny_newList ?_ (Nat.zero_le _))
 refine wpAny_holding ?_
 show wpAny (model prog w) A _ P E { s with heap:=((s.heap.update a (Obj.mapSeq fun _=>(#[]:Array Value))).push (seqObj "tuple" vs.toArray 0)).push (seqObj "list" #[] 0) }
 have ho6:(((s.heap.update a (Obj.mapSeq fun _=>(#[]:Array Value))).push (seqObj "tuple" vs.toArray 0)).push (seqObj "list" #[] 0)).get? a=some (seqObj "list" #[] e1):=Heap.get?_push_of_some _ (Heap.get?_push_of_some _ ho1)
 have kp:∀b o,b≠a→s.heap.get? b=some o→(((s.heap.update a (Obj.mapSeq fun _=>(#[]:Array Value))).push (seqObj "tuple" vs.toArray 0)).push (seqObj "list" #[] 0)).get? b=some o:=fun b o hb e =>
  Heap.get?_push_of_some _ (Heap.get?_push_of_some _ ((Heap.SameBut.update s.heap a (Obj.mapSeq fun _=>(#[]:Array Value))).extBut b o hb e))
 dsimp only
 by_cases h2:vs.toArray.size<2
 ·rw [if_pos h2,if_pos h2]
  refine wpAny_bind (wpAny_pure ?_)
  rw[StateT.run_pure]
  refine wpAny_bind (wpAny_pure ?_)
  dsimp only
  have eo:Array.map (·.2) (vs.toArray.zip vs.toArray)=vs.toArray:=by
   apply Array.toList_inj.mp
   simp[List.map_snd_zip]
  have h2':vs.length<2:=by rw[List.size_toArray]at h2;exact h2
  refine wpAny_bind (seqEpoch_at ho6 rfl ?_)
  refine wpAny_bind (listUpdate_at ho6 rfl ?_ (Nat.zero_le _) (by show(Array.map (·.2) (vs.toArray.zip vs.toArray)).size≤sizeLine+1;rw[eo];omega))
  simp only[bne_self_eq_false,Bool.false_eq_true,if_false]
  refine wpAny_pure ?_
  show P _ { s with heap:=sortedHeap s.heap a vs (Array.map (·.2) (vs.toArray.zip vs.toArray)) }
  exact q _ (by rw[eo];exact h1 h2')
 ·rw [if_neg h2,if_neg h2]
  have h2':2≤vs.length:=by rw[List.size_toArray]at h2;omega
  refine wpAny_bind (wpAny_mono (hrun h2' { s with heap:=((s.heap.update a (Obj.mapSeq fun _=>(#[]:Array Value))).push (seqObj "tuple" vs.toArray 0)).push (seqObj "list" #[] 0) } kp) (fun κ t' hk=>?_) fun _ _ z=>z.elim)
  obtain⟨rfl,hk⟩:=hk
  refine wpAny_bind (wpAny_mono hk (fun r t2 hr=>?_) fun _ _ z=>z.elim)
  obtain⟨⟨⟩,st⟩:=r
  obtain⟨rfl,hf,hout⟩:=hr
  dsimp only
  have ol:((arrOf st).map (·.2)).size=vs.length:=by
   have:=hlen _ hout
   rw[Array.length_toList]at this
   exact this
  refine wpAny_bind (seqEpoch_at ho6 rfl ?_)
  refine wpAny_bind (listUpdate_at ho6 rfl ?_ (Nat.zero_le _) (by show((arrOf st).map (·.2)).size≤sizeLine+1;rw[ol];omega))
  have hf:failedOf st=none:=hf
  rw[hf]
  simp only[bne_self_eq_false,Bool.false_eq_true,if_false]
  exact wpAny_pure (q _ hout)
end
def IsPr(h:Heap)(v:Value)(q:Int×Int):Prop:=∃a o t u n,v=.ref a∧h.get? a=some o∧o.cls=.type "tuple"∧o.data=.seq #[.int q.1 t,.int q.2 u] n
section
variable{prog:Program}{w:World}{A:Around}{E:Value→Shared→Prop}{s:Shared}
theorem pr_tups:∀{vs:List Value}{ps:List (Int×Int)},Paired (IsPr s.heap) vs ps→∃fs,PySem.W.KatTups s.heap vs fs∧fs.length=vs.length∧∀v∈fs,∃i t,v=Value.int i t
 | _,_,.nil=>⟨[],PySem.W.KatTups.nil,rfl,fun v hv=>by cases hv⟩
 | _,_,.cons h r=>by
  obtain⟨fs,k,l,z⟩:=pr_tups r
  obtain⟨a,o,t,u,n,rfl,h1,h2,h3⟩:=h
  refine⟨_,PySem.W.KatTups.cons h1 h2 h3 rfl k,by simp[l],fun v hv=>?_⟩
  rcases List.mem_cons.mp hv with rfl|hv
  ·exact ⟨_,_,rfl⟩
  ·exact z v hv
def Reord(vs o:List Value):Prop:=∃p:List Nat,p.Perm (List.range vs.length)∧o=p.map fun i=>vs.getD i Value.none
theorem Reord.refl (vs:List Value):Reord vs vs:=⟨List.range vs.length,.refl _,by
 apply List.ext_getElem
 ·simp
 ·intro i h1 h2
  simp [h1]⟩
theorem QS{α β:Type}{f:α→β}:∀{o v:List β},o.Perm v→∀l:List α,v=l.map f→∃l':List α,l'.Perm l∧o=l'.map f:=by
 intro o v h
 induction h with
 | nil =>
  intro l e
  exact⟨l,.refl _,e⟩
 | cons x _ ih =>
  intro l e
  cases l with
  | nil=>cases e
  | cons y r =>
   rw[List.map_cons]at e
   obtain⟨e1,e2⟩:=List.cons.inj e
   obtain⟨l',p,q⟩:=ih r e2
   exact⟨y::l',.cons y p,by rw[List.map_cons,← e1,← q]⟩
 | swap x y t =>
  intro l e
  match l,e with
  | [],e=>cases e
  | [_],e=>cases (List.cons.inj e).2
  | a::b::r,e =>
   rw[List.map_cons,List.map_cons]at e
   obtain⟨e1,e2⟩:=List.cons.inj e
   obtain⟨e3,e4⟩:=List.cons.inj e2
   exact⟨b::a::r,.swap a b r,by rw[List.map_cons,List.map_cons,← e1,← e3,← e4]⟩
 | trans _ _ ih1 ih2 =>
  intro l e
  obtain⟨l1,p1,e1⟩:=ih2 l e
  obtain⟨l2,p2,e2⟩:=ih1 l1 e1
  exact⟨l2,p2.trans p1,e2⟩
theorem Reord.of_perm{vs o:List Value}(h:o.Perm vs):Reord vs o:=by
 obtain⟨_,_,e⟩:=Reord.refl vs
 obtain ⟨p,hp,eo⟩:=QS (f:=fun i=>vs.getD i Value.none) h (List.range vs.length) (by
  apply List.ext_getElem
  ·simp
  ·intro i h1 h2
   simp [h1])
 exact⟨p,hp,eo⟩
end
theorem ObjOk.there{P:Program}{w:World}{H:Hp}{h:Heap}{a:Addr}{o:HO}(x:ObjOk P w H h a o):∃ob,h.get? a=some ob:=by
 cases o with
 | lst xs=>obtain ⟨_,_,_,_,e⟩:=x; exact ⟨_,e⟩
 | tup xs=>obtain ⟨_,_,_,ob,e,_⟩:=x; exact ⟨_,e⟩
 | dK kvs=>obtain ⟨_,_,_,_,ob,_,_,e,_⟩:=x; exact ⟨_,e⟩
 | dT kvs=>obtain ⟨_,_,_,_,ob,_,_,e,_⟩:=x; exact ⟨_,e⟩
 | set S n=>obtain ⟨ob,_,_,_,e,_⟩:=x; exact ⟨_,e⟩
 | ins C dx fs=>obtain ⟨_,_,_,e,_⟩:=x; exact ⟨_,e⟩
 | own y=>exact x
 | xd fs=>obtain ⟨_,⟨_,_,_,e,_⟩,_⟩:=x; exact ⟨_,e⟩
 | rng lo hi=>obtain ⟨_,_,_,e⟩:=x; exact ⟨_,e⟩
 | frz ob u=>exact ⟨_,x.1⟩
 | tbl ps=>exact ⟨_,x⟩
 | met f y=>exact ⟨_,x⟩
 | ext φ=>exact x.2.1
theorem Paired.of_get{α β:Type}{F:α→β→Prop}:∀{l:List α}{r:List β},l.length=r.length→(∀(j:Nat)(x:α)(y:β),l[j]?=some x→r[j]?=some y→F x y)→Paired F l r
 | [],[],_,_=>.nil
 | x::l,y::r,h,f=>.cons (f 0 x y rfl rfl) (Paired.of_get (by simpa using h) fun j a b e1 e2=>f (j + 1) a b (by simpa using e1) (by simpa using e2))
 | [],_::_,h,_=>by cases h
 | _::_,[],h,_=>by cases h
theorem Paired.of_map{α β γ:Type}{F:α→β→Prop}{f:γ→α}{g:γ→β}:∀{l:List γ},(∀c∈l,F (f c) (g c))→Paired F (l.map f) (l.map g)
 | [],_=>.nil
 | c::r,h=>.cons (h c List.mem_cons_self) (Paired.of_map fun d hd=>h d (List.mem_cons_of_mem _ hd))
def JD(q:Int×Int):List Key:=[Sum.inl q.1,Sum.inl q.2]
section
variable{X:Cx}
theorem Inv.newFp{pins:List (Addr×Obj)}{σ:St}{H:Hp}{s:Shared}(I:Inv X pins σ H s){D:Addr}(hD:∀b o,s.heap.get? b=some o→b<D):FpOk X pins H D:=by
 obtain⟨m,⟨oL,_,_,eL,_⟩,_⟩:=id I.loc
 have hL:=hD _ _ eL
 refine⟨?_,Nat.ne_of_gt hL,fun z=>?_,.inr (Nat.le_of_lt (Nat.lt_of_le_of_lt I.ok.above hL)),fun x c e z=>?_,fun p hp z=>?_⟩
 ·cases e:H D with
  | none=>rfl
  | some u =>
   obtain⟨ob,eo⟩:=(I.hok D u e).there
   exact absurd (hD _ _ eo) (Nat.lt_irrefl _)
 ·obtain ⟨_,o,ho,_⟩:=I.ok.funs.mem z
  obtain⟨o',ho'⟩:=I.base.there D o ho fun q=>I.ok.exfs D q z
  exact absurd (hD _ _ ho') (Nat.lt_irrefl _)
 ·obtain ⟨v,o,ho,_⟩:=I.cell x c e
  exact absurd (hD _ _ ho) (by rw[z];exact Nat.lt_irrefl _)
 ·exact absurd (hD _ _ (I.pin p hp).1) (by rw [z]; exact Nat.lt_irrefl _)
end
end L2
namespace L2
open PySem PySem.Calls PySem.Spec PyProof.Rows
section
variable{X:Cx}
theorem UD:Yo X (.builtin "sorted") (fun xs H Q=>∃ (a:Addr) (ns:List Int),xs=[.ref a]∧SqL X.K H a (ns.map V.int)∧ns.length < 64 ∧
  ∀ (D:Addr) (ns':List Int) (H':Hp),Same H H'→H' D=some (.lst (ns'.map V.int))→ns'.Perm ns→ns'.Pairwise (·≤·)→Q (.ref D) H'):=by
 intro pins s σ H xs us Q I r h
 obtain⟨a,ns,rfl,hq,hl,q⟩:=h
 obtain⟨u,rfl,ru⟩:=Yu r
 cases ru
 obtain⟨its,rv,pl,hz⟩:=I.list hq
 have li:its.length=ns.length:=by rw[← rv.length,List.length_map]
 refine sorted_ints pl.isList (ZX rv) (by omega) fun out ns' h1 h2 h3=>?_
 have I1:Inv X pins σ H { s with heap:=sortedAll s.heap its out }:=I.kept (t':=s.toks) fun b o e=>sortedAll_old e
 obtain⟨c,hc⟩:=sortedAll_at s.heap its out
 have fp:FpOk X pins H (s.heap.objs.size+1):=I.newFp fun b o e=>Nat.lt_succ_of_lt (Heap.lt_size e)
 refine⟨.ref (s.heap.objs.size+1),_,I1.adopt (o:=.lst (ns'.map V.int)) fp ⟨?_,out.toList,c,ZD h1,by simpa using hc⟩,rfl,q _ ns' _ (Same.upd fp.1) Jb h2 h3⟩
 rw[List.length_map,h2.length_eq]
 exact Nat.le_of_lt (Jj (by omega))
end
end L2
namespace L2
open PySem PySem.Spec PyProof.Rows PySem.AutoSeq1
theorem enum_new_tup(l:Addr)(xs:Array Value) :
  Meets (Builtin.«enumerate.__new__» ⟨[.type "enumerate",.ref l],[]⟩) (fun _ R s=>s.heap.IsTuple l xs ∧
   R (.ok (.ret (.ref (zpa s.heap l).objs.size))) { s with heap:=(zpa s.heap l).push { cls:=.type "enumerate",data:=.fields #[.none,.bool false,.ref s.heap.objs.size,rawInt 0,.none,.none] } }) :=
 .of_wp fun prog w A R s h=>by
  obtain⟨hp,g,d,tk,os⟩:=s;obtain⟨t1,h⟩:=h
  have f0:=sub_enumerate
  have T1:Heap.IsTuple (Shared.heap ⟨hp,g,d,tk,os⟩) l xs:=t1
  obtain⟨ob,hl,hcl,nn,hdl⟩:=id t1
  wp_walk using wpAny_loadPart' hl
  refine wpAny_stack_any fun st=>wpAny_pure ?_
  split
  ·rename_i c _ _ _ _ _
   cases (c==Value.type "enumerate")
   ·wp_walk using wpAny_loadPart' hl,wpAny_pyIter_tuple T1
    exact⟨_,rfl,h⟩
   ·wp_walk using wpAny_loadPart' hl,wpAny_pyIter_tuple T1
    exact⟨_,rfl,h⟩
  ·wp_walk using wpAny_loadPart' hl,wpAny_pyIter_tuple T1
   exact⟨_,rfl,h⟩
theorem call_enum_tup{prog:Program}{w:World}{A:Around}{E:Value→Shared→Prop}{s:Shared}{l:Addr}{xs:Array Value}{Q:Value→Shared→Prop}(h1:s.heap.IsTuple l xs)
  (q:∀h',IsEnum h' (s.heap.objs.size+1) s.heap.objs.size 0 .none→h'.IsTupleIter s.heap.objs.size l 0→(∀c o,s.heap.get? c=some o→h'.get? c=some o)→Q (.ref (s.heap.objs.size+1)) { s with heap:=h' }) :
  wpAny (model prog w) A (call (.type "enumerate") [.ref l]) Q E s:=by
 refine callType_new F.called_enumerate (by decide) (F.typeCall_enumerate_1 _) (F.newCall_enumerate_1 _) (fun obj=>F.args_object_init_2 obj _) F.entry_enumerate_new (enum_new_tup l xs) ⟨h1,?_⟩
 have hz:(zpa s.heap l).objs.size=s.heap.objs.size+1:=Heap.size_push ..
 show _∧_
 rw[hz]
 have he:IsEnum ((zpa s.heap l).push { cls:=.type "enumerate",data:=.fields #[.none,.bool false,.ref s.heap.objs.size,rawInt 0,.none,.none] }) (s.heap.objs.size+1) s.heap.objs.size 0 .none:=by
  have:=Heap.get?_push_size (zpa s.heap l) (o:={ cls:=.type "enumerate",data:=.fields #[.none,.bool false,.ref s.heap.objs.size,rawInt 0,.none,.none] }) rfl
  rw[hz]at this
  exact this
 exact⟨⟨_,he,rfl⟩,q _ he ⟨_,Heap.get?_push_of_some _ (Heap.get?_push_size _ rfl),rfl,rfl⟩ fun b o x=>Heap.get?_push_of_some _ (Heap.get?_push_of_some _ x)⟩
def Ite (a:Addr):It:=⟨fun i H=>∃ xs,H a=some (.tup xs)∧i < xs.length,
 fun i H x H'=>∃p v,x=.ref p∧H p=none∧H'=upd H p (.tup [.int i,v])∧∀xs,H a=some (.tup xs)→xs[i]?=some v,
 fun i H=>∃ xs,H a=some (.tup xs)∧i=xs.length⟩
theorem turn_enum{P:Program}{w:World}{K:PySem.W.Frag}{es:List Expr}{kt:Nat}{tp:Pos}(a e it:Addr)(d1:e≠it) :
  Turn P w K (.Tuple es kt tp) (Ite a) [e,it] e (fun i h=>(∃old,IsEnum h e it i old)∧h.IsTupleIter it a i) where
 mem:=by simp
 obj:=fun i h st c hc=>by
  obtain⟨⟨old,s1⟩,⟨o2,s2,_,q2⟩⟩:=st
  simp only[List.mem_cons,List.not_mem_nil,or_false]at hc
  rcases hc with rfl|rfl
  ·exact ⟨_,s1,fun v=>by intro q; cases q⟩
  ·exact ⟨_,s2,fun v=>by intro q; rw [q2] at q; cases q⟩
 keep:=fun i h h' st kp=>by
  obtain⟨⟨old,s1⟩,⟨o2,s2,r2⟩⟩:=st
  exact⟨⟨old,kp e (by simp) _ s1⟩,⟨o2,kp it (by simp) _ s2,r2⟩⟩
 item:=by
  intro X hP hw hK hc i pins s σ H E I hf st hg
  subst hP hw hK
  obtain⟨xs,ha,l1⟩:=hg
  obtain⟨⟨old,s1⟩,s2⟩:=st
  have nf:∀{c:Addr}{o:HO},H c=some o→∀b∈[e,it],c≠b:=fun hcc b hb q=>by rw[q,(hf b hb).1]at hcc;cases hcc
  obtain⟨its,r1,t1,_⟩:=I.tuple (SqT.of ha)
  have hh:X.A.in1.handled=none:=I.ok.hd hc
  have e1:its.toArray.size=xs.length:=by rw[List.size_toArray,← r1.length]
  have nef:e∉[it,a]:=by
   simp only[List.mem_cons,List.not_mem_nil,or_false,not_or]
   exact⟨d1,(nf ha e (by simp)).symm⟩
  refine wpAny_pyNext_enum_itemD (Yd hh it a (nf ha it (by simp)) its.toArray) s1 ⟨s2,t1⟩ (by omega) d1 nef fun x h' tk px z1 z2 z3 z4 kp=>⟨_,rfl,?_⟩
  have px:its[i]?=some x:=by simpa using px
  obtain⟨vx,hx⟩:∃v,xs[i]?=some v:=⟨xs[i],by simp[l1]⟩
  obtain⟨x',q1,rx⟩:=r1.get hx
  rw[px]at q1;cases q1
  refine wpAny_letOwnedTupleGo_enum z1 fun g2 zz hs=>?_
  have fr:H s.heap.objs.size=none:=I.hok.fresh (Nat.le_refl _)
  have I1:Inv X pins σ H { s with heap:=g2,toks:=tk + 1 }:=I.turnedL (l:=[e,it]) (t':=tk + 1) (fun c o hc e=>by
   simp only[List.mem_cons,List.not_mem_nil,or_false,not_or]at hc
   exact hs.extBut _ _ hc.1 (kp c o hc.1 hc.2 e)) fun c hc=>hf c hc
  have fp:=I.fpOk (H':=H) (Nat.le_refl _) fr
  have nz:∀b∈[e,it],b≠s.heap.objs.size:=fun b hb q=>by
   obtain⟨o,ho⟩:∃o,s.heap.get? b=some o:=by
    obtain⟨o2,s2,_⟩:=s2
    simp only[List.mem_cons,List.not_mem_nil,or_false]at hb
    rcases hb with rfl|rfl
    ·exact ⟨_,s1⟩
    ·exact ⟨_,s2⟩
   exact absurd (Heap.lt_size ho) (by rw[q];exact Nat.lt_irrefl _)
  have at2:g2.get? s.heap.objs.size=some { cls:=.type "tuple",data:=.seq #[.int i tk,x] }:=hs.extBut _ _ (nz e (by simp)).symm z3
  refine ⟨.ref s.heap.objs.size,upd H s.heap.objs.size (.tup [.int i,vx]),I1.adopt fp ⟨?_,[.int i tk,x],.cons ⟨_,rfl⟩ (.cons rx .nil),⟨_,at2,rfl,_,rfl⟩⟩,rfl,⟨_,vx,rfl,fr,rfl,fun xs' q1=>?_⟩,
   ⟨⟨_,zz⟩,z2.1.extBut hs.extBut d1.symm⟩,fun c hc=>?_⟩
  ·show 2≤sizeLine
   decide
  ·rw [ha] at q1; cases q1
   exact hx
  ·rw [Jh (nz c hc)]
   exact(hf c hc).1
 done:=by
  intro X hP hw hK hc i pins s σ H E I hf st hg
  subst hP hw hK
  obtain⟨xs,ha,hl⟩:=hg
  obtain⟨⟨old,s1⟩,s2⟩:=st
  have nf:∀{c:Addr}{o:HO},H c=some o→∀b∈[e,it],c≠b:=fun hcc b hb q=>by rw[q,(hf b hb).1]at hcc;cases hcc
  obtain⟨its,r1,t1,_⟩:=I.tuple (SqT.of ha)
  have hh:X.A.in1.handled=none:=I.ok.hd hc
  have e1:its.toArray.size=i:=by rw[List.size_toArray,← r1.length,hl]
  subst e1
  refine wpAny_pyNext_enum_endD (Yd hh it a (nf ha it (by simp)) its.toArray) s1 ⟨s2,t1⟩ fun h' eb=>⟨rfl,?_⟩
  exact I.turnedL (l:=[e,it]) (t':=s.toks) (fun c o hc e=>by
   simp only[List.mem_cons,List.not_mem_nil,or_false,not_or]at hc
   exact eb c o hc.2 e) fun c hc=>hf c hc
 self:=fun _ _ _ _ _ st h=>by
  obtain⟨⟨old,s1⟩,_⟩:=st
  exact wpAny_pyIter_enum s1 h
section
variable{X:Cx}{es:List Expr}{kt:Nat}{tp:Pos}
theorem boot_enum:bootBuiltins "enumerate"=some (.type "enumerate"):=by decide +kernel
def iEnum(ta:TA):TI:=fun σ H R=>ta σ H fun vs H1=>∃a xs,vs=[.ref a]∧H1 a=some (.tup xs)∧R (Ite a) H1
theorem pi_enum{a:Expr}{ta:TA}{p pos:Pos}(hg:Gl X "enumerate")(hm:X.mg "enumerate"=none)(ha:PA X [a] ta)(hs:starEach [a] X.env=[(false,eval a X.env)]:=by rfl) :
  PI X (.Tuple es kt tp) (.Call (.Name "enumerate" p) [a] [] pos) (iEnum ta):=by
 intro pins s σ H R I h
 refine Call_ (ZB I hg hm boot_enum (PyProof.Rows.callWith_type1 (thn (ha pos pins s σ H _ I h) fun us s1 h1=>?_) hs rfl))
 obtain⟨vs,H1,I1,r1,a,xs,e,ha,q⟩:=h1
 subst e
 obtain⟨u,rfl,ru⟩:=Yu r1
 cases ru
 obtain⟨its,_,t1,_⟩:=I1.tuple (SqT.of ha)
 refine call_enum_tup t1 fun h' z1 z2 kp=>wpAny_pyIter_enum z1 ?_
 have I2:Inv X pins σ H1 { s1 with heap:=h' }:=I1.kept (t':=s1.toks) kp
 have fr:∀k:Nat,H1 (s1.heap.objs.size+k)=none:=fun k=>I1.hok.fresh (Nat.le_add_right _ _)
 refine⟨s1.heap.objs.size+1,_,_,Ite a,H1,rfl,I2,turn_enum a (s1.heap.objs.size+1) s1.heap.objs.size (Nat.succ_ne_self _),⟨⟨_,z1⟩,z2⟩,fun c hc=>?_,q⟩
 simp only[List.mem_cons,List.not_mem_nil,or_false]at hc
 rcases hc with rfl|rfl
 ·exact I1.fpOk (Nat.le_add_right _ _) (fr 1)
 ·exact I1.fpOk (Nat.le_refl _) (fr 0)
end
section
variable{K:PySem.W.Frag}{g:TG}{tc:TT}{te:TE}{σ:St}{H:Hp}{R:List V→Hp→Prop}
end
end L2
namespace L2
open PySem PySem.Calls PySem.Spec PyProof.Rows
def eqVs:List V→List V→Bool
 | [],[]=>true
 | x::xs,y::ys=>eqV x y && eqVs xs ys
 | _,_=>false
theorem ZN:∀(a b:List Int),eqVs (a.map V.int) (b.map V.int)=decide (a=b)
 | [],[]=>by simp [eqVs]
 | [],_::_=>by simp [eqVs]
 | _::_,[]=>by simp [eqVs]
 | x::r,y::q=>by
  show(eqV (.int x) (.int y)&&eqVs (r.map V.int) (q.map V.int))=_
  rw[ZN r q,Bool.eq_iff_iff]
  simp[eqV]
theorem QK:∀{a b:List V},eqVs a b=true→a.length=b.length
 | [],[],_=>rfl
 | [],_::_,h=>by cases h
 | _::_,[],h=>by cases h
 | x::r,y::q,h=>by
  have h:(eqV x y&&eqVs r q)=true:=h
  rw[Bool.and_eq_true]at h
  simp[QK h.2]
def eqN(a b:List V)(j:Nat):Bool:=match a[j]?,b[j]? with
 | some x,some y=>eqV x y
 | _,_=>false
theorem QL:∀{a b:List V},a.length=b.length→(List.range a.length).all (eqN a b)=eqVs a b
 | [],[],_=>rfl
 | [],_::_,h=>by cases h
 | _::_,[],h=>by cases h
 | x::r,y::q,h=>by
  have ih:=QL (a:=r) (b:=q) (by simpa using h)
  rw[List.length_cons,List.range_succ_eq_map,List.all_cons,List.all_map]
  show(eqV x y&&(List.range r.length).all (fun j=>eqN (x::r) (y::q) (j+1)))=(eqV x y&&eqVs r q)
  rw[← ih]
  congr 1
theorem QJ(a b:List V):((List.range (min a.length b.length)).all (eqN a b)&&a.length==b.length)=eqVs a b:=by
 by_cases h:a.length=b.length
 ·rw [← QL h,← h,Nat.min_self]
  simp
 ·have e1:(a.length == b.length)=false:=by simpa using h
  have e2:eqVs a b=false:=by
   rw[← Bool.not_eq_true]
   exact fun z=>h (QK z)
  rw[e1,e2,Bool.and_false]
section
variable{X:Cx}
theorem eqN_at{A:Around}{s:Shared}{xs ys:List V}{us vs:List Value}(r1:Vals xs us)(r2:Vals ys vs)(f1:xs.all ZY=true)(f2:ys.all ZY=true)(j:Nat)(h1:j<us.toArray.size)(h2:j<vs.toArray.size) :
  SeqAt.EqAt A s us.toArray[j] vs.toArray[j] (eqN xs ys j):=by
 have h1':j<us.length:=by simpa using h1
 have h2':j<vs.length:=by simpa using h2
 have k1:j<xs.length:=by rw[r1.length];exact h1'
 have k2:j<ys.length:=by rw[r2.length];exact h2'
 obtain⟨u,e1,q1⟩:=r1.get (i:=j) (x:=xs[j]) (by simp[k1])
 obtain⟨v,e2,q2⟩:=r2.get (i:=j) (x:=ys[j]) (by simp[k2])
 have e1:us[j]=u:=by simpa [h1']using e1
 have e2:vs[j]=v:=by simpa [h2']using e2
 have en:eqN xs ys j=eqV xs[j] ys[j]:=by
  unfold eqN
  rw[List.getElem?_eq_getElem k1,List.getElem?_eq_getElem k2]
 rw[en,List.getElem_toArray,List.getElem_toArray,e1,e2]
 exact eqAt_V q1 q2 (List.all_eq_true.mp f1 _ (List.getElem_mem k1)) (List.all_eq_true.mp f2 _ (List.getElem_mem k2))
def rEqT(neg:Bool):R2:=fun x y H Q=>∃a b xs ys,x=.ref a∧y=.ref b∧H a=some (.tup xs)∧H b=some (.tup ys)∧xs.all ZY=true∧ys.all ZY=true∧Q (.bl (if neg then !eqVs xs ys else eqVs xs ys)) H
theorem op_neT(hu:X.A.units<cLine):OpR X (compareOp .NotEq) (rEqT true):=by
 intro pins s σ H x y v u Q I rx ry h
 obtain⟨a,b,xs,ys,rfl,rfl,ha,hb,f1,f2,q⟩:=h
 cases rx
 cases ry
 obtain⟨its,r1,p1,_⟩:=I.tuple (SqT.of ha)
 obtain⟨its2,r2,p2,_⟩:=I.tuple (SqT.of hb)
 refine SeqAt.RcNeAt.tuples (e:=eqN xs ys) p1 p2 hu (fun j h1 h2=>eqN_at r1 r2 f1 f2 j h1 h2) _ _ _ _ ⟨.bl _,H,I,rfl,?_⟩
 rw[List.size_toArray,List.size_toArray,← r1.length,← r2.length,QJ]
 exact q
def rEqL(K:PySem.W.Frag)(neg:Bool):R2:=fun x y H Q=>∃a b xs ys,x=.ref a∧y=.ref b∧SqL K H a xs∧SqL K H b ys∧xs.all ZY=true∧ys.all ZY=true∧Q (.bl (if neg then !eqVs xs ys else eqVs xs ys)) H
theorem op_neL(hu:X.A.units<cLine):OpR X (compareOp .NotEq) (rEqL X.K true):=by
 intro pins s σ H x y v u Q I rx ry h
 obtain⟨a,b,xs,ys,rfl,rfl,ha,hb,f1,f2,q⟩:=h
 cases rx
 cases ry
 obtain⟨its,r1,p1,_⟩:=I.list ha
 obtain⟨its2,r2,p2,_⟩:=I.list hb
 by_cases hl:xs.length=ys.length
 ·refine SeqAt.RcNeAt.lists (e:=eqN xs ys) p1.isList p2.isList (by rw [List.size_toArray,List.size_toArray,← r1.length,← r2.length]; exact hl) hu (fun j h1 h2=>eqN_at r1 r2 f1 f2 j h1 h2) _ _ _ _ ⟨.bl _,H,I,rfl,?_⟩
  rw[List.size_toArray,← r1.length,QL hl]
  exact q
 ·have e2:eqVs xs ys=false:=by
   rw[← Bool.not_eq_true]
   exact fun z=>hl (QK z)
  rw[e2]at q
  exact SeqAt.RcNeAt.lists_lengths p1.isList p2.isList (by rw[List.size_toArray,List.size_toArray,← r1.length,← r2.length];simpa using hl) hu _ _ _ _ ⟨.bl true,H,I,rfl,q⟩
theorem op_isnotB:OpR X (compareOp .IsNot) (fun x y H Q=>∃a b,x=.bl a∧y=.bl b∧Q (.bl (a != b)) H):=by
 intro pins s σ H x y v u Q I rx ry h
 obtain⟨a,b,rfl,rfl,q⟩:=h
 cases rx
 cases ry
 exact isnot_bool ⟨.bl _,H,I,rfl,q⟩
theorem call_list_prs (hc:X.calm=true):Yo X (.type "list") (fun xs H Q=>∃ (d:Addr) (kvs:List (List Key×V)) (prs:List (Int×Int)),xs=[.ref d]∧H d=some (.dT kvs)∧kvs.map (·.1)=prs.map JD∧kvs.length≤1000 ∧
  ∀ (D:Addr) (ws:List V) (H':Hp),Same H H'→H' D=some (.lst ws)→Ars H' ws prs→Q (.ref D) H'):=by
 intro pins s σ H xs us Q I r h
 obtain⟨d,kvs,prs,rfl,hd,hk,hl,q⟩:=h
 obtain⟨u,rfl,ru⟩:=Yu r
 cases ru
 obtain⟨z,hsys,xs',rel,o,es,ep,e1,e2,e3,e4,nd⟩:=(show ObjOk X.prog X.w H s.heap d (.dT kvs)from I.hok d _ hd)
 have l1:kvs.length=xs'.length:=Paired.length rel
 have l2:es.size=kvs.length:=by
  have:=congrArg List.length e4
  rw[Array.length_toList,List.length_map]at this
  omega
 have l3:prs.length=kvs.length:=by
  have:=congrArg List.length hk
  rw[List.length_map,List.length_map]at this
  exact this.symm
 have key:∀(j:Nat)(v:Value),(∃e,es[j]?=some e∧v=e.key)→∃a q,v=.ref a∧prs[j]?=some q∧H a=some (.tup [.int q.1,.int q.2]):=by
  rintro j v ⟨e,he,rfl⟩
  have he':es.toList[j]?=some e:=by simpa using he
  rw[e4,List.getElem?_map]at he'
  obtain⟨x,hx,rfl⟩:=Option.map_eq_some_iff.mp he'
  have hj:j<kvs.length:=by
   have:=(List.getElem?_eq_some_iff.mp hx).1
   omega
  obtain⟨y,hy,hy1,hy2,_⟩:=Paired.get' (i:=j) (x:=kvs[j]) rel (by simp[hj])
  rw[hx]at hy
  cases hy
  have hq:prs[j]?=some prs[j]:=by simp[l3,hj]
  have ek:(kvs.map (·.1))[j]?=(prs.map JD)[j]?:=by rw[hk]
  rw[List.getElem?_map,List.getElem?_map,hq]at ek
  have ek:kvs[j].1=JD prs[j]:=by simpa [hj]using ek
  refine⟨x.2.1,prs[j],rfl,hq,?_⟩
  rw[hy2,ek]
  rfl
 refine PySem.W.kdl_call (raw_src hsys es ep) (I.ok.hd hc) ⟨o,e1,e2,e3⟩ (by have:=Jj (n:=es.size) (by omega);omega) fun h' tk acc c kp hD hacc=>?_
 have I1:Inv X pins σ H { s with heap:=h',toks:=tk }:=I.kept kp
 have fp:FpOk X pins H s.heap.objs.size:=I.newFp fun b o e=>Heap.lt_size e
 have la:acc.toList.length=es.size:=by rw[Array.length_toList];exact hacc.1
 have pa:∀(j:Nat)(v:Value),acc.toList[j]?=some v→∃e,es[j]?=some e∧v=e.key:=fun j v e=>hacc.2 j v (by rw[← Array.getElem?_toList];exact e)
 have addr:∀i,∃a:Addr,i<es.size→acc.toList.getD i Value.none=.ref a∧H a=some (.tup [.int (prs.getD i (0,0)).1,.int (prs.getD i (0,0)).2]):=fun i=>by
  by_cases hi:i<es.size
  ·have hi':i < acc.toList.length:=by omega
   obtain⟨a,q',ea,hq,ha⟩:=key i acc.toList[i] (pa i _ (by rw[List.getElem?_eq_getElem hi']))
   refine⟨a,fun _=>⟨?_,?_⟩⟩
   ·rw [← ea,List.getD_eq_getElem?_getD,List.getElem?_eq_getElem hi']
    rfl
   ·have e:prs.getD i (0,0)=q':=by
     rw[List.getD_eq_getElem?_getD,hq]
     rfl
    rw[e]
    exact ha
  ·exact ⟨0,fun z=>absurd z hi⟩
 obtain⟨f,hf⟩:=Classical.axiomOfChoice addr
 have vals:Vals ((List.range es.size).map fun i=>V.ref (f i)) acc.toList:=by
  refine Paired.of_get (by simp[la]) fun j x y hx hy=>?_
  have hj:j<es.size:=by
   have:=(List.getElem?_eq_some_iff.mp hx).1
   simpa using this
  have ex:x=V.ref (f j):=by simpa [hj]using hx.symm
  have ey:y=Value.ref (f j):=by
   have:=(hf j hj).1
   rw[List.getD_eq_getElem?_getD,hy]at this
   exact this
  rw[ex,ey]
  rfl
 have new:ObjOk X.prog X.w (upd H s.heap.objs.size (.lst ((List.range es.size).map fun i=>V.ref (f i)))) h' s.heap.objs.size (.lst ((List.range es.size).map fun i=>V.ref (f i))):=by
  refine⟨?_,acc.toList,c,vals,by simpa using hD⟩
  rw[List.length_map,List.length_range]
  exact Nat.le_of_lt (Jj (by omega))
 refine⟨.ref s.heap.objs.size,_,I1.adopt fp new,rfl,q _ _ _ (Same.upd fp.1) Jb (Paired.of_get (by simp;omega) fun j x y hx hy=>?_)⟩
 have hj:j<es.size:=by
  have:=(List.getElem?_eq_some_iff.mp hx).1
  simpa using this
 have ex:x=V.ref (f j):=by simpa [hj]using hx.symm
 have ha:=(hf j hj).2
 rw[List.getD_eq_getElem?_getD,hy]at ha
 exact⟨f j,ex,by rw[Jh (Jg ha fp.1)];exact ha⟩
end
end L2
namespace L2
open PySem PySem.Calls PySem.Spec PyProof.Rows
section
variable{X:Cx}
end
end L2
namespace L2
open PySem PySem.Calls PySem.Spec PyProof.Rows
section
variable{prog:Program}{w:World}{A:Around}{E:Value→Shared→Prop}{s:Shared}
end
section
variable{X:Cx}
end
end L2
namespace L2
open PySem PySem.Calls PySem.Spec PyProof.Rows
section
variable{X:Cx}
def TpL(H:Hp):List V→List (List Int)→Prop:=Paired fun v ns=>∃q,v=V.ref q∧H q=some (.tup (ns.map V.int))
def rInTps(neg:Bool):R2:=fun x y H Q=>∃(p l:Addr)(ns:List Int)(ws:List V)(L:List (List Int)),x=.ref p∧y=.ref l∧H p=some (.tup (ns.map V.int))∧H l=some (.lst ws)∧TpL H ws L∧Q (.bl (if neg then !decide (ns∈L)else decide (ns∈L))) H
theorem YK(ns:List Int):(ns.map V.int).all ZY=true:=by
 rw[List.all_map]
 exact List.all_eq_true.mpr fun _ _=>rfl
theorem in_tps{pins:List (Addr×Obj)}{s:Shared}{σ:St}{H:Hp}(hu:X.A.units+1<cLine)(I:Inv X pins σ H s){p l:Addr}{ns:List Int}{ws:List V}{L:List (List Int)}(hp:H p=some (.tup (ns.map V.int)))(hl:H l=some (.lst ws))(hw:TpL H ws L) :
  ∃(its:List Value)(ev:Value→Bool),s.heap.IsList l its.toArray∧(∀y∈its.toArray,SeqAt.EqAt X.A.in1 s y (.ref p) (ev y))∧its.toArray.any ev=decide (ns∈L):=by
 obtain⟨i1,r1,p1,_⟩:=I.tuple (SqT.of hp)
 obtain⟨its2,r2,p2,_⟩:=I.list (SqL.of hl)
 classical
 have inj:∀{a b:List Int},a.map V.int=b.map V.int→a=b:=fun {a b} e=>by
  have:=ZN a b
  rw[e,ZN]at this
  have:=of_decide_eq_true (this.symm.trans (decide_eq_true rfl))
  exact this
 have pr:∀{a:Addr}{ks:List Int},H a=some (.tup (ks.map V.int))→SeqAt.EqAt X.A.in1 s (.ref a) (.ref p) (decide (ks=ns)):=by
  intro a ks hc
  by_cases e:a=p
  ·subst e
   rw[hc]at hp
   have e1:ks.map V.int=ns.map V.int:=by simpa using hp
   rw[decide_eq_true (inj e1)]
   exact SeqAt.EqAt.same _
  ·obtain ⟨jt,r3,p3,_⟩:=I.tuple (SqT.of hc)
   refine SeqAt.EqAt.of_refs e ?_
   have key:=SeqAt.RcAt.tuples (A:=X.A.in1) (s:=s) (e:=eqN (ks.map V.int) (ns.map V.int)) p3 p1 (show X.A.units+1<cLine from hu) (fun j h1 h2=>eqN_at r3 r1 (YK _) (YK _) j h1 h2)
   rw[List.size_toArray,List.size_toArray,← r3.length,← r1.length,QJ,ZN]at key
   exact key
 have ans:∀y∈its2,∃a ks,y=Value.ref a∧ks∈L∧H a=some (.tup (ks.map V.int)):=fun y hy=>by
  obtain⟨j,hj,rfl⟩:=List.mem_iff_getElem.mp hy
  have hj':j<ws.length:=by rw[r2.length];exact hj
  obtain⟨c,e1,a,e2,e3⟩:=Paired.get' (i:=j) (x:=ws[j]) hw (by simp[hj'])
  obtain⟨w',e4,e5⟩:=r2.get (i:=j) (x:=ws[j]) (by simp[hj'])
  have e6:its2[j]?=some its2[j]:=by simp[hj]
  rw[e6]at e4
  cases e4
  rw[e2]at e5
  exact⟨a,c,e5,List.mem_of_getElem? e1,e3⟩
 refine⟨its2,fun y=>decide (∃a,y=Value.ref a∧H a=some (.tup (ns.map V.int))),p2.isList,fun y hy=>?_,?_⟩
 ·obtain ⟨a,ks,rfl,_,hc⟩:=ans y (by simpa using hy)
  have e:decide (∃a',Value.ref a=Value.ref a'∧H a'=some (.tup (ns.map V.int)))=decide (ks=ns):=by
   rw[decide_eq_decide]
   constructor
   ·rintro ⟨a',ea,h'⟩
    cases ea
    rw[hc]at h'
    have e1:ks.map V.int=ns.map V.int:=by simpa using h'
    exact inj e1
   ·rintro rfl
    exact⟨a,rfl,hc⟩
  show SeqAt.EqAt X.A.in1 s (.ref a) (.ref p) (decide (∃a',Value.ref a=Value.ref a'∧H a'=some (.tup (ns.map V.int))))
  rw[e]
  exact pr hc
 ·rw [Bool.eq_iff_iff,decide_eq_true_iff]
  rw[show its2.toArray.any (fun y=>decide (∃a,y=Value.ref a∧H a=some (.tup (ns.map V.int))))=its2.any (fun y=>decide (∃a,y=Value.ref a∧H a=some (.tup (ns.map V.int)))) by simp,List.any_eq_true]
  constructor
  ·rintro ⟨y,hy,he⟩
   obtain⟨a,c,rfl,hm,hc⟩:=ans y hy
   obtain⟨a',ea,h'⟩:=of_decide_eq_true he
   cases ea
   rw[hc]at h'
   have e1:c.map V.int=ns.map V.int:=by simpa using h'
   rw[← inj e1]
   exact hm
  ·intro hz
   obtain⟨j,hj,e0⟩:=List.mem_iff_getElem.mp hz
   have hj':j<ws.length:=by rw[Paired.length hw];exact hj
   obtain⟨c,e1,a,e2,e3⟩:=Paired.get' (i:=j) (x:=ws[j]) hw (by simp[hj'])
   obtain⟨w',e4,e5⟩:=r2.get (i:=j) (x:=ws[j]) (by simp[hj'])
   rw[e2]at e5
   have e5:w'=Value.ref a:=e5
   have ec:c=ns:=by
    rw[← e0]
    have:L[j]?=some L[j]:=by simp[hj]
    rw[this]at e1
    cases e1
    rfl
   refine⟨w',List.mem_of_getElem? e4,decide_eq_true ⟨a,e5,?_⟩⟩
   rw[← ec]
   exact e3
theorem op_notInTps(hu:X.A.units+1<cLine):OpR X (compareOp .NotIn) (rInTps true):=by
 intro pins s σ H x y v u Q I rx ry h
 obtain⟨p,l,ns,ws,L,rfl,rfl,hp,hl,hw,q⟩:=h
 cases rx
 cases ry
 obtain⟨its,ev,h1,h2,h3⟩:=in_tps hu I hp hl hw
 refine SeqAt.notIn_listAt ev h1 h2 ⟨.bl _,H,I,rfl,?_⟩
 rw[h3]
 exact q
end
end L2
namespace L2
open PySem PySem.Calls PySem.Spec PyProof.Rows PySem.W
section
variable{prog:Program}{w:World}{A:Around}{R:Result→Shared→Prop}{h:Heap}{g:Array GenState}{d:Drawn}{t:Nat}{os:OsState}{C f:Addr}{bm:List Value}
end
end L2
namespace L2
open PySem PySem.Calls PySem.Spec PyProof.Rows PySem.W
section
variable{X:Cx}{pins:List (Addr×Obj)}{σ:St}{H:Hp}{s:Shared}
variable{e:Expr}{es:List Expr}{p apos pos:Pos}{t:TA}{C:Addr}{bm:List Value}{pl:Sem Bool}
variable{CX:CXT}{k:Nat}{f:Addr}{fd:FuncData}{ps:List Str}{sp:Sp}{E:XK}{x:Str}
end
end L2
namespace L2
open PySem PySem.Calls PySem.Spec PyProof.Rows PySem.W
section
variable{X:Cx}{pins:List (Addr×Obj)}{σ:St}{H:Hp}{s:Shared}{CX:CXT}{k:Nat}{f C:Addr}{fd:FuncData}{ps:List Str}{sp:Sp}{E:XK}{x:Str}{p pos:Pos}{e:Expr}{es:List Expr}{t:TA}{bm:List Value}
end
end L2
namespace L2
open PySem PySem.Calls PySem.Spec PyProof.Rows PySem.W
end L2
namespace L2
open PySem PySem.Calls PySem.Spec PyProof.Rows PySem.W
section
variable{P:Program}{w:World}{outer:List Env}{H H':Hp}{s s':Shared}{y:Addr}{cls:Value}{dct:Option Addr}
end
section
variable{P:Program}{w:World}{K:Frag}{mg:Str→Option Value}{base:Heap}{N:List Str}{qual:Str}{scope:Scope}{f:Addr}{cd:Value}{A:Around}{outer:List Env}{s:Shared}{H:Hp}{E:XK}
variable{pins:List (Addr×Obj)}{σ:St}{H1:Hp}{s1:Shared}{y C:Addr}{dct:Option Addr}
end
end L2
namespace L2
open PySem PySem.Calls PySem.Spec PyProof.Rows PySem.W
section
variable{P:Program}{w:World}{K:Frag}{mg:Str→Option Value}{base:Heap}{N:List Str}{qual:Str}{scope:Scope}{f:Addr}{cd:Value}{A:Around}{outer:List Env}{s:Shared}{H:Hp}{E:XK}
variable{C:Addr}{bm:List Value}{e:Expr}{te:TE}{pos:Pos}
end
end L2
namespace L2
open PySem PySem.Calls PySem.Spec PyProof.Rows PySem.W
section
variable{prog:Program}{w:World}{A:Around}{E:Value→Shared→Prop}{s:Shared}{K:Frag}{y C:Addr}
end
section
variable{X:Cx}
end
end L2
namespace L2
open PySem PySem.Calls PySem.Spec PyProof.Rows PySem.W
section
variable{X:Cx}{pins:List (Addr×Obj)}{σ:St}{H H':Hp}{s s':Shared}{y:Addr}{cls:Value}{dct:Option Addr}
variable{k:Nat}{x:Str}{ps:List Str}{sp:Sp}{p pos:Pos}{e:Expr}{es:List Expr}{t:TA}{te:XK→TE}
variable{st b₀:Stmt}{suite:List Stmt}{i:Nat}{n c:Str}{pc hpos:Pos}{W:Addr}{tb:XK→TS}{th:TS}
end
end L2
namespace L2
open PySem PySem.Calls PySem.Spec PyProof.Rows PySem.W
section
variable{X:Cx}{k:Nat}{x:Str}{ps:List Str}{sp:Sp}{p pos:Pos}{e:Expr}{es:List Expr}{t:TA}
end
end L2
namespace L2
open PySem PySem.Calls PySem.Spec PyProof.Rows PySem.W PySem.Builtin PySem.Builtin.ObjectAttr
section
variable{prog:Program}{w:World}{A:Around}{E:Value→Shared→Prop}{s:Shared}{K:Frag}{x C:Addr}{ox:Obj}{od:Option Obj}{name:Str}{v:Value}{Q:Unit→Shared→Prop}
end
section
variable{X:Cx}{pins:List (Addr×Obj)}{σ:St}{H:Hp}{s:Shared}{y C D:Addr}{fs:List (Str×V)}{f:Str}{v:V}{u:Value}{A:Around}{E:Value→Shared→Prop}{Q:Unit→Shared→Prop}
end
end L2
namespace L2
open PySem PySem.Calls PySem.Spec PyProof.Rows PySem.W PySem.Builtin PySem.Builtin.ObjectAttr
section
variable{prog:Program}{w:World}{A:Around}{E:Value→Shared→Prop}{s:Shared}{K:Frag}{y C:Addr}{ox:Obj}{od:Obj}{name:Str}{v:Value}{Q:Value→Shared→Prop}{expr:Bool}
end
section
variable{X:Cx}{e:Expr}{pos:Pos}{te:TE}
end
end L2
namespace L2
open PySem PySem.Spec PyProof.Rows
section
variable{X:Cx}
def CDivW(_ j:Int):Prop:=0<j∧j.natAbs.log2<9000
theorem op_fdivW:OpR X (binaryOp .FloorDiv) (rI CDivW fun i j=>.int (i/j)):=opI fun i j _ _ _ _ _ hc q=>by
 have h1:(0:Int)<j:=hc.1
 have e:=Int.fdiv_eq_ediv_of_nonneg i (Int.le_of_lt h1)
 exact floordiv_int (Int.ne_of_gt h1) (e▸q) (.inl (PyProof.noPylong_of_log2 hc.2))
end
end L2
namespace L2
open PySem PySem.Spec PyProof.Rows PySem.AutoSeq1
def IteL (a:Addr):It:=⟨fun i H=>∃ xs,H a=some (.lst xs)∧i < xs.length,
 fun i H x H'=>∃p v,x=.ref p∧H p=none∧H'=upd H p (.tup [.int i,v])∧∀xs,H a=some (.lst xs)→xs[i]?=some v,
 fun i H=>∃ xs,H a=some (.lst xs)∧i=xs.length⟩
theorem turn_enumL{P:Program}{w:World}{K:PySem.W.Frag}{es:List Expr}{kt:Nat}{tp:Pos}(a e it:Addr)(d1:e≠it) :
  Turn P w K (.Tuple es kt tp) (IteL a) [e,it] e (fun i h=>(∃old,IsEnum h e it i old)∧h.IsListIter it a i) where
 mem:=by simp
 obj:=fun i h st c hc=>by
  obtain⟨⟨old,s1⟩,⟨o2,s2,_,q2⟩⟩:=st
  simp only[List.mem_cons,List.not_mem_nil,or_false]at hc
  rcases hc with rfl|rfl
  ·exact ⟨_,s1,fun v=>by intro q; cases q⟩
  ·exact ⟨_,s2,fun v=>by intro q; rw [q2] at q; cases q⟩
 keep:=fun i h h' st kp=>by
  obtain⟨⟨old,s1⟩,⟨o2,s2,r2⟩⟩:=st
  exact⟨⟨old,kp e (by simp) _ s1⟩,⟨o2,kp it (by simp) _ s2,r2⟩⟩
 item:=by
  intro X hP hw hK hc i pins s σ H E I hf st hg
  subst hP hw hK
  obtain⟨xs,ha,l1⟩:=hg
  obtain⟨⟨old,s1⟩,s2⟩:=st
  have nf:∀{c:Addr}{o:HO},H c=some o→∀b∈[e,it],c≠b:=fun hcc b hb q=>by rw[q,(hf b hb).1]at hcc;cases hcc
  obtain⟨its,r1,t1,_⟩:=I.list (SqL.of ha)
  have hh:X.A.in1.handled=none:=I.ok.hd hc
  have e1:its.toArray.size=xs.length:=by rw[List.size_toArray,← r1.length]
  have nef:e∉[it,a]:=by
   simp only[List.mem_cons,List.not_mem_nil,or_false,not_or]
   exact⟨d1,(nf ha e (by simp)).symm⟩
  refine wpAny_pyNext_enum_itemD (Draws.list hh it a (nf ha it (by simp)) its.toArray) s1 ⟨s2,t1.isList⟩ (by omega) d1 nef fun x h' tk px z1 z2 z3 z4 kp=>⟨_,rfl,?_⟩
  have px:its[i]?=some x:=by simpa using px
  obtain⟨vx,hx⟩:∃v,xs[i]?=some v:=⟨xs[i],by simp[l1]⟩
  obtain⟨x',q1,rx⟩:=r1.get hx
  rw[px]at q1;cases q1
  refine wpAny_letOwnedTupleGo_enum z1 fun g2 zz hs=>?_
  have fr:H s.heap.objs.size=none:=I.hok.fresh (Nat.le_refl _)
  have I1:Inv X pins σ H { s with heap:=g2,toks:=tk + 1 }:=I.turnedL (l:=[e,it]) (t':=tk + 1) (fun c o hc e=>by
   simp only[List.mem_cons,List.not_mem_nil,or_false,not_or]at hc
   exact hs.extBut _ _ hc.1 (kp c o hc.1 hc.2 e)) fun c hc=>hf c hc
  have fp:=I.fpOk (H':=H) (Nat.le_refl _) fr
  have nz:∀b∈[e,it],b≠s.heap.objs.size:=fun b hb q=>by
   obtain⟨o,ho⟩:∃o,s.heap.get? b=some o:=by
    obtain⟨o2,s2,_⟩:=s2
    simp only[List.mem_cons,List.not_mem_nil,or_false]at hb
    rcases hb with rfl|rfl
    ·exact ⟨_,s1⟩
    ·exact ⟨_,s2⟩
   exact absurd (Heap.lt_size ho) (by rw[q];exact Nat.lt_irrefl _)
  have at2:g2.get? s.heap.objs.size=some { cls:=.type "tuple",data:=.seq #[.int i tk,x] }:=hs.extBut _ _ (nz e (by simp)).symm z3
  refine ⟨.ref s.heap.objs.size,upd H s.heap.objs.size (.tup [.int i,vx]),I1.adopt fp ⟨?_,[.int i tk,x],.cons ⟨_,rfl⟩ (.cons rx .nil),⟨_,at2,rfl,_,rfl⟩⟩,rfl,⟨_,vx,rfl,fr,rfl,fun xs' q1=>?_⟩,
   ⟨⟨_,zz⟩,z2.1.extBut hs.extBut d1.symm⟩,fun c hc=>?_⟩
  ·show 2≤sizeLine
   decide
  ·rw [ha] at q1; cases q1
   exact hx
  ·rw [Jh (nz c hc)]
   exact(hf c hc).1
 done:=by
  intro X hP hw hK hc i pins s σ H E I hf st hg
  subst hP hw hK
  obtain⟨xs,ha,hl⟩:=hg
  obtain⟨⟨old,s1⟩,s2⟩:=st
  have nf:∀{c:Addr}{o:HO},H c=some o→∀b∈[e,it],c≠b:=fun hcc b hb q=>by rw[q,(hf b hb).1]at hcc;cases hcc
  obtain⟨its,r1,t1,_⟩:=I.list (SqL.of ha)
  have hh:X.A.in1.handled=none:=I.ok.hd hc
  have e1:its.toArray.size=i:=by rw[List.size_toArray,← r1.length,hl]
  subst e1
  refine wpAny_pyNext_enum_endD (Draws.list hh it a (nf ha it (by simp)) its.toArray) s1 ⟨s2,t1.isList⟩ fun h' eb=>⟨rfl,?_⟩
  exact I.turnedL (l:=[e,it]) (t':=s.toks) (fun c o hc e=>by
   simp only[List.mem_cons,List.not_mem_nil,or_false,not_or]at hc
   exact eb c o hc.2 e) fun c hc=>hf c hc
 self:=fun _ _ _ _ _ st h=>by
  obtain⟨⟨old,s1⟩,_⟩:=st
  exact wpAny_pyIter_enum s1 h
section
variable{X:Cx}{es:List Expr}{kt:Nat}{tp:Pos}
def iEnumL(ta:TA):TI:=fun σ H R=>ta σ H fun vs H1=>∃a xs,vs=[.ref a]∧H1 a=some (.lst xs)∧R (IteL a) H1
theorem pi_enumL{a:Expr}{ta:TA}{p pos:Pos}(hg:Gl X "enumerate")(hm:X.mg "enumerate"=none)(ha:PA X [a] ta)(hs:starEach [a] X.env=[(false,eval a X.env)]:=by rfl) :
  PI X (.Tuple es kt tp) (.Call (.Name "enumerate" p) [a] [] pos) (iEnumL ta):=by
 intro pins s σ H R I h
 refine Call_ (ZB I hg hm boot_enum (PyProof.Rows.callWith_type1 (thn (ha pos pins s σ H _ I h) fun us s1 h1=>?_) hs rfl))
 obtain⟨vs,H1,I1,r1,a,xs,e,ha,q⟩:=h1
 subst e
 obtain⟨u,rfl,ru⟩:=Yu r1
 cases ru
 obtain⟨its,_,t1,_⟩:=I1.list (SqL.of ha)
 refine call_enumerate_list t1.isList fun h' z1 z2 _ kp=>wpAny_pyIter_enum z1 ?_
 have I2:Inv X pins σ H1 { s1 with heap:=h' }:=I1.kept (t':=s1.toks) kp
 have fr:∀k:Nat,H1 (s1.heap.objs.size+k)=none:=fun k=>I1.hok.fresh (Nat.le_add_right _ _)
 refine⟨s1.heap.objs.size+1,_,_,IteL a,H1,rfl,I2,turn_enumL a (s1.heap.objs.size+1) s1.heap.objs.size (Nat.succ_ne_self _),⟨⟨_,z1⟩,z2⟩,fun c hc=>?_,q⟩
 simp only[List.mem_cons,List.not_mem_nil,or_false]at hc
 rcases hc with rfl|rfl
 ·exact I1.fpOk (Nat.le_add_right _ _) (fr 1)
 ·exact I1.fpOk (Nat.le_refl _) (fr 0)
end
section
variable{K:PySem.W.Frag}{g:TG}{tc:TT}{te:TE}{σ:St}{H:Hp}{R:List V→Hp→Prop}
theorem lc_enumL{a:Addr}{xs:List V}(Pv:Nat→List V→Hp→Prop)(h0:Pv 0 [] H)
  (hl:∀i zs H,i≤xs.length→Pv i zs H→H a=some (.lst xs)∧zs.length≤sizeLine) (hd:∀zs H,Pv xs.length zs H→R zs H)
  (hs:∀ (i:Nat) v zs H p,xs[i]?=some v→i < xs.length→Pv i zs H→H p=none→g (.ref p) σ (upd H p (.tup [.int i,v])) fun σ2 H2=>tc σ2 H2 fun b H3 =>
   if b=true then te σ2 H3 fun y H4=>∃ m',m' < xs.length - i∧Wn xs.length Pv (i + 1) m' (zs++[y]) H4 else ∃ m',m' < xs.length - i∧Wn xs.length Pv (i + 1) m' zs H3) :
  ∃W:Nat→Nat→List V→Hp→Prop,(∃m,W 0 m [] H)∧∀i m ys H,W i m ys H→((IteL a).stop i H∧ys.length≤sizeLine∧R ys H) ∨
   ((IteL a).go i H∧ys.length≤sizeLine∧∀ x H',(IteL a).yld i H x H'→g x σ H' fun σ2 H2=>tc σ2 H2 fun b H3 =>
    if b=true then te σ2 H3 fun y H4=>∃ m',m' < m∧W (i + 1) m' (ys++[y]) H4 else ∃ m',m' < m∧W (i + 1) m' ys H3):=by
 refine lc_by xs.length Pv h0 (fun zs H p=>?_) (fun i zs H hi p=>?_)
 ·obtain ⟨q1,z⟩:=hl _ zs H (Nat.le_refl _) p
  exact⟨⟨xs,q1,rfl⟩,z,hd zs H p⟩
 ·obtain ⟨q1,z⟩:=hl i zs H (Nat.le_of_lt hi) p
  refine⟨⟨xs,q1,hi⟩,z,fun x H' y=>?_⟩
  obtain⟨p',v,e1,e2,e3,y⟩:=y
  subst e1 e3
  exact hs i v zs H p' (y xs q1) hi p e2
end
end L2
namespace L2
open PySem PySem.Spec PyProof.Rows
section
variable{X:Cx}
def oV:Option Bool→V
 | none=>.non
 | some b=>.bl b
theorem is_non_bool{M:Model}{A:Around}{E:Value→Shared→Prop}{s:Shared}{Q:Value→Shared→Prop}{d:Bool}(h:Q (.bool false) s):wpAny M A (compareOp .Is .none (.bool d)) Q E s :=
 wpAny_pure (a:=Value.bool (Value.none == Value.bool d)) (by
  have e:(Value.none==Value.bool d)=false:=by cases d<;>rfl
  rw[e]
  exact h)
theorem op_isC:OpR X (compareOp .Is) (fun x y H Q=>∃(o:Option Bool)(c:Bool),x=oV o∧y=.bl c∧Q (.bl (o==some c)) H):=by
 intro pins s σ H x y v u Q I rx ry h
 obtain⟨o,c,rfl,rfl,q⟩:=h
 cases ry
 cases o with
 | none =>
  cases rx
  exact is_non_bool ⟨.bl _,H,I,rfl,q⟩
 | some b =>
  cases rx
  exact is_bool ⟨.bl _,H,I,rfl,q⟩
theorem oV_flat(o:Option Bool):ZY (oV o)=true:=by cases o<;>rfl
theorem oVs_flat(l:List (Option Bool)):(l.map oV).all ZY=true:=by
 refine List.all_eq_true.mpr fun z hz=>?_
 obtain⟨o,_,rfl⟩:=List.mem_map.mp hz
 exact oV_flat o
theorem eqVs_oV:∀(a b:List (Option Bool)),eqVs (a.map oV) (b.map oV)=decide (a=b)
 | [],[]=>by decide
 | [],_::_=>by simp [eqVs]
 | _::_,[]=>by simp [eqVs]
 | x::a,y::b=>by
  show(eqV (oV x) (oV y)&&eqVs (a.map oV) (b.map oV))=_
  rw[eqVs_oV a b]
  have e:eqV (oV x) (oV y)=decide (x=y):=by
   cases x with
   | none=>cases y with
    | none=>rfl
    | some c=>cases c <;> rfl
   | some b=>cases y with
    | none=>cases b <;> rfl
    | some c=>cases b <;> cases c <;> rfl
  rw[e,Bool.eq_iff_iff]
  simp
end
end L2
namespace L2
open PySem PySem.Spec PyProof.Rows PySem.AutoSeq1
end L2
namespace L2
open PySem PySem.Spec PyProof.Rows
section
variable{X:Cx}{es:List Expr}{kt:Nat}{tp:Pos}
end
section
variable{K:PySem.W.Frag}{g:TG}{tc:TT}{te:TE}{σ:St}{H:Hp}{R:List V→Hp→Prop}
end
end L2
namespace L2
open PySem PySem.Spec PyProof.Rows
section
variable{prog:Program}{w:World}{A:Around}{R:Result→Shared→Prop}{it B:Addr}{fp wr:List Addr}{n:Nat}{P:Nat→Value→Prop}{St:Nat→Heap→Prop}{bt:Nat→Nat→Bool}{dn:Str}{dv:Value}
abbrev bestObj(vs:Array Value)(c:Nat):Obj:={ cls:=.type "list",dict:=none,data:=.seq vs c,slots:=#[] }
end
section
variable{X:Cx}
end
end L2
namespace L2
open PySem PySem.Spec PyProof.Rows
section
variable{X:Cx}
end
end L2
namespace Tim
open PySem PyProof.Rows
structure Ordr(L:Keyed→Keyed→Bool):Prop where
 asym:∀x y,L x y=true→L y x=false
 tr:∀x y z,L y x=false→L z y=false→L z x=false
abbrev Sd(L:Keyed→Keyed→Bool)(l:List Keyed):Prop:=l.Pairwise fun x y=>L y x=false
section
variable{L:Keyed→Keyed→Bool}
theorem Sd.split{o m r1 r2:List Keyed}(h1:Sd L (o++(m++r1)))(h2:Sd L (o++r2))(c:∀x∈m,∀y∈r2,L y x=false):Sd L ((o++m)++r1)∧Sd L ((o++m)++r2):=by
 refine⟨by rw[List.append_assoc];exact h1,?_⟩
 obtain⟨a1,a2,a3⟩:=List.pairwise_append.mp h1
 obtain⟨b1,b2,b3⟩:=List.pairwise_append.mp h2
 obtain⟨c1,c2,c3⟩:=List.pairwise_append.mp a2
 rw[List.append_assoc]
 refine List.pairwise_append.mpr ⟨a1,List.pairwise_append.mpr ⟨c1,b2,c⟩,fun x hx y hy=>?_⟩
 rcases List.mem_append.mp hy with z|z
 ·exact a3 x hx y (List.mem_append_left _ z)
 ·exact b3 x hx y z
theorem Sd.splitR{o m l1 l2:List Keyed}(h1:Sd L ((l1++m)++o))(h2:Sd L (l2++o))(c:∀y∈l2,∀x∈m,L x y=false):Sd L (l1++(m++o))∧Sd L (l2++(m++o)):=by
 rw[List.append_assoc]at h1
 refine⟨h1,?_⟩
 obtain⟨a1,a2,a3⟩:=List.pairwise_append.mp h1
 obtain⟨b1,b2,b3⟩:=List.pairwise_append.mp h2
 refine List.pairwise_append.mpr ⟨b1,a2,fun y hy x hx=>?_⟩
 rcases List.mem_append.mp hx with z|z
 ·exact c y hy x z
 ·exact b3 y hy x z
end
section
variable{prog:Program}{w:World}{A:Around}{E:Value→Shared→Prop}{s:Shared}{κ:SortKind}{a0:Array Keyed}{L:Keyed→Keyed→Bool}
def CmpL(prog:Program)(w:World)(A:Around)(s:Shared)(κ:SortKind)(a0:Array Keyed)(L:Keyed→Keyed→Bool):Prop :=
 ∀x y,x∈a0→y∈a0→∀(E:Value→Shared→Prop)(Q:Bool→Shared→Prop),Q (L x y) s→wpAny (model prog w) A (keyLt' κ x.1 y.1) Q E s
theorem lt_L(hc:CmpL prog w A s κ a0 L){x y:Keyed}{st:SortSt}{Q:Option Bool→SortSt→Prop}(hk:kindOf st=κ)(hx:x∈a0)(hy:y∈a0)(q:Q (some (L x y)) st) :
  wpS (model prog w) A E s (lt' x y) Q st:=by
 rw[lt'_eq]
 refine wpS_bind (wpS_get ?_)
 rw[hk]
 refine wpS_bind (wpS_lift (wpAny_attempt (hc x y hx hy _ _ ⟨rfl,?_⟩)))
 exact wpS_pure q
def bk(L:Keyed→Keyed→Bool)(left:Bool)(key x:Keyed):Bool:=if left=true then L x key else !L key x
theorem bk_mono(o:Ordr L){left:Bool}{key x y:Keyed}(h:L y x=false)(hy:bk L left key y=true):bk L left key x=true:=by
 unfold bk at hy ⊢
 cases left with
 | true =>
  rw[if_pos rfl]at hy ⊢
  cases e:L x key with
  | true=>rfl
  | false =>
   have:=o.tr key x y e h
   rw[this]at hy
   cases hy
 | false =>
  rw[if_neg Bool.false_ne_true]at hy ⊢
  have hy:L key y=false:=by simpa using hy
  rw[o.tr x y key h hy]
  rfl
theorem Um(o:Ordr L)(hc:CmpL prog w A s κ a0 L){left:Bool}{key:Keyed}{arr:Array Keyed}{lo n hint:Nat}{st:SortSt}{Q:Option Nat→SortSt→Prop}(hk:kindOf st=κ)(hkey:key∈a0)(hin:In a0 arr)(hn:lo+n≤arr.size)(hh:hint<n)
  (sd:Sd L ((arr.toList.drop lo).take n))
  (q:∀k,k≤n→(∀x∈((arr.toList.drop lo).take n).take k,bk L left key x=true)→(∀x∈((arr.toList.drop lo).take n).drop k,bk L left key x=false)→Q (some k) st):wpS (model prog w) A E s (gallop' left key arr lo n hint) Q st:=by
 have len:((arr.toList.drop lo).take n).length=n:=by rw[List.length_take,List.length_drop,Array.length_toList];omega
 have eg:∀i,i<n→arr[lo+i]?=((arr.toList.drop lo).take n)[i]?:=fun i hi=>by
  rw[List.getElem?_take,if_pos hi,List.getElem?_drop,Array.getElem?_toList]
 generalize (arr.toList.drop lo).take n=l at sd q len eg
 subst len
 have eg:∀i (hi:i<l.length),arr[lo+i]'(by omega)=l[i]:=fun i hi=>by
  have:=eg i hi
  rw[Array.getElem?_eq_getElem (by omega),List.getElem?_eq_getElem hi]at this
  exact Option.some.inj this
 have mono:∀i j (hij:i≤j) (hj:j<l.length),bk L left key l[j]=true→bk L left key (l[i]'(by omega))=true:=fun i j hij hj h=>by
  by_cases e:i=j
  ·subst e; exact h
  ·exact bk_mono o (List.pairwise_iff_getElem.mp sd i j (by omega) hj (by omega)) h
 have bey:∀ (i:Nat) (R:Option Bool→SortSt→Prop) (hi:i < l.length),R (some (bk L left key l[i])) st→wpS (model prog w) A E s (do
   let x ← elem' arr (lo+i)
   if left=true then lt' x key else do
    let r ← lt' key x
    pure (r.map (!·))) R st:=fun i R hi hR=>by
  refine wpS_bind (JJ (by omega) ?_)
  have hm:arr[lo+i]'(by omega)∈a0:=hin _ (Array.getElem_mem _)
  rw[eg i hi]at hm ⊢
  unfold bk at hR
  cases left with
  | true =>
   rw[if_pos rfl]at hR
   exact lt_L hc hk hm hkey hR
  | false =>
   rw[if_neg Bool.false_ne_true]at hR
   exact wpS_bind (lt_L hc hk hkey hm (wpS_pure hR))
 -- by places
 have T:∀k,k≤l.length→(∀i (hi:i<l.length),i<k→bk L left key l[i]=true)→∀x∈l.take k,bk L left key x=true:=fun k hk h x hx=>by
  obtain⟨i,hi,rfl⟩:=List.mem_iff_getElem.mp hx
  rw[List.length_take]at hi
  rw[List.getElem_take]
  exact h i (by omega) (by omega)
 have F:∀k,(∀i (hi:i<l.length),k≤i→bk L left key l[i]=false)→∀x∈l.drop k,bk L left key x=false:=fun k h x hx=>by
  obtain⟨i,hi,rfl⟩:=List.mem_iff_getElem.mp hx
  rw[List.length_drop]at hi
  rw[List.getElem_drop]
  exact h (k+i) (by omega) (by omega)
 refine wpS_bind (wpS_mono (bey hint (fun r st'=>r=some (bk L left key l[hint])∧st'=st) hh ⟨rfl,rfl⟩) ?_)
 rintro r st' ⟨rfl,rfl⟩
 dsimp only
 cases hb:bk L left key l[hint]
 case' true =>
  rw[if_pos rfl]
  refine wpS_bind (wpS_mono (wpS_forRange (I:=fun i c st2=>c.1=none∧(c.2.1 < c.2.2∧i + 1≤c.2.2∧∃ h:hint + c.2.1 < l.length,bk L left key l[hint + c.2.1]=true)∧st2=st')
   (Q:=fun c st2=>c.1=none∧(c.2.1 < c.2.2∧(∃ h:hint + c.2.1 < l.length,bk L left key l[hint + c.2.1]=true)∧(l.length - hint≤c.2.2∨∃ h:hint + c.2.2 < l.length,bk L left key l[hint + c.2.2]=false))∧st2=st') ?step ?fin ⟨rfl,⟨by decide,by decide,hh,hb⟩,rfl⟩) ?post)
  case fin =>
   rintro⟨c1,la,ofs⟩ st2 ⟨h1,⟨h2,h3,h4⟩,h5⟩
   dsimp only at h1 h2 h3 h4 ⊢
   rw[Nat.zero_max]at h3
   exact⟨h1,⟨h2,h4,.inl (by omega)⟩,h5⟩
  case step =>
   rintro i ⟨_,la,ofs⟩ st2 _ _ ⟨h,⟨h2,h3,h4⟩,rfl⟩
   dsimp only at h h2 h3 h4 ⊢
   by_cases hm:ofs≥l.length-hint
   ·rw [if_pos hm]
    exact wpS_pure ⟨rfl,⟨h2,h4,.inl hm⟩,rfl⟩
   ·rw [if_neg hm]
    refine wpS_bind (bey (hint+ofs) _ (by omega) ?_)
    cases e:bk L left key (l[hint+ofs]'(by omega))
    ·exact wpS_pure ⟨rfl,⟨h2,h4,.inr ⟨by dsimp only; omega,e⟩⟩,rfl⟩
    ·exact wpS_pure ⟨rfl,⟨by dsimp only; omega,by dsimp only; omega,by dsimp only; omega,e⟩,rfl⟩
 case' false =>
  rw[if_neg Bool.false_ne_true]
  refine wpS_bind (wpS_mono (wpS_forRange (I:=fun i c st2=>c.1=none∧(c.2.1 < c.2.2∧i + 1≤c.2.2∧c.2.1≤hint∧∃ h:hint - c.2.1 < l.length,bk L left key l[hint - c.2.1]=false)∧st2=st')
   (Q:=fun c st2=>c.1=none∧(c.2.1 < c.2.2∧(c.2.1≤hint∧∃ h:hint - c.2.1 < l.length,bk L left key l[hint - c.2.1]=false)∧(hint + 1≤c.2.2∨∃ h:hint - c.2.2 < l.length,bk L left key l[hint - c.2.2]=true))∧st2=st') ?step ?fin ⟨rfl,⟨by decide,by decide,Nat.zero_le _,hh,hb⟩,rfl⟩) ?post)
  case fin =>
   rintro⟨c1,la,ofs⟩ st2 ⟨h1,⟨h2,h3,h4⟩,h5⟩
   dsimp only at h1 h2 h3 h4 ⊢
   rw[Nat.zero_max]at h3
   exact⟨h1,⟨h2,h4,.inl (by omega)⟩,h5⟩
  case step =>
   rintro i ⟨_,la,ofs⟩ st2 _ _ ⟨h,⟨h2,h3,h4⟩,rfl⟩
   dsimp only at h h2 h3 h4 ⊢
   by_cases hm:ofs≥hint+1
   ·rw [if_pos hm]
    exact wpS_pure ⟨rfl,⟨h2,h4,.inl hm⟩,rfl⟩
   ·rw [if_neg hm]
    refine wpS_bind (bey (hint-ofs) _ (by omega) ?_)
    cases e:bk L left key (l[hint-ofs]'(by omega))
    ·exact wpS_pure ⟨rfl,⟨by dsimp only; omega,by dsimp only; omega,by dsimp only; omega,by dsimp only; omega,e⟩,rfl⟩
    ·exact wpS_pure ⟨rfl,⟨h2,h4,.inr ⟨by dsimp only; omega,e⟩⟩,rfl⟩
 case' true =>
  rintro⟨c1,la,ofs⟩ st2 ⟨h,⟨g1,⟨g2,g3⟩,g4⟩,rfl⟩
  dsimp only at h g1 g2 g3 g4 ⊢
  subst h
  dsimp only
  have B:(hint+la+1≤hint+min ofs (l.length-hint)∧hint+min ofs (l.length-hint)≤l.length∧(∀i (hi:i<l.length),i<hint+la+1→bk L left key l[i]=true)∧(∀i (hi:i<l.length),hint+min ofs (l.length-hint)≤i→bk L left key l[i]=false)):=by
   refine⟨by omega,by omega,fun i hi h=>mono i (hint+la) (by omega) g2 g3,fun i hi h=>?_⟩
   rcases g4 with z|⟨z,e⟩
   ·omega
   ·cases e2:bk L left key l[i] with
    | false=>rfl
    | true=>rw [mono (hint + ofs) i (by omega) hi e2] at e; cases e
  generalize hint+la+1=l0 at B
  generalize hint+min ofs (l.length-hint)=h0 at B
 case' false =>
  rintro⟨c1,la,ofs⟩ st2 ⟨h,⟨g1,⟨g0,g2,g3⟩,g4⟩,rfl⟩
  dsimp only at h g0 g1 g2 g3 g4 ⊢
  subst h
  dsimp only
  have B:(hint+1-min ofs (hint+1)≤hint-la∧hint-la≤l.length∧(∀i (hi:i<l.length),i<hint+1-min ofs (hint+1)→bk L left key l[i]=true)∧(∀i (hi:i<l.length),hint-la≤i→bk L left key l[i]=false)):=by
   refine⟨by omega,by omega,fun i hi h=>?_,fun i hi h=>?_⟩
   ·rcases g4 with z | ⟨z,e⟩
    ·omega
    ·exact mono i (hint - ofs) (by omega) z e
   ·cases e2:bk L left key l[i] with
    | false=>rfl
    | true=>rw [mono (hint - la) i h hi e2] at g3; cases g3
  generalize hint+1-min ofs (hint+1)=l0 at B
  generalize hint-la=h0 at B
 all_goals
  refine wpS_bind (wpS_mono (wpS_forRange (I:=fun j c st3=>c.1=none∧(c.2.1≤c.2.2∧c.2.2≤l.length∧(∀ i (hi:i < l.length),i < c.2.1→bk L left key l[i]=true)∧(∀ i (hi:i < l.length),c.2.2≤i→bk L left key l[i]=false))∧c.2.2 - c.2.1≤l.length - j∧st3=st2)
   (Q:=fun c st3=>c.1=none∧(c.2.1≤c.2.2∧c.2.2≤l.length∧(∀ i (hi:i < l.length),i < c.2.1→bk L left key l[i]=true)∧(∀ i (hi:i < l.length),c.2.2≤i→bk L left key l[i]=false))∧c.2.2≤c.2.1∧st3=st2) ?_ ?_ ⟨rfl,B,by dsimp only; omega,rfl⟩) ?_)
  ·rintro j ⟨c1,l1,h1⟩ st3 _ _ ⟨e1,⟨b1,b2,b3,b4⟩,e3,rfl⟩
   dsimp only at e1 b1 b2 b3 b4 e3 ⊢
   subst e1
   by_cases hm:l1≥h1
   ·rw [if_pos hm]
    exact wpS_pure ⟨rfl,⟨b1,b2,b3,b4⟩,hm,rfl⟩
   ·rw [if_neg hm]
    refine wpS_bind (bey (l1+(h1-l1)/2) _ (by omega) ?_)
    cases e:bk L left key (l[l1+(h1-l1)/2]'(by omega))
    ·exact wpS_pure ⟨rfl,⟨by dsimp only; omega,by dsimp only; omega,b3,fun i hi h=>by
      cases e2:bk L left key l[i] with
      | false=>rfl
      | true=>rw [mono _ i h hi e2] at e; cases e⟩,by dsimp only; omega,rfl⟩
    ·exact wpS_pure ⟨rfl,⟨by dsimp only; omega,b2,fun i hi h=>mono i _ (by dsimp only at h; omega) (by omega) e,b4⟩,by dsimp only; omega,rfl⟩
  ·rintro ⟨c1,l1,h1⟩ st3 ⟨e1,b,e3,e4⟩
   dsimp only at e1 b e3 ⊢
   rw[Nat.zero_max]at e3
   exact⟨e1,b,by omega,e4⟩
  ·rintro ⟨c1,l1,h1⟩ st3 ⟨e1,⟨b1,b2,b3,b4⟩,e3,rfl⟩
   dsimp only at e1 b1 b2 b3 b4 e3 ⊢
   subst e1
   have e:l1=h1:=by omega
   subst e
   exact wpS_pure (q _ b2 (T _ b2 b3) (F _ b4))
end
end Tim
namespace Tim
open PySem PyProof.Rows
section
variable{L:Keyed→Keyed→Bool}
theorem Ordr.irr(o:Ordr L)(x:Keyed):L x x=false:=by
 cases e:L x x with
 | false=>rfl
 | true=>rw [← o.asym x x e]; exact e.symm
theorem Sd.drop{l:List Keyed}(h:Sd L l)(i:Nat):Sd L (l.drop i):=List.Pairwise.sublist (List.drop_sublist i l) h
theorem Sd.take{l:List Keyed}(h:Sd L l)(i:Nat):Sd L (l.take i):=List.Pairwise.sublist (List.take_sublist i l) h
theorem Sd.head(o:Ordr L){a:Array Keyed}(h:Sd L a.toList){i:Nat}(hi:i<a.size):∀y∈a.toList.drop i,L y a[i]=false:=fun y hy=>by
 rw[List.drop_eq_getElem_cons (by simpa using hi)]at hy
 have h2:=h.drop i
 rw[List.drop_eq_getElem_cons (by simpa using hi)]at h2
 rcases List.mem_cons.mp hy with z|z
 ·rw [z]
  simp only[Array.getElem_toList]
  exact o.irr _
 ·have:=List.rel_of_pairwise_cons h2 z
  simpa using this
theorem Sd.lastL(o:Ordr L){a:Array Keyed}(h:Sd L a.toList){n:Nat}(h0:0<n)(hi:n-1<a.size):∀y∈a.toList.take n,L a[n-1] y=false:=fun y hy=>by
 have h2:=h.take n
 rw[Zb a n h0 hi]at hy h2
 rcases List.mem_append.mp hy with z|z
 ·exact (List.pairwise_append.mp h2).2.2 y z _ (List.mem_singleton.mpr rfl)
 ·rw [List.mem_singleton.mp z]
  exact o.irr _
structure SL(L:Keyed→Keyed→Bool)(a b out:Array Keyed)(ia ib:Nat):Prop where
 A:Sd L (out.toList++a.toList.drop ia)
 B:Sd L (out.toList++b.toList.drop ib)
variable{a b out:Array Keyed}{ia ib:Nat}
theorem SL.pushA(h:SL L a b out ia ib)(hi:ia<a.size)(c:∀y∈b.toList.drop ib,L y a[ia]=false):SL L a b (out.push a[ia]) (ia+1) ib:=by
 have h1:=h.A
 rw[List.drop_eq_getElem_cons (by simpa using hi),Array.getElem_toList]at h1
 obtain⟨x,y⟩:=Sd.split (m:=[a[ia]]) h1 h.B (fun x hx y hy=>by rw[List.mem_singleton.mp hx];exact c y hy)
 exact⟨by rw[Array.toList_push];exact x,by rw[Array.toList_push];exact y⟩
theorem SL.pushB(h:SL L a b out ia ib)(hi:ib<b.size)(c:∀y∈a.toList.drop ia,L y b[ib]=false):SL L a b (out.push b[ib]) ia (ib+1):=by
 have h1:=h.B
 rw[List.drop_eq_getElem_cons (by simpa using hi),Array.getElem_toList]at h1
 obtain⟨x,y⟩:=Sd.split (m:=[b[ib]]) h1 h.A (fun x hx y hy=>by rw[List.mem_singleton.mp hx];exact c y hy)
 exact⟨by rw[Array.toList_push];exact y,by rw[Array.toList_push];exact x⟩
theorem SL.takeA(h:SL L a b out ia ib){k:Nat}(c:∀x∈(a.extract ia (ia+k)).toList,∀y∈b.toList.drop ib,L y x=false):SL L a b (out++a.extract ia (ia+k)) (ia+k) ib:=by
 have h1:=h.A
 rw[Qc a ia (ia+k) (by omega)]at h1
 obtain⟨x,y⟩:=Sd.split h1 h.B c
 exact⟨by rw[Array.toList_append];exact x,by rw[Array.toList_append];exact y⟩
theorem SL.takeB(h:SL L a b out ia ib){k:Nat}(c:∀x∈(b.extract ib (ib+k)).toList,∀y∈a.toList.drop ia,L y x=false):SL L a b (out++b.extract ib (ib+k)) ia (ib+k):=by
 have h1:=h.B
 rw[Qc b ib (ib+k) (by omega)]at h1
 obtain⟨x,y⟩:=Sd.split h1 h.A c
 exact⟨by rw[Array.toList_append];exact y,by rw[Array.toList_append];exact x⟩
theorem SL.doneB(h:SL L a b out ia ib)(hb:b.size≤ib):Sd L (out++a.extract ia a.size++b.extract ib b.size).toList:=by
 rw[Array.toList_append,Array.toList_append,Zs,Zs,List.drop_of_length_le (l:=b.toList) (by simpa using hb),List.append_nil]
 exact h.A
theorem SL.doneA(h:SL L a b out ia ib)(ha:a.size≤ia):Sd L (out++a.extract ia a.size++b.extract ib b.size).toList:=by
 rw[Array.toList_append,Array.toList_append,Zs,Zs,List.drop_of_length_le (l:=a.toList) (by simpa using ha),List.append_nil]
 exact h.B
theorem SL.last(h:SL L a b out ia ib)(ha:ia+1=a.size)(hl:∀y∈b.toList,L a[ia] y=false):Sd L (out++b.extract ib b.size++a.extract ia a.size).toList:=by
 have hi:ia<a.size:=by omega
 have h1:=h.A
 have e:a.toList.drop ia=[a[ia]]:=by
  rw[List.drop_eq_getElem_cons (by simpa using hi),List.drop_of_length_le (by simp;omega),Array.getElem_toList]
 rw[e]at h1
 rw[Array.toList_append,Array.toList_append,Zs,Zs,e]
 refine List.pairwise_append.mpr ⟨h.B,List.pairwise_singleton _ _,fun x hx y hy=>?_⟩
 rw[List.mem_singleton.mp hy]
 rcases List.mem_append.mp hx with z|z
 ·exact (List.pairwise_append.mp h1).2.2 x z _ (List.mem_singleton.mpr rfl)
 ·exact hl x (List.mem_of_mem_drop z)
end
section
variable{prog:Program}{w:World}{A:Around}{E:Value→Shared→Prop}{s:Shared}{κ:SortKind}{a0:Array Keyed}{L:Keyed→Keyed→Bool}
theorem QI(o:Ordr L)(hc:CmpL prog w A s κ a0 L){left:Bool}{key:Keyed}{arr:Array Keyed}{lo hint:Nat}{st:SortSt}{Q:Option Nat→SortSt→Prop}(hk:kindOf st=κ)(hkey:key∈a0)(hin:In a0 arr)(hn:lo≤arr.size)(hh:hint<arr.size-lo)
  (sd:Sd L arr.toList)
  (q:∀k,k≤arr.size-lo→(∀x∈(arr.extract lo (lo+k)).toList,bk L left key x=true)→(∀x∈arr.toList.drop (lo+k),bk L left key x=false)→Q (some k) st):wpS (model prog w) A E s (gallop' left key arr lo (arr.size-lo) hint) Q st:=by
 have e:(arr.toList.drop lo).take (arr.size-lo)=arr.toList.drop lo:=List.take_of_length_le (by simp)
 refine Um o hc hk hkey hin (by omega) hh (by rw[e];exact sd.drop lo) fun k hk t f=>q k hk (fun x hx=>t x ?_) (fun x hx=>f x ?_)
 ·rw [e]
  rw[Array.toList_extract,List.extract_eq_take_drop,show lo+k-lo=k by omega]at hx
  exact hx
 ·rw [e,List.drop_drop]
  exact hx
theorem gallop_to(o:Ordr L)(hc:CmpL prog w A s κ a0 L){left:Bool}{key:Keyed}{arr:Array Keyed}{n hint:Nat}{st:SortSt}{Q:Option Nat→SortSt→Prop}(hk:kindOf st=κ)(hkey:key∈a0)(hin:In a0 arr)(hn:n≤arr.size)(hh:hint<n)
  (sd:Sd L arr.toList)
  (q:∀k,k≤n→(∀x∈arr.toList.take k,bk L left key x=true)→(∀x∈(arr.extract k n).toList,bk L left key x=false)→Q (some k) st):wpS (model prog w) A E s (gallop' left key arr 0 n hint) Q st:=by
 refine Um o hc hk hkey hin (by omega) hh (by rw[List.drop_zero];exact sd.take n) fun k hk t f=>q k hk (fun x hx=>t x ?_) (fun x hx=>f x ?_)
 ·rw [List.drop_zero,List.take_take,Nat.min_eq_left hk]
  exact hx
 ·rw [List.drop_zero]
  rw[Array.toList_extract,List.extract_eq_take_drop]at hx
  rw[List.drop_take]
  exact hx
theorem bkR{key x:Keyed}(h:bk L false key x=true):L key x=false:=by
 unfold bk at h
 simpa using h
theorem bkR'{key x:Keyed}(h:bk L false key x=false):L key x=true:=by
 unfold bk at h
 simpa using h
theorem mergeLo_L(o:Ordr L)(hc:CmpL prog w A s κ a0 L){a b:Array Keyed}{st:SortSt}{Q:Array Keyed→SortSt→Prop}(hk:Ok κ a0 st)(ha:In a0 a)(hb:In a0 b)(a1:1≤a.size)(b1:1≤b.size)
  (sda:Sd L a.toList) (sdb:Sd L b.toList) (hf:∀x∈a.toList,L x b[0]=false) (hl:∀(i:Nat)(hi:i<a.size),i+1=a.size→∀y∈b.toList,L a[i] y=false)
  (q:∀out st',out.Perm (a++b)→Sd L out.toList→SI κ a0 st st'→Q out st'):wpS (model prog w) A E s (mergeLo' a b) Q st:=by
 have P0:PL a b #[b[0]] 0 1:=by
  have:PL a b #[] 0 0:=by
   unfold PL
   simp
  exact this.pushB (by omega)
 have S0:SL L a b #[b[0]] 0 1:=by
  have:SL L a b #[] 0 0:=⟨by simpa using sda,by simpa using sdb⟩
  exact this.pushB (by omega) (by simpa using hf)
 have hdb:=fun(i:Nat) (hi:i<b.size)=>sdb.head o hi
 have hda:=fun(i:Nat) (hi:i<a.size)=>sda.head o hi
 refine wpS_bind (wpS_lift (wpAny_rule ⟨rfl,?_⟩))
 dsimp only
 refine wpS_bind (JJ (by omega) ?_)
 by_cases c1:(1==b.size)=true
 ·rw [if_pos c1]
  simp only[beq_iff_eq]at c1
  exact wpS_pure (q _ _ P0.done (S0.doneB (by omega)) ⟨hk,rfl,rfl⟩)
 rw[if_neg c1]
 by_cases c2:(0+1==a.size)=true
 ·rw [if_pos c2]
  simp only[beq_iff_eq]at c2
  exact wpS_pure (q _ _ P0.last (S0.last (by omega) (hl 0 (by omega) (by omega))) ⟨hk,rfl,rfl⟩)
 rw[if_neg c2]
 simp only[beq_iff_eq]at c1 c2
 refine wpS_bind (wpS_get ?_)
 refine wpS_bind (wpS_mono (wpS_forRange (I:=fun i c st'=>SI κ a0 st st'∧∃ (out:Array Keyed) (ia ib g:Nat),c=(none,out,ia,ib,g)∧(PL a b out ia ib∧SL L a b out ia ib)∧ia + 1 < a.size∧ib < b.size∧i + 1≤ia + ib)
  (Q:=fun c st'=>SI κ a0 st st'∧∃ r:Array Keyed,c.1=some r∧r.Perm (a++b)∧Sd L r.toList) ?step ?fin ⟨⟨hk,rfl,rfl⟩,_,_,_,_,rfl,⟨P0,S0⟩,by omega,by omega,by omega⟩) ?post)
 case fin =>
  rintro c st' ⟨_,out,ia,ib,g,_,_,h1,h2,h3⟩
  rw[Nat.zero_max]at h3
  omega
 case post =>
  rintro⟨c,r4⟩ st' ⟨S,r,h,hp⟩
  dsimp only at h ⊢
  subst h
  exact wpS_pure (q _ _ hp.1 hp.2 S)
 case step =>
  rintro i c st1 _ hi ⟨S1,out,ia,ib,g,rfl,P,h1,h2,h3⟩
  dsimp only
  refine wpS_bind (wpS_mono (wpS_forRange (I:=fun j c st'=>SI κ a0 st st'∧∃ (out:Array Keyed) (ia' ib' x y:Nat),c=(none,out,ia',ib',x,y)∧(PL a b out ia' ib'∧SL L a b out ia' ib')∧ia' + 1 < a.size∧ib' < b.size∧ia + ib + j≤ia' + ib')
   (Q:=fun c st'=>SI κ a0 st st'∧((∃ r:Array Keyed,c.1=some r∧r.Perm (a++b)∧Sd L r.toList)∨∃ (out:Array Keyed) (ia' ib' x y:Nat),c=(none,out,ia',ib',x,y)∧(PL a b out ia' ib'∧SL L a b out ia' ib')∧ia' + 1 < a.size∧ib' < b.size∧ia + ib + 1≤ia' + ib')) ?step1 ?fin1 ⟨S1,_,_,_,_,_,rfl,P,h1,h2,by omega⟩) ?post1)
  case fin1 =>
   rintro c st' ⟨S,out,ia',ib',x,y,rfl,P,h1,h2,h3⟩
   rw[Nat.zero_max]at h3
   exact⟨S,.inr ⟨out,ia',ib',x,y,rfl,P,h1,h2,by omega⟩⟩
  case step1 =>
   rintro j c st2 _ hj ⟨S2,out,ia',ib',x,y,rfl,P2,h1',h2',h3'⟩
   dsimp only
   refine wpS_bind (JJ h2' (wpS_bind (JJ (by omega) (wpS_bind (lt_L hc S2.ok.kind (hb _ (Array.getElem_mem _)) (ha _ (Array.getElem_mem _)) ?_)))))
   dsimp only
   cases bw:L (b[ib']'h2') (a[ia']'(by omega)) with
   | true =>
    rw[if_pos rfl]
    refine wpS_bind (JJ h2' ?_)
    have P3:=P2.1.pushB h2'
    have S3:=P2.2.pushB h2' fun y hy=>o.tr _ a[ia'] _ (o.asym _ _ bw) (hda ia' (by omega) y hy)
    by_cases d1:(ib'+1==b.size)=true
    ·rw [if_pos d1]
     simp only[beq_iff_eq]at d1
     exact wpS_pure ⟨S2,.inl ⟨_,rfl,P3.done,S3.doneB (by omega)⟩⟩
    rw[if_neg d1]
    simp only[beq_iff_eq]at d1
    split
    ·exact wpS_pure ⟨S2,.inr ⟨_,_,_,_,_,rfl,⟨P3,S3⟩,h1',by omega,by omega⟩⟩
    ·exact wpS_pure ⟨S2,_,_,_,_,_,rfl,⟨P3,S3⟩,h1',by omega,by omega⟩
   | false =>
    rw[if_neg Bool.false_ne_true]
    refine wpS_bind (JJ (by omega) ?_)
    have P3:=P2.1.pushA (by omega)
    have S3:=P2.2.pushA (by omega) fun y hy=>o.tr _ b[ib'] _ bw (hdb ib' h2' y hy)
    by_cases d1:(ia'+1+1==a.size)=true
    ·rw [if_pos d1]
     simp only[beq_iff_eq]at d1
     exact wpS_pure ⟨S2,.inl ⟨_,rfl,P3.last,S3.last (by omega) (hl _ (by omega) (by omega))⟩⟩
    rw[if_neg d1]
    simp only[beq_iff_eq]at d1
    split
    ·exact wpS_pure ⟨S2,.inr ⟨_,_,_,_,_,rfl,⟨P3,S3⟩,by omega,h2',by omega⟩⟩
    ·exact wpS_pure ⟨S2,_,_,_,_,_,rfl,⟨P3,S3⟩,by omega,h2',by omega⟩
  case post1 =>
   rintro c st2 ⟨S2,⟨r,h,hp⟩|⟨out,ia',ib',x,y,rfl,P2,h1',h2',h3'⟩⟩
   ·obtain ⟨c1,cr⟩:=c
    dsimp only at h ⊢
    subst h
    exact wpS_pure ⟨S2,r,rfl,hp⟩
   dsimp only
   refine wpS_bind (wpS_lift (wpAny_rule ⟨rfl,?_⟩))
   refine wpS_bind (wpS_mono (wpS_forRange (I:=fun j c st'=>SI κ a0 st st'∧∃ (out:Array Keyed) (ia' ib' g x y:Nat),c=(none,out,ia',ib',g,x,y)∧(PL a b out ia' ib'∧SL L a b out ia' ib')∧ia' + 1 < a.size∧ib' < b.size∧ia + ib + 1≤ia' + ib')
    (Q:=fun c st'=>SI κ a0 st st'∧((∃ r:Array Keyed,c.1=some r∧r.Perm (a++b)∧Sd L r.toList)∨∃ (out:Array Keyed) (ia' ib' g x y:Nat),c=(none,out,ia',ib',g,x,y)∧(PL a b out ia' ib'∧SL L a b out ia' ib')∧ia' + 1 < a.size∧ib' < b.size∧ia + ib + 1≤ia' + ib')) ?step2 ?fin2 ⟨S2,_,_,_,_,_,_,rfl,P2,h1',h2',h3'⟩) ?post2)
   case fin2 =>
    rintro c st' ⟨S,out,ia',ib',g,x,y,r⟩
    exact⟨S,.inr ⟨out,ia',ib',g,x,y,r⟩⟩
   case post2 =>
    rintro c st3 ⟨S3,⟨r,h,hp⟩|⟨out,ia',ib',g,x,y,rfl,P3,h1',h2',h3'⟩⟩
    ·obtain ⟨c1,cr⟩:=c
     dsimp only at h ⊢
     subst h
     exact wpS_pure ⟨S3,r,rfl,hp⟩
    dsimp only
    refine wpS_bind (wpS_modify (wpS_pure ⟨⟨⟨S3.ok.kind,S3.ok.fail,S3.ok.perm⟩,S3.pend,S3.arr⟩,_,_,_,_,rfl,P3,h1',h2',by omega⟩))
   case step2 =>
    rintro j c st3 _ hj ⟨S3,out,ia',ib',g,x,y,rfl,⟨P3,Z3⟩,h1',h2',h3'⟩
    dsimp only
    by_cases hg:g>1
    case' pos=>rw[if_pos hg]
    case' neg=>rw[if_neg hg]
    all_goals
     refine wpS_bind (wpS_modify ?_)
     refine wpS_bind (JJ h2' ?_)
     refine wpS_bind (QI o hc S3.ok.kind (hb _ (Array.getElem_mem _)) ha (by omega) (by omega) sda fun k hk kt kf=>?_)
     dsimp only
     have kt:∀x∈(a.extract ia' (ia'+k)).toList,∀y∈b.toList.drop ib',L y x=false:=fun x hx y hy=>o.tr x b[ib'] y (bkR (kt x hx)) (hdb ib' h2' y hy)
     have kf:∀x∈a.toList.drop (ia'+k),L x b[ib']=false:=fun x hx=>o.asym _ _ (bkR' (kf x hx))
     by_cases hk0:k>0
     case' pos =>
      rw[if_pos hk0]
      have P4:=P3.takeA k
      have Z4:=Z3.takeA kt
      by_cases d1:(ia'+k+1==a.size)=true
      ·rw [if_pos d1]
       simp only[beq_iff_eq]at d1
       exact wpS_pure ⟨⟨⟨S3.ok.kind,S3.ok.fail,S3.ok.perm⟩,S3.pend,S3.arr⟩,.inl ⟨_,rfl,P4.last,Z4.last (by omega) (hl _ (by omega) (by omega))⟩⟩
      rw[if_neg d1]
      by_cases d2:(ia'+k==a.size)=true
      ·rw [if_pos d2]
       simp only[beq_iff_eq]at d2
       exact wpS_pure ⟨⟨⟨S3.ok.kind,S3.ok.fail,S3.ok.perm⟩,S3.pend,S3.arr⟩,.inl ⟨_,rfl,P4.done,Z4.doneA (by omega)⟩⟩
      rw[if_neg d2]
      simp only[beq_iff_eq]at d1 d2
      have hI:ia'+k+1<a.size:=by omega
      have hJ:ia+ib+1≤ia'+k+ib':=by omega
      generalize out++a.extract ia' (ia'+k)=OUT at P4 Z4
      generalize ia'+k=IA at P4 Z4 hI hJ kf
     case' neg =>
      rw[if_neg hk0]
      have P4:=P3
      have Z4:=Z3
      have hI:=h1'
      have hJ:=h3'
      have kf:∀x∈a.toList.drop ia',L x b[ib']=false:=by
       have e:ia'+k=ia':=by omega
       rw[e]at kf
       exact kf
      generalize out=OUT at P4 Z4
      generalize ia'=IA at P4 Z4 hI hJ kf
     all_goals
      refine wpS_bind (JJ h2' ?_)
      have P5:=P4.pushB h2'
      have Z5:=Z4.pushB h2' kf
      by_cases d3:(ib'+1==b.size)=true
      ·rw [if_pos d3]
       simp only[beq_iff_eq]at d3
       exact wpS_pure ⟨⟨⟨S3.ok.kind,S3.ok.fail,S3.ok.perm⟩,S3.pend,S3.arr⟩,.inl ⟨_,rfl,P5.done,Z5.doneB (by omega)⟩⟩
      rw[if_neg d3]
      simp only[beq_iff_eq]at d3
      refine wpS_bind (JJ (by omega) ?_)
      refine wpS_bind (QI o hc S3.ok.kind (ha _ (Array.getElem_mem _)) hb (by omega) (by omega) sdb fun k2 hk2 kt2 kf2=>?_)
      dsimp only
      have kt2:∀x∈(b.extract (ib'+1) (ib'+1+k2)).toList,∀y∈a.toList.drop IA,L y x=false:=fun x hx y hy=>o.tr x (a[IA]'(by omega)) y (o.asym _ _ (show L x (a[IA]'(by omega))=true from kt2 x hx)) (hda IA (by omega) y hy)
      have kf2:∀x∈b.toList.drop (ib'+1+k2),L x (a[IA]'(by omega))=false:=fun x hx=>kf2 x hx
      by_cases hk3:k2>0
      case' pos =>
       rw[if_pos hk3]
       have P6:=P5.takeB k2
       have Z6:=Z5.takeB kt2
       by_cases d4:(ib'+1+k2==b.size)=true
       ·rw [if_pos d4]
        simp only[beq_iff_eq]at d4
        exact wpS_pure ⟨⟨⟨S3.ok.kind,S3.ok.fail,S3.ok.perm⟩,S3.pend,S3.arr⟩,.inl ⟨_,rfl,P6.done,Z6.doneB (by omega)⟩⟩
       rw[if_neg d4]
       simp only[beq_iff_eq]at d4
       have hB:ib'+1+k2<b.size:=by omega
       have hC:ia+ib+1≤IA+(ib'+1+k2):=by omega
      case' neg =>
       rw[if_neg hk3]
       have P6:=P5
       have Z6:=Z5
       have kf2:∀x∈b.toList.drop (ib'+1),L x (a[IA]'(by omega))=false:=by
        have e:ib'+1+k2=ib'+1:=by omega
        rw[e]at kf2
        exact kf2
       have hB:ib'+1<b.size:=by omega
       have hC:ia+ib+1≤IA+(ib'+1):=by omega
      all_goals
       refine wpS_bind (JJ (by omega) ?_)
       have P7:=P6.pushA (by omega)
       have Z7:=Z6.pushA (by omega) kf2
       by_cases d5:(IA+1+1==a.size)=true
       ·rw [if_pos d5]
        simp only[beq_iff_eq]at d5
        exact wpS_pure ⟨⟨⟨S3.ok.kind,S3.ok.fail,S3.ok.perm⟩,S3.pend,S3.arr⟩,.inl ⟨_,rfl,P7.last,Z7.last (by omega) (hl _ (by omega) (by omega))⟩⟩
       rw[if_neg d5]
       simp only[beq_iff_eq]at d5
       by_cases d6:(decide (k<7)&&decide (k2<7))=true
       ·rw [if_pos d6]
        exact wpS_pure ⟨⟨⟨S3.ok.kind,S3.ok.fail,S3.ok.perm⟩,S3.pend,S3.arr⟩,.inr ⟨_,_,_,_,_,_,rfl,⟨P7,Z7⟩,by omega,hB,by omega⟩⟩
       ·rw [if_neg d6]
        exact wpS_pure ⟨⟨⟨S3.ok.kind,S3.ok.fail,S3.ok.perm⟩,S3.pend,S3.arr⟩,_,_,_,_,_,_,rfl,⟨P7,Z7⟩,by omega,hB,by omega⟩
end
end Tim
namespace Tim
open PySem PyProof.Rows
section
variable{L:Keyed→Keyed→Bool}
structure SH(L:Keyed→Keyed→Bool)(a b out:Array Keyed)(na nb:Nat):Prop where
 A:Sd L (a.toList.take na++out.toList.reverse)
 B:Sd L (b.toList.take nb++out.toList.reverse)
variable{a b out:Array Keyed}{na nb:Nat}
theorem SH.downA(h:SH L a b out na nb)(h0:0<na)(hi:na-1<a.size)(c:∀y∈b.toList.take nb,L a[na-1] y=false):SH L a b (out.push a[na-1]) (na-1) nb:=by
 have h1:=h.A
 rw[Zb a na h0 hi]at h1
 obtain⟨x,y⟩:=Sd.splitR h1 h.B (fun y hy x hx=>by rw[List.mem_singleton.mp hx];exact c y hy)
 have e:(out.push a[na-1]).toList.reverse=[a[na-1]]++out.toList.reverse:=by simp
 exact⟨by rw[e];exact x,by rw[e];exact y⟩
theorem SH.downB(h:SH L a b out na nb)(h0:0<nb)(hi:nb-1<b.size)(c:∀y∈a.toList.take na,L b[nb-1] y=false):SH L a b (out.push b[nb-1]) na (nb-1):=by
 have h1:=h.B
 rw[Zb b nb h0 hi]at h1
 obtain⟨x,y⟩:=Sd.splitR h1 h.A (fun y hy x hx=>by rw[List.mem_singleton.mp hx];exact c y hy)
 have e:(out.push b[nb-1]).toList.reverse=[b[nb-1]]++out.toList.reverse:=by simp
 exact⟨by rw[e];exact y,by rw[e];exact x⟩
theorem SH.takeA(h:SH L a b out na nb){k:Nat}(hk:k≤na)(c:∀y∈b.toList.take nb,∀x∈(a.extract k na).toList,L x y=false):SH L a b (out++(a.extract k na).reverse) k nb:=by
 have h1:=h.A
 rw[US a k na hk]at h1
 obtain⟨x,y⟩:=Sd.splitR h1 h.B c
 have e:(out++(a.extract k na).reverse).toList.reverse=(a.extract k na).toList++out.toList.reverse:=by
  simp only[Array.toList_append,Array.toList_reverse,List.reverse_append,List.reverse_reverse]
 exact⟨by rw[e];exact x,by rw[e];exact y⟩
theorem SH.takeB(h:SH L a b out na nb){k:Nat}(hk:k≤nb)(c:∀y∈a.toList.take na,∀x∈(b.extract k nb).toList,L x y=false):SH L a b (out++(b.extract k nb).reverse) na k:=by
 have h1:=h.B
 rw[US b k nb hk]at h1
 obtain⟨x,y⟩:=Sd.splitR h1 h.A c
 have e:(out++(b.extract k nb).reverse).toList.reverse=(b.extract k nb).toList++out.toList.reverse:=by
  simp only[Array.toList_append,Array.toList_reverse,List.reverse_append,List.reverse_reverse]
 exact⟨by rw[e];exact y,by rw[e];exact x⟩
theorem SH.doneA(h:SH L a b out na nb)(hn:na=0):Sd L (a.extract 0 na++b.extract 0 nb++out.reverse).toList:=by
 subst hn
 rw[Array.toList_append,Array.toList_append,YQ,YQ,Array.toList_reverse,List.take_zero,List.nil_append]
 exact h.B
theorem SH.doneB(h:SH L a b out na nb)(hn:nb=0):Sd L (a.extract 0 na++b.extract 0 nb++out.reverse).toList:=by
 subst hn
 rw[Array.toList_append,Array.toList_append,YQ,YQ,Array.toList_reverse,List.take_zero,List.append_nil]
 exact h.A
theorem SH.first(h:SH L a b out na nb)(b1:1≤b.size)(hn:nb=1)(hf:∀x∈a.toList,L x b[0]=false):Sd L (b.extract 0 nb++a.extract 0 na++out.reverse).toList:=by
 subst hn
 rw[Array.toList_append,Array.toList_append,YQ,YQ,Array.toList_reverse,List.append_assoc]
 have e:b.toList.take 1=[b[0]]:=by
  have:=Zb b 1 (by omega) (by omega)
  simpa using this
 have h2:=h.B
 rw[e]at h2 ⊢
 refine List.pairwise_append.mpr ⟨List.pairwise_singleton _ _,h.A,fun x hx y hy=>?_⟩
 rw[List.mem_singleton.mp hx]
 rcases List.mem_append.mp hy with z|z
 ·exact hf y (List.mem_of_mem_take z)
 ·exact (List.pairwise_append.mp h2).2.2 _ (List.mem_singleton.mpr rfl) y z
end
section
variable{prog:Program}{w:World}{A:Around}{E:Value→Shared→Prop}{s:Shared}{κ:SortKind}{a0:Array Keyed}{L:Keyed→Keyed→Bool}
theorem mergeHi_L(o:Ordr L)(hc:CmpL prog w A s κ a0 L){a b:Array Keyed}{st:SortSt}{Q:Array Keyed→SortSt→Prop}(hk:Ok κ a0 st)(ha:In a0 a)(hb:In a0 b)(a1:1≤a.size)(b1:1≤b.size)
  (sda:Sd L a.toList) (sdb:Sd L b.toList) (hf:∀x∈a.toList,L x b[0]=false) (hl:∀y∈b.toList,L (a[a.size-1]'(by omega)) y=false)
  (q:∀out st',out.Perm (a++b)→Sd L out.toList→SI κ a0 st st'→Q out st'):wpS (model prog w) A E s (mergeHi' a b) Q st:=by
 have P0:PH a b #[a[a.size-1]] (a.size-1) b.size:=by
  have:PH a b #[] a.size b.size:=by
   unfold PH
   rw[List.take_of_length_le (by simp),List.take_of_length_le (by simp)]
   simp
  exact this.downA (by omega) (by omega)
 have S0:SH L a b #[a[a.size-1]] (a.size-1) b.size:=by
  have:SH L a b #[] a.size b.size:=by
   constructor
   ·rw [List.take_of_length_le (by simp)]
    simpa using sda
   ·rw [List.take_of_length_le (by simp)]
    simpa using sdb
  exact this.downA (by omega) (by omega) fun y hy=>hl y (List.mem_of_mem_take hy)
 have ldb:=fun(n:Nat) (h0:0<n) (hi:n-1<b.size)=>sdb.lastL o h0 hi
 have lda:=fun(n:Nat) (h0:0<n) (hi:n-1<a.size)=>sda.lastL o h0 hi
 refine wpS_bind (wpS_lift (wpAny_rule ⟨rfl,?_⟩))
 dsimp only
 refine wpS_bind (JJ (by omega) ?_)
 by_cases c1:(a.size-1==0)=true
 ·rw [if_pos c1]
  simp only[beq_iff_eq]at c1
  exact wpS_pure (q _ _ P0.done (S0.doneA (by omega)) ⟨hk,rfl,rfl⟩)
 rw[if_neg c1]
 by_cases c2:(b.size==1)=true
 ·rw [if_pos c2]
  simp only[beq_iff_eq]at c2
  exact wpS_pure (q _ _ P0.first (S0.first b1 (by omega) hf) ⟨hk,rfl,rfl⟩)
 rw[if_neg c2]
 simp only[beq_iff_eq]at c1 c2
 refine wpS_bind (wpS_get ?_)
 refine wpS_bind (wpS_mono (wpS_forRange (I:=fun i c st'=>SI κ a0 st st'∧∃ (out:Array Keyed) (na nb g:Nat),c=(none,na,nb,out,g)∧(PH a b out na nb∧SH L a b out na nb)∧1≤na∧na≤a.size∧2≤nb∧nb≤b.size∧na + nb + i + 1≤a.size + b.size)
  (Q:=fun c st'=>SI κ a0 st st'∧∃ r:Array Keyed,c.1=some r∧r.Perm (a++b)∧Sd L r.toList) ?step ?fin ⟨⟨hk,rfl,rfl⟩,_,_,_,_,rfl,⟨P0,S0⟩,by omega,by omega,by omega,by omega,by omega⟩) ?post)
 case fin =>
  rintro c st' ⟨_,out,na,nb,g,_,_,h1,h1b,h2,h2b,h3⟩
  rw[Nat.zero_max]at h3
  omega
 case post =>
  rintro⟨c,r4⟩ st' ⟨S,r,h,hp⟩
  dsimp only at h ⊢
  subst h
  exact wpS_pure (q _ _ hp.1 hp.2 S)
 case step =>
  rintro i c st1 _ hi ⟨S1,out,na,nb,g,rfl,P,h1,h1b,h2,h2b,h3⟩
  dsimp only
  refine wpS_bind (wpS_mono (wpS_forRange (I:=fun j c st'=>SI κ a0 st st'∧∃ (out:Array Keyed) (ma mb x y:Nat),c=(none,ma,mb,out,x,y)∧(PH a b out ma mb∧SH L a b out ma mb)∧1≤ma∧ma≤a.size∧2≤mb∧mb≤b.size∧ma + mb + j≤na + nb)
   (Q:=fun c st'=>SI κ a0 st st'∧((∃ r:Array Keyed,c.1=some r∧r.Perm (a++b)∧Sd L r.toList)∨∃ (out:Array Keyed) (ma mb x y:Nat),c=(none,ma,mb,out,x,y)∧(PH a b out ma mb∧SH L a b out ma mb)∧1≤ma∧ma≤a.size∧2≤mb∧mb≤b.size∧ma + mb + 1≤na + nb)) ?step1 ?fin1 ⟨S1,_,_,_,_,_,rfl,P,h1,h1b,h2,h2b,by omega⟩) ?post1)
  case fin1 =>
   rintro c st' ⟨S,out,ma,mb,x,y,rfl,P,h1,h1b,h2,h2b,h3⟩
   rw[Nat.zero_max]at h3
   exact⟨S,.inr ⟨out,ma,mb,x,y,rfl,P,h1,h1b,h2,h2b,by omega⟩⟩
  case step1 =>
   rintro j c st2 _ hj ⟨S2,out,ma,mb,x,y,rfl,P2,h1',h1b',h2',h2b',h3'⟩
   dsimp only
   refine wpS_bind (JJ (by omega) (wpS_bind (JJ (by omega) (wpS_bind (lt_L hc S2.ok.kind (hb _ (Array.getElem_mem _)) (ha _ (Array.getElem_mem _)) ?_)))))
   dsimp only
   cases bw:L (b[mb-1]'(by omega)) (a[ma-1]'(by omega)) with
   | true =>
    rw[if_pos rfl]
    refine wpS_bind (JJ (by omega) ?_)
    have P3:=P2.1.downA (by omega) (by omega)
    have Z3:=P2.2.downA (by omega) (by omega) fun y hy=>o.tr y b[mb-1] _ (ldb mb (by omega) (by omega) y hy) (o.asym _ _ bw)
    by_cases d1:(ma-1==0)=true
    ·rw [if_pos d1]
     simp only[beq_iff_eq]at d1
     exact wpS_pure ⟨S2,.inl ⟨_,rfl,P3.done,Z3.doneA (by omega)⟩⟩
    rw[if_neg d1]
    simp only[beq_iff_eq]at d1
    split
    ·exact wpS_pure ⟨S2,.inr ⟨_,_,_,_,_,rfl,⟨P3,Z3⟩,by omega,by omega,by omega,by omega,by omega⟩⟩
    ·exact wpS_pure ⟨S2,_,_,_,_,_,rfl,⟨P3,Z3⟩,by omega,by omega,by omega,by omega,by omega⟩
   | false =>
    rw[if_neg Bool.false_ne_true]
    refine wpS_bind (JJ (by omega) ?_)
    have P3:=P2.1.downB (by omega) (by omega)
    have Z3:=P2.2.downB (by omega) (by omega) fun y hy=>o.tr y a[ma-1] _ (lda ma (by omega) (by omega) y hy) bw
    by_cases d1:(mb-1==1)=true
    ·rw [if_pos d1]
     simp only[beq_iff_eq]at d1
     exact wpS_pure ⟨S2,.inl ⟨_,rfl,P3.first,Z3.first b1 (by omega) hf⟩⟩
    rw[if_neg d1]
    simp only[beq_iff_eq]at d1
    split
    ·exact wpS_pure ⟨S2,.inr ⟨_,_,_,_,_,rfl,⟨P3,Z3⟩,by omega,by omega,by omega,by omega,by omega⟩⟩
    ·exact wpS_pure ⟨S2,_,_,_,_,_,rfl,⟨P3,Z3⟩,by omega,by omega,by omega,by omega,by omega⟩
  case post1 =>
   rintro c st2 ⟨S2,⟨r,h,hp⟩|⟨out,ma,mb,x,y,rfl,P2,h1',h1b',h2',h2b',h3'⟩⟩
   ·obtain ⟨c1,cr⟩:=c
    dsimp only at h ⊢
    subst h
    exact wpS_pure ⟨S2,r,rfl,hp⟩
   dsimp only
   refine wpS_bind (wpS_lift (wpAny_rule ⟨rfl,?_⟩))
   refine wpS_bind (wpS_mono (wpS_forRange (I:=fun j c st'=>SI κ a0 st st'∧∃ (out:Array Keyed) (ma mb g x y:Nat),c=(none,ma,mb,out,g,x,y)∧(PH a b out ma mb∧SH L a b out ma mb)∧1≤ma∧ma≤a.size∧2≤mb∧mb≤b.size∧ma + mb + 1≤na + nb)
    (Q:=fun c st'=>SI κ a0 st st'∧((∃ r:Array Keyed,c.1=some r∧r.Perm (a++b)∧Sd L r.toList)∨∃ (out:Array Keyed) (ma mb g x y:Nat),c=(none,ma,mb,out,g,x,y)∧(PH a b out ma mb∧SH L a b out ma mb)∧1≤ma∧ma≤a.size∧2≤mb∧mb≤b.size∧ma + mb + 1≤na + nb)) ?step2 ?fin2 ⟨S2,_,_,_,_,_,_,rfl,P2,h1',h1b',h2',h2b',h3'⟩) ?post2)
   case fin2 =>
    rintro c st' ⟨S,out,ma,mb,g,x,y,r⟩
    exact⟨S,.inr ⟨out,ma,mb,g,x,y,r⟩⟩
   case post2 =>
    rintro c st3 ⟨S3,⟨r,h,hp⟩|⟨out,ma,mb,g,x,y,rfl,P3,h1',h1b',h2',h2b',h3'⟩⟩
    ·obtain ⟨c1,cr⟩:=c
     dsimp only at h ⊢
     subst h
     exact wpS_pure ⟨S3,r,rfl,hp⟩
    dsimp only
    refine wpS_bind (wpS_modify (wpS_pure ⟨⟨⟨S3.ok.kind,S3.ok.fail,S3.ok.perm⟩,S3.pend,S3.arr⟩,_,_,_,_,rfl,P3,by omega,by omega,by omega,by omega,by omega⟩))
   case step2 =>
    rintro j c st3 _ hj ⟨S3,out,ma,mb,g,x,y,rfl,⟨P3,Z3⟩,h1',h1b',h2',h2b',h3'⟩
    dsimp only
    by_cases hg:g>1
    case' pos=>rw[if_pos hg]
    case' neg=>rw[if_neg hg]
    all_goals
     refine wpS_bind (wpS_modify ?_)
     refine wpS_bind (JJ (by omega) ?_)
     refine wpS_bind (gallop_to o hc S3.ok.kind (hb _ (Array.getElem_mem _)) ha (by omega) (by omega) sda fun k hk kt kf=>?_)
     dsimp only
     have kf:∀y∈b.toList.take mb,∀x∈(a.extract k ma).toList,L x y=false:=fun y hy x hx=>o.tr y (b[mb-1]'(by omega)) x (ldb mb (by omega) (by omega) y hy) (o.asym _ _ (bkR' (kf x hx)))
     have kt:∀x∈a.toList.take k,L (b[mb-1]'(by omega)) x=false:=fun x hx=>bkR (kt x hx)
     by_cases hk0:ma-k>0
     case' pos =>
      rw[if_pos hk0]
      have P4:=P3.takeA hk
      have Z4:=Z3.takeA hk kf
      by_cases d1:(k==0)=true
      ·rw [if_pos d1]
       simp only[beq_iff_eq]at d1
       exact wpS_pure ⟨⟨⟨S3.ok.kind,S3.ok.fail,S3.ok.perm⟩,S3.pend,S3.arr⟩,.inl ⟨_,rfl,P4.done,Z4.doneA (by omega)⟩⟩
      rw[if_neg d1]
      simp only[beq_iff_eq]at d1
      have hI:1≤k∧k≤a.size:=by omega
      have hJ:k+mb+1≤na+nb:=by omega
      generalize hX:ma-k=X
      generalize out++(a.extract k ma).reverse=OUT at P4 Z4
      clear hk0 hX hk kf
      generalize k=M at *
     case' neg =>
      rw[if_neg hk0]
      have P4:=P3
      have Z4:=Z3
      have ek:k=ma:=by omega
      rw[ek]at kt
      have hI:1≤ma∧ma≤a.size:=by omega
      have hJ:ma+mb+1≤na+nb:=by omega
      generalize hX:ma-k=X
      generalize out=OUT at P4 Z4
      clear hk0 hX hk P3 Z3 h1' h1b' h3' kf ek
      generalize ma=M at *
     all_goals
      refine wpS_bind (JJ (by omega) ?_)
      have P5:=P4.downB (by omega) (by omega)
      have Z5:=Z4.downB (by omega) (by omega) kt
      by_cases d3:(mb-1==1)=true
      ·rw [if_pos d3]
       simp only[beq_iff_eq]at d3
       exact wpS_pure ⟨⟨⟨S3.ok.kind,S3.ok.fail,S3.ok.perm⟩,S3.pend,S3.arr⟩,.inl ⟨_,rfl,P5.first,Z5.first b1 (by omega) hf⟩⟩
      rw[if_neg d3]
      simp only[beq_iff_eq]at d3
      refine wpS_bind (JJ (by omega) ?_)
      refine wpS_bind (gallop_to o hc S3.ok.kind (ha _ (Array.getElem_mem _)) hb (by omega) (by omega) sdb fun k2 hk2 kt2 kf2=>?_)
      dsimp only
      have kf2:∀y∈a.toList.take M,∀x∈(b.extract k2 (mb-1)).toList,L x y=false:=fun y hy x hx=>o.tr y (a[M-1]'(by omega)) x (lda M (by omega) (by omega) y hy) (show L x (a[M-1]'(by omega))=false from kf2 x hx)
      have kt2:∀x∈b.toList.take k2,L (a[M-1]'(by omega)) x=false:=fun x hx=>o.asym _ _ (show L x (a[M-1]'(by omega))=true from kt2 x hx)
      by_cases hk3:mb-1-k2>0
      case' pos =>
       rw[if_pos hk3]
       have P6:=P5.takeB hk2
       have Z6:=Z5.takeB hk2 kf2
       by_cases d4:(k2==1)=true
       ·rw [if_pos d4]
        simp only[beq_iff_eq]at d4
        exact wpS_pure ⟨⟨⟨S3.ok.kind,S3.ok.fail,S3.ok.perm⟩,S3.pend,S3.arr⟩,.inl ⟨_,rfl,P6.first,Z6.first b1 (by omega) hf⟩⟩
       rw[if_neg d4]
       by_cases d5:(k2==0)=true
       ·rw [if_pos d5]
        simp only[beq_iff_eq]at d5
        exact wpS_pure ⟨⟨⟨S3.ok.kind,S3.ok.fail,S3.ok.perm⟩,S3.pend,S3.arr⟩,.inl ⟨_,rfl,P6.done,Z6.doneB (by omega)⟩⟩
       rw[if_neg d5]
       simp only[beq_iff_eq]at d4 d5
      case' neg =>
       rw[if_neg hk3]
       have P6:=P5
       have Z6:=Z5
       have ek2:k2=mb-1:=by omega
       rw[ek2]at kt2
      all_goals
       refine wpS_bind (JJ (by omega) ?_)
       have P7:=P6.downA (by omega) (by omega)
       have Z7:=Z6.downA (by omega) (by omega) kt2
       by_cases d6:(M-1==0)=true
       ·rw [if_pos d6]
        simp only[beq_iff_eq]at d6
        exact wpS_pure ⟨⟨⟨S3.ok.kind,S3.ok.fail,S3.ok.perm⟩,S3.pend,S3.arr⟩,.inl ⟨_,rfl,P7.done,Z7.doneA (by omega)⟩⟩
       rw[if_neg d6]
       simp only[beq_iff_eq]at d6
       split
       ·exact wpS_pure ⟨⟨⟨S3.ok.kind,S3.ok.fail,S3.ok.perm⟩,S3.pend,S3.arr⟩,.inr ⟨_,_,_,_,_,_,rfl,⟨P7,Z7⟩,by omega,by omega,by omega,by omega,by omega⟩⟩
       ·exact wpS_pure ⟨⟨⟨S3.ok.kind,S3.ok.fail,S3.ok.perm⟩,S3.pend,S3.arr⟩,_,_,_,_,_,_,rfl,⟨P7,Z7⟩,by omega,by omega,by omega,by omega,by omega⟩
end
end Tim
namespace Tim
open PySem PyProof.Rows
section
variable{L:Keyed→Keyed→Bool}
def RS(L:Keyed→Keyed→Bool):List (Nat×Nat×Nat)→List Keyed→Prop
 | [],_=>True
 | r::rest,l=>Sd L (l.take r.2.1)∧RS L rest (l.drop r.2.1)
theorem Chain.ge:∀{rs:List (Nat×Nat×Nat)}{b e i:Nat}{x:Nat×Nat×Nat},Chain rs b e→rs[i]?=some x→b≤x.1∧x.1+x.2.1≤e
 | [],_,_,_,_,_,h=>by simp at h
 | r::rest,b,e,0,x,h,h1=>by
  obtain rfl:r=x:=by simpa using h1
  have:=h.2.2.le
  have:=h.1
  omega
 | r::rest,b,e,i + 1,x,h,h1=>by
  have:=h.2.2.ge (i:=i) (by simpa using h1)
  omega
theorem RS.at:∀{rs:List (Nat×Nat×Nat)}{b e i:Nat}{x:Nat×Nat×Nat}{l:List Keyed},Chain rs b e→RS L rs l→rs[i]?=some x→Sd L ((l.drop (x.1-b)).take x.2.1)
 | [],_,_,_,_,_,_,_,h=>by simp at h
 | r::rest,b,e,0,x,l,c,h,h1=>by
  obtain rfl:r=x:=by simpa using h1
  rw[show r.1-b=0 by have:=c.1;omega,List.drop_zero]
  exact h.1
 | r::rest,b,e,i + 1,x,l,c,h,h1=>by
  have h1:rest[i]?=some x:=by simpa using h1
  have g:=c.2.2.ge h1
  have:=RS.at c.2.2 h.2 h1
  rw[List.drop_drop,show r.2.1+(x.1-(b+r.2.1))=x.1-b by omega]at this
  exact this
theorem RS.put:∀{rs:List (Nat×Nat×Nat)}{b e i:Nat}{x y:Nat×Nat×Nat}{l M:List Keyed},Chain rs b e→RS L rs l→e-b≤l.length→rs[i]?=some x→rs[i+1]?=some y→M.length=x.2.1+y.2.1→Sd L M →
  RS L ((rs.set i (x.1,x.2.1+y.2.1,x.2.2)).eraseIdx (i+1)) (l.take (x.1-b)++(M++l.drop (x.1-b+(x.2.1+y.2.1))))
 | [],_,_,_,_,_,_,_,_,_,_,h,_,_,_=>by simp at h
 | r::rest,b,e,0,x,y,l,M,c,h,hl,h1,h2,hM,sM=>by
  obtain rfl:r=x:=by simpa using h1
  cases rest with
  | nil=>simp at h2
  | cons r2 rest =>
   obtain rfl:r2=y:=by simpa using h2
   rw[show r.1-b=0 by have:=c.1;omega,List.take_zero,List.nil_append,show 0+(r.2.1+r2.2.1)=r.2.1+r2.2.1 from Nat.zero_add _]
   show Sd L ((M++l.drop (r.2.1+r2.2.1)).take (r.2.1+r2.2.1))∧RS L rest ((M++l.drop (r.2.1+r2.2.1)).drop (r.2.1+r2.2.1))
   rw[← hM,List.take_left',List.drop_left',hM]
   ·refine ⟨sM,?_⟩
    have:=h.2.2
    rw[List.drop_drop]at this
    exact this
   ·rfl
   ·rfl
 | r::rest,b,e,i + 1,x,y,l,M,c,h,hl,h1,h2,hM,sM=>by
  have h1:rest[i]?=some x:=by simpa using h1
  have h2:rest[i+1]?=some y:=by simpa using h2
  have g:=c.2.2.ge h1
  have g2:=c.2.2.ge h2
  have hl2:e-(b+r.2.1)≤(l.drop r.2.1).length:=by rw[List.length_drop];omega
  have ih:=RS.put c.2.2 h.2 hl2 h1 h2 hM sM
  have e1:x.1-b=r.2.1+(x.1-(b+r.2.1)):=by omega
  rw[List.drop_drop]at ih
  show RS L (r::(rest.set i _).eraseIdx (i+1)) _
  refine⟨?_,?_⟩
  ·rw [List.take_append_of_le_length (by rw [List.length_take]; omega),List.take_take,Nat.min_eq_left (by omega)]
   exact h.1
  ·have e2:(l.take (x.1 - b)++(M++l.drop (x.1 - b + (x.2.1 + y.2.1)))).drop r.2.1=(l.drop r.2.1).take (x.1 - (b + r.2.1))++(M++l.drop (r.2.1 + (x.1 - (b + r.2.1) + (x.2.1 + y.2.1)))):=by
    rw[List.drop_append_of_le_length (by rw[List.length_take];omega),List.drop_take,show x.1-b-r.2.1=x.1-(b+r.2.1) by omega,show x.1-b+(x.2.1+y.2.1)=r.2.1+(x.1-(b+r.2.1)+(x.2.1+y.2.1)) by omega]
   rw[e2]
   exact ih
theorem RS.snoc:∀{rs:List (Nat×Nat×Nat)}{b e n p:Nat}{l:List Keyed},Chain rs b e→RS L rs l→Sd L ((l.drop (e-b)).take n)→RS L (rs++[(e,n,p)]) l
 | [],b,e,n,p,l,c,_,h=>by
  have c:b=e:=c
  rw[show e-b=0 by omega,List.drop_zero]at h
  exact⟨h,trivial⟩
 | r::rest,b,e,n,p,l,c,h,hs=>by
  have:=c.2.2.le
  refine⟨h.1,RS.snoc c.2.2 h.2 ?_⟩
  rw[List.drop_drop,show r.2.1+(e-(b+r.2.1))=e-b by omega]
  exact hs
theorem RS.mod:∀{rs:List (Nat×Nat×Nat)}{l:List Keyed}(i pw:Nat),RS L rs l→RS L (rs.modify i fun x=>(x.1,x.2.1,pw)) l
 | [],_,i,_,h=>by cases i <;> exact h
 | _::_,_,0,_,h=>h
 | _::_,_,i + 1,pw,h=>⟨h.1,h.2.mod i pw⟩
theorem RS.same:∀{rs:List (Nat×Nat×Nat)}{b e:Nat}{l l':List Keyed},Chain rs b e→RS L rs l→l'.take (e-b)=l.take (e-b)→RS L rs l'
 | [],_,_,_,_,_,_,_=>trivial
 | r::rest,b,e,l,l',c,h,hs=>by
  have:=c.2.2.le
  refine⟨?_,RS.same c.2.2 h.2 ?_⟩
  ·have:=congrArg (List.take r.2.1) hs
   rw[List.take_take,List.take_take,Nat.min_eq_left (by omega)]at this
   rw[this]
   exact h.1
  ·have:=congrArg (List.drop r.2.1) hs
   rw[List.drop_take,List.drop_take]at this
   rw[show e-(b+r.2.1)=e-b-r.2.1 by omega]
   exact this
theorem merged(o:Ordr L){A B out:List Keyed}{k k2:Nat}{b0 al:Keyed}(sA:Sd L A)(sB:Sd L B)(hb:∀y∈B,L y b0=false)(hal:∀x∈A,L al x=false)
  (t1:∀x∈A.take k,L b0 x=false) (f2:∀x∈B.drop k2,L x al=false) (so:Sd L out) (hp:out.Perm (A.drop k++B.take k2)):Sd L (A.take k++(out++B.drop k2)):=by
 have sA2:Sd L (A.take k++A.drop k):=by rw[List.take_append_drop];exact sA
 have sB2:Sd L (B.take k2++B.drop k2):=by rw[List.take_append_drop];exact sB
 obtain⟨a1,a2,a3⟩:=List.pairwise_append.mp sA2
 obtain⟨b1,b2,b3⟩:=List.pairwise_append.mp sB2
 have om:∀x∈out,x∈A.drop k∨x∈B.take k2:=fun x hx=>List.mem_append.mp (hp.mem_iff.mp hx)
 refine List.pairwise_append.mpr ⟨a1,List.pairwise_append.mpr ⟨so,b2,fun x hx y hy=>?_⟩,fun x hx y hy=>?_⟩
 ·rcases om x hx with z | z
  ·exact o.tr x al y (hal x (List.mem_of_mem_drop z)) (f2 y hy)
  ·exact b3 x z y hy
 ·have inB:y∈B→L y x=false:=fun z=>o.tr x b0 y (t1 x hx) (hb y z)
  rcases List.mem_append.mp hy with z|z
  ·rcases om y z with z | z
   ·exact a3 x hx y z
   ·exact inB (List.mem_of_mem_take z)
  ·exact inB (List.mem_of_mem_drop z)
end
section
variable{prog:Program}{w:World}{A:Around}{E:Value→Shared→Prop}{s:Shared}{κ:SortKind}{a0:Array Keyed}{L:Keyed→Keyed→Bool}
theorem mergeAt_L(o:Ordr L)(hc:CmpL prog w A s κ a0 L){i lo:Nat}{st:SortSt}{Q:Bool→SortSt→Prop}(ok:Ok κ a0 st)(hr:Chain (pendingOf st).toList 0 lo)(hs:RS L (pendingOf st).toList (arrOf st).toList)(hlo:lo≤a0.size)(hi:i+1<(pendingOf st).size)
  (q:∀st',Ok κ a0 st'→Chain (pendingOf st').toList 0 lo→RS L (pendingOf st').toList (arrOf st').toList→(arrOf st').toList.drop lo=(arrOf st).toList.drop lo→(pendingOf st').size+1=(pendingOf st).size→Q true st'):wpS (model prog w) A E s (mergeAt' i) Q st:=by
 have e1:(pendingOf st)[i]?=some (pendingOf st)[i]:=Array.getElem?_eq_getElem (by omega)
 have e2:(pendingOf st)[i+1]?=some (pendingOf st)[i+1]:=Array.getElem?_eq_getElem hi
 generalize (pendingOf st)[i]=x at e1
 generalize (pendingOf st)[i+1]=y at e2
 have el1:(pendingOf st).toList[i]?=some x:=by rw[Array.getElem?_toList];exact e1
 have el2:(pendingOf st).toList[i+1]?=some y:=by rw[Array.getElem?_toList];exact e2
 obtain⟨g1,g2,g3,g4,g5⟩:=hr.merge el1 el2
 have hsz:(arrOf st).size=a0.size:=ok.perm.size_eq
 have sA:=RS.at hr hs el1
 have sB:=RS.at hr hs el2
 have put:=fun(M:List Keyed)=>RS.put (M:=M) hr hs (by rw[Array.length_toList];omega) el1 el2
 obtain⟨sa,na,pw⟩:=x
 obtain⟨sb,nb,pw2⟩:=y
 dsimp only at g1 g2 g3 g4 g5 sA sB put
 rw[Nat.sub_zero]at sA sB
 simp only[Nat.sub_zero]at put
 have hin:In a0 (arrOf st):=fun z hz=>ok.perm.mem_iff.mp hz
 refine wpS_bind (wpS_get ?_)
 show wpS _ _ _ _ (match ((pendingOf st)[i]?,(pendingOf st)[i+1]?) with|_=>_) Q st
 rw[e1,e2]
 dsimp only
 have pe:((((pendingOf st).setIfInBounds i (sa,na+nb,pw)).eraseIdxIfInBounds (i+1)).toList)=((pendingOf st).toList.set i (sa,na+nb,pw)).eraseIdx (i+1):=by
  rw[Array.eraseIdxIfInBounds_eq]
  simp[hi]
 have ps:(((pendingOf st).setIfInBounds i (sa,na+nb,pw)).eraseIdxIfInBounds (i+1)).size+1=(pendingOf st).size:=by
  have:=congrArg List.length pe
  rw[Array.length_toList,List.length_eraseIdx_of_lt (by simpa using hi),List.length_set,Array.length_toList]at this
  omega
 have okn:∀(pp:Array (Nat×Nat×Nat))(g:Nat),Ok κ a0 (SortSt.mk' (kindOf st) (arrOf st) pp g (failedOf st)):=fun _ _=>⟨ok.kind,ok.fail,ok.perm⟩
 refine wpS_bind (wpS_set ?_)
 -- the two runs,as lists
 have lA:(((arrOf st).toList.drop sa).take na).length=na:=by rw[List.length_take,List.length_drop,Array.length_toList];omega
 have lB:(((arrOf st).toList.drop sb).take nb).length=nb:=by rw[List.length_take,List.length_drop,Array.length_toList];omega
 have whole:(arrOf st).toList=(arrOf st).toList.take sa++((((arrOf st).toList.drop sa).take na++((arrOf st).toList.drop sb).take nb)++(arrOf st).toList.drop (sa+(na+nb))):=by
  have t1:(arrOf st).toList.drop sa=((arrOf st).toList.drop sa).take na++(arrOf st).toList.drop sb:=by
   conv=>lhs;rw[← List.take_append_drop na ((arrOf st).toList.drop sa),List.drop_drop]
   rw[g1]
  have t2:(arrOf st).toList.drop sb=((arrOf st).toList.drop sb).take nb++(arrOf st).toList.drop (sa+(na+nb)):=by
   conv=>lhs;rw[← List.take_append_drop nb ((arrOf st).toList.drop sb),List.drop_drop]
   rw[show sb+nb=sa+(na+nb) by omega]
  rw[List.append_assoc,← t2,← t1,List.take_append_drop]
 have headB:∀y∈((arrOf st).toList.drop sb).take nb,L y ((arrOf st)[sb]'(by omega))=false:=fun y hy=>by
  obtain⟨j,hj,rfl⟩:=List.mem_iff_getElem.mp hy
  rw[lB]at hj
  have e0:(arrOf st)[sb]'(by omega)=(((arrOf st).toList.drop sb).take nb)[0]'(by omega):=by
   rw[List.getElem_take,List.getElem_drop,Array.getElem_toList]
   rfl
  rw[e0]
  by_cases z:j=0
  ·subst z; exact o.irr _
  ·exact List.pairwise_iff_getElem.mp sB 0 j (by omega) (by omega) (by omega)
 have leaf:Sd L (((arrOf st).toList.drop sa).take na++((arrOf st).toList.drop sb).take nb)→Q true (SortSt.mk' (kindOf st) (arrOf st) (((pendingOf st).setIfInBounds i (sa,na+nb,pw)).eraseIdxIfInBounds (i+1)) (gallopOf st) (failedOf st)):=fun sM=>by
  refine q _ (okn _ _) (by show Chain (Array.toList _) 0 lo;rw[pe];exact g5) ?_ rfl ps
  have:=put _ (by rw[List.length_append,lA,lB]) sM
  rw[← whole]at this
  show RS L (Array.toList _) _
  rw[pe]
  exact this
 refine wpS_bind (JJ (show sb<(arrOf st).size by omega) ?_)
 refine wpS_bind (Um o hc ok.kind (hin _ (Array.getElem_mem _)) hin (show sa+na≤(arrOf st).size by omega) (by omega) sA fun k hk kt kf=>?_)
 dsimp only
 have kt:∀x∈(((arrOf st).toList.drop sa).take na).take k,L ((arrOf st)[sb]'(by omega)) x=false:=fun x hx=>bkR (kt x hx)
 have kf:∀x∈(((arrOf st).toList.drop sa).take na).drop k,L ((arrOf st)[sb]'(by omega)) x=true:=fun x hx=>bkR' (kf x hx)
 by_cases d1:(na-k==0)=true
 ·rw [if_pos d1]
  simp only[beq_iff_eq]at d1
  refine wpS_pure (leaf (List.pairwise_append.mpr ⟨sA,sB,fun x hx y hy=>?_⟩))
  rw[List.take_of_length_le (by omega)]at kt
  exact o.tr x _ y (kt x hx) (headB y hy)
 rw[if_neg d1]
 simp only[beq_iff_eq]at d1
 have ila:sa+k+(na-k)-1<(arrOf st).size:=by omega
 have lastA:∀y∈((arrOf st).toList.drop sa).take na,L ((arrOf st)[sa+k+(na-k)-1]'ila) y=false:=fun y hy=>by
  obtain⟨j,hj,rfl⟩:=List.mem_iff_getElem.mp hy
  rw[lA]at hj
  have e0:(arrOf st)[sa+k+(na-k)-1]'ila=(((arrOf st).toList.drop sa).take na)[na-1]'(by omega):=by
   rw[List.getElem_take,List.getElem_drop,Array.getElem_toList]
   congr 1
   omega
  rw[e0]
  by_cases z:j=na-1
  ·subst z; exact o.irr _
  ·exact List.pairwise_iff_getElem.mp sA j (na - 1) (by omega) (by omega) (by omega)
 refine wpS_bind (JJ ila ?_)
 refine wpS_bind (Um o hc ok.kind (hin _ (Array.getElem_mem _)) hin (show sb+nb≤(arrOf st).size by omega) (by omega) sB fun k2 hk2 kt2 kf2=>?_)
 dsimp only
 have kt2:∀x∈(((arrOf st).toList.drop sb).take nb).take k2,L x ((arrOf st)[sa+k+(na-k)-1]'ila)=true:=fun x hx=>kt2 x hx
 have kf2:∀x∈(((arrOf st).toList.drop sb).take nb).drop k2,L x ((arrOf st)[sa+k+(na-k)-1]'ila)=false:=fun x hx=>kf2 x hx
 by_cases d2:(k2==0)=true
 ·rw [if_pos d2]
  simp only[beq_iff_eq]at d2
  refine wpS_pure (leaf (List.pairwise_append.mpr ⟨sA,sB,fun x hx y hy=>?_⟩))
  rw[d2,List.drop_zero]at kf2
  exact o.tr x _ y (lastA x hx) (kf2 y hy)
 rw[if_neg d2]
 simp only[beq_iff_eq]at d2
 have xs:((arrOf st).extract (sa+k) sb).size=na-k:=by rw[Array.size_extract];omega
 have ys:((arrOf st).extract sb (sb+k2)).size=k2:=by rw[Array.size_extract];omega
 have xl:((arrOf st).extract (sa+k) sb).toList=(((arrOf st).toList.drop sa).take na).drop k:=by
  rw[Array.toList_extract,List.extract_eq_take_drop,List.drop_take,List.drop_drop]
  congr 1
  omega
 have yl:((arrOf st).extract sb (sb+k2)).toList=(((arrOf st).toList.drop sb).take nb).take k2:=by
  rw[Array.toList_extract,List.extract_eq_take_drop,List.take_take,Nat.min_eq_left hk2]
  congr 1
  omega
 have inx:In a0 ((arrOf st).extract (sa + k) sb):=fun z hz=>hin z (by
  rw[← Array.mem_toList_iff]at hz ⊢
  rw[Array.toList_extract,List.extract_eq_take_drop]at hz
  exact List.mem_of_mem_drop (List.mem_of_mem_take hz))
 have iny:In a0 ((arrOf st).extract sb (sb + k2)):=fun z hz=>hin z (by
  rw[← Array.mem_toList_iff]at hz ⊢
  rw[Array.toList_extract,List.extract_eq_take_drop]at hz
  exact List.mem_of_mem_drop (List.mem_of_mem_take hz))
 have sdx:Sd L ((arrOf st).extract (sa+k) sb).toList:=by rw[xl];exact sA.drop k
 have sdy:Sd L ((arrOf st).extract sb (sb+k2)).toList:=by rw[yl];exact sB.take k2
 have y0:∀h:0<((arrOf st).extract sb (sb+k2)).size,((arrOf st).extract sb (sb+k2))[0]=(arrOf st)[sb]'(by omega):=fun h=>by
  rw[Array.getElem_extract]
  rfl
 have xla:∀(j:Nat)(h:j<((arrOf st).extract (sa+k) sb).size),j+1=((arrOf st).extract (sa+k) sb).size→((arrOf st).extract (sa+k) sb)[j]=(arrOf st)[sa+k+(na-k)-1]'ila:=fun j h e=>by
  rw[Array.getElem_extract]
  congr 1
  omega
 have fin:∀(out:Array Keyed)(st':SortSt),out.Perm ((arrOf st).extract (sa+k) sb++(arrOf st).extract sb (sb+k2))→Sd L out.toList→SI κ a0 (SortSt.mk' (kindOf st) (arrOf st) (((pendingOf st).setIfInBounds i (sa,na+nb,pw)).eraseIdxIfInBounds (i+1)) (gallopOf st) (failedOf st)) st' →
   Q true (SortSt.mk' (kindOf st') ((out.toList.zipIdx).foldl (fun a (x:Keyed×Nat)=>a.setIfInBounds (sa+k+x.2) x.1) (arrOf st')) (pendingOf st') (gallopOf st') (failedOf st')):=by
  intro out st' hp so S
  have ea:arrOf st'=arrOf st:=S.arr
  have ep:pendingOf st'=((pendingOf st).setIfInBounds i (sa,na+nb,pw)).eraseIdxIfInBounds (i+1):=S.pend
  have ol:out.toList.length=na-k+k2:=by
   rw[Array.length_toList,hp.size_eq,Array.size_append,xs,ys]
  have pa:=put_all (sa+k) out.toList (arrOf st) 0 (by rw[ol];omega)
  rw[Nat.add_zero]at pa
  have e4:sa+k+out.toList.length=sb+k2:=by omega
  have hpl:out.toList.Perm ((((arrOf st).toList.drop sa).take na).drop k++(((arrOf st).toList.drop sb).take nb).take k2):=by
   have:=Array.perm_iff_toList_perm.mp hp
   rw[Array.toList_append,xl,yl]at this
   exact this
  have sM:=merged o sA sB headB lastA kt kf2 so hpl
  -- what lies now
  have now:((out.toList.zipIdx).foldl (fun a (x:Keyed×Nat)=>a.setIfInBounds (sa+k+x.2) x.1) (arrOf st)).toList=(arrOf st).toList.take sa++(((((arrOf st).toList.drop sa).take na).take k++(out.toList++(((arrOf st).toList.drop sb).take nb).drop k2))++(arrOf st).toList.drop (sa+(na+nb))):=by
   rw[pa,e4]
   have t1:(arrOf st).toList.take (sa+k)=(arrOf st).toList.take sa++(((arrOf st).toList.drop sa).take na).take k:=by
    rw[List.take_add,List.take_take,Nat.min_eq_left hk]
   have t2:(arrOf st).toList.drop (sb+k2)=(((arrOf st).toList.drop sb).take nb).drop k2++(arrOf st).toList.drop (sa+(na+nb)):=by
    rw[List.drop_take,List.drop_drop]
    conv=>lhs;rw[← List.take_append_drop (nb-k2) ((arrOf st).toList.drop (sb+k2)),List.drop_drop]
    rw[show sb+k2+(nb-k2)=sa+(na+nb) by omega]
   rw[t1,t2]
   simp only[List.append_assoc]
  refine q _ ⟨S.ok.kind,S.ok.fail,?_⟩ ?_ ?_ ?_ ?_
  ·show Array.Perm (List.foldl _ _ _) a0
   refine Array.Perm.trans ?_ ok.perm
   rw[Array.perm_iff_toList_perm,ea,now]
   conv=>rhs;rw[whole]
   refine List.Perm.append_left _ (List.Perm.append_right _ ?_)
   have t3:(((arrOf st).toList.drop sa).take na)++((arrOf st).toList.drop sb).take nb=(((arrOf st).toList.drop sa).take na).take k++(((((arrOf st).toList.drop sa).take na).drop k++(((arrOf st).toList.drop sb).take nb).take k2)++(((arrOf st).toList.drop sb).take nb).drop k2):=by
    rw[List.append_assoc,List.take_append_drop,← List.append_assoc,List.take_append_drop]
   rw[t3]
   exact List.Perm.append_left _ (List.Perm.append_right _ hpl)
  ·show Chain (pendingOf st').toList 0 lo
   rw[ep,pe]
   exact g5
  ·show RS L (pendingOf st').toList (Array.toList (List.foldl _ _ _))
   rw[ep,pe,ea,now]
   refine put _ ?_ sM
   rw[List.length_append,List.length_append,List.length_take,lA,ol,List.length_drop,lB]
   omega
  ·show (Array.toList (List.foldl _ _ _)).drop lo=_
   rw[ea,pa,e4,← List.append_assoc,List.drop_append]
   have l1:((arrOf st).toList.take (sa+k)++out.toList).length=sb+k2:=by
    rw[List.length_append,List.length_take,ol,Array.length_toList]
    omega
   rw[List.drop_of_length_le (by rw[l1];omega),l1,List.nil_append,List.drop_drop]
   congr 1
   omega
  ·show (pendingOf st').size + 1=_
   rw[ep]
   exact ps
 have hf:∀x∈((arrOf st).extract (sa+k) sb).toList,L x (((arrOf st).extract sb (sb+k2))[0]'(by omega))=false:=fun x hx=>by
  rw[y0,xl]at *
  exact o.asym _ _ (kf x hx)
 have hl:∀(j:Nat)(h:j<((arrOf st).extract (sa+k) sb).size),j+1=((arrOf st).extract (sa+k) sb).size→∀y∈((arrOf st).extract sb (sb+k2)).toList,L ((arrOf st).extract (sa+k) sb)[j] y=false:=fun j h e y hy=>by
  rw[xla j h e]
  rw[yl]at hy
  exact o.asym _ _ (kt2 y hy)
 have hl':=hl (((arrOf st).extract (sa+k) sb).size-1) (by omega) (by omega)
 by_cases d3:na-k≤k2
 ·rw [if_pos d3]
  refine wpS_bind (mergeLo_L o hc (okn _ _) inx iny (show 1≤((arrOf st).extract (sa+k) sb).size by omega) (show 1≤((arrOf st).extract sb (sb+k2)).size by omega) sdx sdy hf hl fun out st' hp so S=>?_)
  refine wpS_bind (wpS_modify (wpS_bind (wpS_get (wpS_pure ?_))))
  have:=S.ok.fail
  show Q (failedOf st').isNone _
  rw[this]
  exact fin out st' hp so S
 ·rw [if_neg d3]
  refine wpS_bind (mergeHi_L o hc (okn _ _) inx iny (show 1≤((arrOf st).extract (sa+k) sb).size by omega) (show 1≤((arrOf st).extract sb (sb+k2)).size by omega) sdx sdy hf hl' fun out st' hp so S=>?_)
  refine wpS_bind (wpS_modify (wpS_bind (wpS_get (wpS_pure ?_))))
  have:=S.ok.fail
  show Q (failedOf st').isNone _
  rw[this]
  exact fin out st' hp so S
end
end Tim
namespace Tim
open PySem PyProof.Rows
def G(arr:Array Keyed)(i:Nat):Keyed:=arr[i]?.getD (Value.none,Value.none)
theorem Ur{a b:Array Keyed}{i j:Nat}(h:a[i]?=b[j]?):G a i=G b j:=by unfold G;rw[h]
theorem G_at{a:Array Keyed}{i:Nat}(h:i<a.size):a[i]=G a i:=by unfold G;rw[Array.getElem?_eq_getElem h];rfl
section
variable{L:Keyed→Keyed→Bool}
def Srt(L:Keyed→Keyed→Bool)(arr:Array Keyed)(lo n:Nat):Prop:=∀i j,lo≤i→i≤j→j<lo+n→L (G arr j) (G arr i)=false
def Dsc(L:Keyed→Keyed→Bool)(arr:Array Keyed)(lo n:Nat):Prop:=∀i j,lo≤i→i≤j→j<lo+n→L (G arr i) (G arr j)=false
def Alk(L:Keyed→Keyed→Bool)(arr:Array Keyed)(i j:Nat):Prop:=∀p q,i≤p→p<j→i≤q→q<j→L (G arr p) (G arr q)=false
theorem Srt.one(o:Ordr L){arr:Array Keyed}{lo:Nat}:Srt L arr lo 1:=fun i j h1 h2 h3=>by
 have:i=j:=by omega
 subst this
 exact o.irr _
theorem Srt.snoc(o:Ordr L){arr:Array Keyed}{lo n:Nat}(h1:1≤n)(h:Srt L arr lo n)(hl:L (G arr (lo+n)) (G arr (lo+n-1))=false):Srt L arr lo (n+1):=fun i j a b c=>by
 by_cases e:j<lo+n
 ·exact h i j a b e
 ·have ej:j=lo + n:=by omega
  subst ej
  by_cases e2:i=lo+n
  ·rw [e2]; exact o.irr _
  ·exact o.tr _ _ _ (h i (lo + n - 1) a (by omega) (by omega)) hl
theorem Dsc.snoc(o:Ordr L){arr:Array Keyed}{lo n:Nat}(h1:1≤n)(h:Dsc L arr lo n)(hl:L (G arr (lo+n-1)) (G arr (lo+n))=false):Dsc L arr lo (n+1):=fun i j a b c=>by
 by_cases e:j<lo+n
 ·exact h i j a b e
 ·have ej:j=lo + n:=by omega
  subst ej
  by_cases e2:i=lo+n
  ·rw [e2]; exact o.irr _
  ·exact o.tr _ _ _ hl (h i (lo + n - 1) a (by omega) (by omega))
theorem G_mir{arr:Array Keyed}{i j:Nat}(hj:j≤arr.size)(k:Nat):G (mirror arr i j ((j-i)/2)) k=if i≤k∧k<j then G arr (i+j-1-k)else G arr k:=by
 have e:=getElem?_mirror_all (i:=i) hj k
 by_cases h1:i≤k∧k<j
 ·rw [if_pos h1] at e ⊢; exact Ur e
 ·rw [if_neg h1] at e ⊢; exact Ur e
theorem Alk.mir(o:Ordr L){arr:Array Keyed}{i j:Nat}(hj:j≤arr.size)(h:Alk L arr i j)(k:Nat):L (G (mirror arr i j ((j-i)/2)) k) (G arr k)=false∧L (G arr k) (G (mirror arr i j ((j-i)/2)) k)=false:=by
 rw[G_mir hj]
 split
 ·rename_i c
  exact⟨h _ _ (by omega) (by omega) c.1 c.2,h _ _ c.1 c.2 (by omega) (by omega)⟩
 ·exact ⟨o.irr _,o.irr _⟩
theorem Dsc.like(o:Ordr L){a b:Array Keyed}{lo n:Nat}(h:Dsc L a lo n)(e:∀k,L (G b k) (G a k)=false∧L (G a k) (G b k)=false):Dsc L b lo n:=fun i j x y z =>
 o.tr _ _ _ (e j).2 (o.tr _ _ _ (h i j x y z) (e i).1)
theorem Dsc.rev{arr:Array Keyed}{lo n:Nat}(hj:lo+n≤arr.size)(h:Dsc L arr lo n):Srt L (mirror arr lo (lo+n) ((lo+n-lo)/2)) lo n:=fun i j a b c=>by
 rw[G_mir hj,G_mir hj,if_pos (by omega),if_pos (by omega)]
 exact h _ _ (by omega) (by omega) (by omega)
theorem Srt.sd{arr:Array Keyed}{lo n:Nat}(hn:lo+n≤arr.size)(h:Srt L arr lo n):Sd L ((arr.toList.drop lo).take n):=by
 refine List.pairwise_iff_getElem.mpr fun i j hi hj hij=>?_
 rw[List.length_take]at hi hj
 rw[List.getElem_take,List.getElem_take,List.getElem_drop,List.getElem_drop,Array.getElem_toList,Array.getElem_toList,G_at,G_at]
 exact h _ _ (by omega) (by omega) (by omega)
end
def Low(lo:Nat)(a b:Array Keyed):Prop:=∀p,p<lo→b[p]?=a[p]?
theorem Low.refl(lo:Nat)(a:Array Keyed):Low lo a a:=fun _ _=>rfl
theorem Low.trans{lo:Nat}{a b c:Array Keyed}(x:Low lo a b)(y:Low lo b c):Low lo a c:=fun p hp=>(y p hp).trans (x p hp)
theorem Low.mir{lo i j:Nat}{a:Array Keyed}(hi:lo≤i)(hj:j≤a.size):Low lo a (mirror a i j ((j-i)/2)):=fun p hp=>by
 rw[getElem?_mirror_all hj,if_neg (by omega)]
theorem Low.take{lo:Nat}{a b:Array Keyed}(h:Low lo a b):b.toList.take lo=a.toList.take lo:=by
 apply List.ext_getElem?
 intro i
 rw[List.getElem?_take,List.getElem?_take]
 split
 ·rename_i c
  rw[Array.getElem?_toList,Array.getElem?_toList]
  exact h i c
 ·rfl
section
variable{prog:Program}{w:World}{A:Around}{E:Value→Shared→Prop}{s:Shared}{κ:SortKind}{a0:Array Keyed}{L:Keyed→Keyed→Bool}
theorem Uy(hc:CmpL prog w A s κ a0 L){i j:Nat}{st:SortSt}{Q:Option Bool→SortSt→Prop}(ok:Ok κ a0 st)(hi:i<a0.size)(hj:j<a0.size)(q:Q (some (L (G (arrOf st) i) (G (arrOf st) j))) st):wpS (model prog w) A E s (ltAt' i j) Q st:=by
 rw[ltAt'_eq]
 refine wpS_bind (wpS_get ?_)
 have h1:i<(arrOf st).size:=by rw[ok.perm.size_eq];exact hi
 have h2:j<(arrOf st).size:=by rw[ok.perm.size_eq];exact hj
 refine wpS_bind (JJ h1 (wpS_bind (JJ h2 ?_)))
 refine lt_L hc ok.kind (ok.perm.mem_iff.mp (Array.getElem_mem h1)) (ok.perm.mem_iff.mp (Array.getElem_mem h2)) ?_
 rw[G_at h1,G_at h2]
 exact q
theorem rev_L{i j:Nat}{st:SortSt}{Q:Unit→SortSt→Prop}(ok:Ok κ a0 st)(q:∀st',Ok κ a0 st'→pendingOf st'=pendingOf st→arrOf st'=mirror (arrOf st) i j ((j-i)/2)→Q () st'):wpS (model prog w) A E s (reverseSlice' i j) Q st:=by
 rw[reverseSlice'_eq]
 exact wpS_modify (q _ ⟨ok.kind,ok.fail,(mirror_perm _ _ _ _).trans ok.perm⟩ rfl rfl)
theorem bin_L(o:Ordr L)(hc:CmpL prog w A s κ a0 L){lo n k0:Nat}{st:SortSt}{Q:Bool→SortSt→Prop}(ok:Ok κ a0 st)(hn:lo+n≤a0.size)(hk0:k0≤n)(sr:Srt L (arrOf st) lo k0)
  (q:∀st',Ok κ a0 st'→pendingOf st'=pendingOf st→Srt L (arrOf st') lo n→Low lo (arrOf st) (arrOf st')→Q true st'):wpS (model prog w) A E s (binarySort' lo n k0) Q st:=by
 rw[binarySort'_eq]
 refine wpS_bind (wpS_mono (wpS_forRange (I:=fun k c st'=>c.1=none∧Ok κ a0 st'∧pendingOf st'=pendingOf st∧Srt L (arrOf st') lo (min k n)∧Low lo (arrOf st) (arrOf st')) (Q:=fun c st'=>c.1=none∧Ok κ a0 st'∧pendingOf st'=pendingOf st∧Srt L (arrOf st') lo n∧Low lo (arrOf st) (arrOf st')) ?step ?fin ⟨rfl,ok,rfl,?init,Low.refl _ _⟩) ?post)
 case init =>
  by_cases h:k0=0
  ·intro i j a b c
   have:i=j:=by omega
   subst this
   exact o.irr _
  ·rw [show min (max k0 1) n=k0 by omega]
   exact sr
 case fin =>
  rintro c st' ⟨h,ok',hp,sr',lw⟩
  rw[show min (max (max k0 1) n) n=n by omega]at sr'
  exact⟨h,ok',hp,sr',lw⟩
 case post =>
  rintro⟨c,u⟩ st' ⟨h,ok',hp,sr',lw⟩
  dsimp only at h ⊢
  subst h
  exact wpS_pure (q _ ok' hp sr' lw)
 case step =>
  rintro k c st1 hk1 hk ⟨_,ok1,hp1,sr1,lw1⟩
  rw[show min k n=k by omega]at sr1
  dsimp only
  refine wpS_bind (wpS_mono (wpS_forRange (I:=fun x c st'=>c.1=none∧(c.2.1≤c.2.2∧c.2.2≤k∧c.2.2 - c.2.1≤k - x∧(∀ i,i < c.2.1→L (G (arrOf st1) (lo + k)) (G (arrOf st1) (lo + i))=false)∧(∀ i,c.2.2≤i→i < k→L (G (arrOf st1) (lo + k)) (G (arrOf st1) (lo + i))=true))∧st'=st1)
   (Q:=fun c st'=>c.1=none∧(c.2.1≤k∧(∀ i,i < c.2.1→L (G (arrOf st1) (lo + k)) (G (arrOf st1) (lo + i))=false)∧(∀ i,c.2.1≤i→i < k→L (G (arrOf st1) (lo + k)) (G (arrOf st1) (lo + i))=true))∧st'=st1) ?step1 ?fin1 ⟨rfl,⟨Nat.zero_le _,Nat.le_refl _,Nat.le_refl _,fun i h=>absurd h (Nat.not_lt_zero _),fun i h1 h2=>by dsimp only at h1; omega⟩,rfl⟩) ?post1)
  case fin1 =>
   rintro⟨c,l,r⟩ st2 ⟨h,⟨h1,h2,h3,h4,h5⟩,rfl⟩
   dsimp only at h h1 h2 h3 h4 h5 ⊢
   rw[Nat.zero_max]at h3
   have e:l=r:=by omega
   subst e
   exact⟨h,⟨h2,h4,h5⟩,rfl⟩
  case step1 =>
   rintro j ⟨c,l,r⟩ st2 _ _ ⟨h,⟨h1,h2,h3,h4,h5⟩,rfl⟩
   dsimp only at h h1 h2 h3 h4 h5 ⊢
   split
   ·rename_i ge
    have e:l=r:=by omega
    subst e
    exact wpS_pure ⟨rfl,⟨h2,h4,h5⟩,rfl⟩
   ·refine wpS_bind (Uy hc ok1 (by omega) (by omega) ?_)
    cases e:L (G (arrOf st2) (lo+k)) (G (arrOf st2) (lo+(l+r)/2))
    ·exact wpS_pure ⟨rfl,⟨by dsimp only; omega,h2,by dsimp only; omega,fun i hi=>o.tr _ _ _ (sr1 (lo + i) (lo + (l + r) / 2) (by omega) (by dsimp only at hi; omega) (by omega)) e,h5⟩,rfl⟩
    ·exact wpS_pure ⟨rfl,⟨by dsimp only; omega,by dsimp only; omega,by dsimp only; omega,h4,fun i hi1 hi2=>by
      cases e2:L (G (arrOf st2) (lo+k)) (G (arrOf st2) (lo+i)) with
      | true=>rfl
      | false =>
       have:=o.tr _ _ _ (sr1 (lo+(l+r)/2) (lo+i) (by omega) (by dsimp only at hi1;omega) (by omega)) e2
       rw[this]at e
       cases e⟩,rfl⟩
  case post1 =>
   rintro⟨c,l,r⟩ st2 ⟨h,⟨h1,h2,h3⟩,rfl⟩
   dsimp only at h h1 h2 h3 ⊢
   subst h
   show wpS _ _ _ _ (do moveDown' (lo+k) (lo+l);pure (ForInStep.yield (none,()))) _ _
   rw[moveDown'_eq]
   have hks:lo+k<(arrOf st2).size:=by rw[ok1.perm.size_eq];omega
   have gb:=fun x=>getElem?_bubble hks (lo+k-(lo+l)) (by omega) x
   refine wpS_bind (wpS_modify (wpS_pure ⟨rfl,⟨ok1.kind,ok1.fail,(bubble_perm _ _ _).trans ok1.perm⟩,hp1,?_,?_⟩))
   ·rw [show min (k + 1) n=k + 1 by omega]
    have Gb:∀x,G (bubble (arrOf st2) (lo+k) (lo+k-(lo+l))) x=if x=lo+l then G (arrOf st2) (lo+k)else if lo+l<x∧x≤lo+k then G (arrOf st2) (x-1)else G (arrOf st2) x:=fun x=>by
     have:=gb x
     rw[show lo+k-(lo+k-(lo+l))=lo+l by omega]at this
     by_cases c1:x=lo+l
     ·rw [if_pos c1] at this ⊢; exact Ur this
     ·rw [if_neg c1] at this ⊢
      by_cases c2:lo+l<x∧x≤lo+k
      ·rw [if_pos c2] at this ⊢; exact Ur this
      ·rw [if_neg c2] at this ⊢; exact Ur this
    intro i j ai aij aj
    show L (G (bubble (arrOf st2) (lo+k) (lo+k-(lo+l))) j) (G (bubble (arrOf st2) (lo+k) (lo+k-(lo+l))) i)=false
    rw[Gb,Gb]
    by_cases ci:i=lo+l
    ·rw [if_pos ci]
     by_cases cj:j=lo+l
     ·rw [if_pos cj]; exact o.irr _
     ·rw [if_neg cj,if_pos (by omega)]
      have:=h3 (j-1-lo) (by omega) (by omega)
      rw[show lo+(j-1-lo)=j-1 by omega]at this
      exact o.asym _ _ this
    ·rw [if_neg ci]
     by_cases ci2:lo+l<i∧i≤lo+k
     ·rw [if_pos ci2,if_neg (by omega),if_pos (by omega)]
      exact sr1 _ _ (by omega) (by omega) (by omega)
     ·rw [if_neg ci2]
      by_cases cj:j=lo+l
      ·rw [if_pos cj]
       have:=h2 (i-lo) (by omega)
       rw[show lo+(i-lo)=i by omega]at this
       exact this
      ·rw [if_neg cj]
       by_cases cj2:lo+l<j∧j≤lo+k
       ·rw [if_pos cj2]
        exact sr1 _ _ ai (by omega) (by omega)
       ·rw [if_neg cj2]
        exact sr1 _ _ ai aij (by omega)
   ·refine lw1.trans fun p hp=>?_
    show(bubble (arrOf st2) (lo+k) (lo+k-(lo+l)))[p]?=_
    rw[gb p,if_neg (by omega),if_neg (by omega)]
theorem count_L(o:Ordr L)(hc:CmpL prog w A s κ a0 L){lo m:Nat}{st:SortSt}{Q:Option Nat→SortSt→Prop}(ok:Ok κ a0 st)(h1:1≤m)(h2:lo+m≤a0.size)
  (q:∀n st',1≤n→n≤m→Ok κ a0 st'→pendingOf st'=pendingOf st→Srt L (arrOf st') lo n→Low lo (arrOf st) (arrOf st')→Q (some n) st'):wpS (model prog w) A E s (countRun' lo m) Q st:=by
 rw[countRun'_eq]
 dsimp only
 have sz:∀{st':SortSt},Ok κ a0 st'→(arrOf st').size=a0.size:=fun ok=>ok.perm.size_eq
 refine wpS_bind (wpS_mono (wpS_forRange (I:=fun i c st'=>c.1=none∧(c.2=i∧1≤c.2∧Srt L (arrOf st) lo c.2)∧st'=st) (Q:=fun c st'=>c.1=none∧(1≤c.2∧c.2≤m∧Srt L (arrOf st) lo c.2∧(c.2=m∨L (G (arrOf st) (lo+c.2)) (G (arrOf st) (lo+c.2-1))=true))∧st'=st) ?step ?fin ⟨rfl,⟨rfl,Nat.le_refl _,Srt.one o⟩,rfl⟩) ?post)
 case fin =>
  rintro⟨c,n⟩ st' ⟨h,⟨a,b,d⟩,rfl⟩
  dsimp only at h a b d ⊢
  exact⟨h,⟨b,by omega,d,.inl (by omega)⟩,rfl⟩
 case step =>
  rintro i ⟨c,n⟩ st' _ hi ⟨h,⟨a,b,d⟩,rfl⟩
  dsimp only at h a b d ⊢
  subst a
  refine wpS_bind (Uy hc ok (by omega) (by omega) ?_)
  cases e:L (G (arrOf st') (lo+n)) (G (arrOf st') (lo+n-1))
  ·exact wpS_pure ⟨rfl,⟨rfl,by dsimp only; omega,d.snoc o b e⟩,rfl⟩
  ·exact wpS_pure ⟨rfl,⟨b,by dsimp only; omega,d,.inr e⟩,rfl⟩
 case post =>
  rintro⟨c,n⟩ st1 ⟨h,⟨a,b,d,dl⟩,rfl⟩
  dsimp only at h a b d dl ⊢
  subst h
  dsimp only
  by_cases d1:(n==m)=true
  ·rw [if_pos d1]
   exact wpS_pure (q _ _ a b ok rfl d (Low.refl _ _))
  rw[if_neg d1]
  simp only[beq_iff_eq]at d1
  have dl:=dl.resolve_left d1
  obtain⟨st0,hst0⟩:∃st0,st0=st1:=⟨_,rfl⟩
  by_cases d2:n>1
  case' pos =>
   rw[if_pos d2]
   refine wpS_bind (Uy hc ok (by omega) (by omega) ?_)
   cases er:L (G (arrOf st1) lo) (G (arrOf st1) (lo+n-1))
   case' true=>exact wpS_pure (q _ _ a b ok rfl d (Low.refl _ _))
   refine wpS_bind (rev_L ok fun st2 ok2 hp2 ea2=>?_)
   have alk:Alk L (arrOf st1) lo (lo+n):=fun p r p1 p2 r1 r2=>o.tr _ _ _ (d r (lo+n-1) r1 (by omega) (by omega)) (o.tr _ _ _ er (d lo p (Nat.le_refl _) p1 p2))
   have dsc2:Dsc L (arrOf st2) lo (n+1):=by
    have d0:Dsc L (arrOf st1) lo n:=fun i j a b c=>alk i j a (by omega) (by omega) c
    have d1':Dsc L (arrOf st1) lo (n+1):=d0.snoc o a (o.asym _ _ dl)
    rw[ea2]
    exact d1'.like o (alk.mir o (by rw[sz ok];omega))
   have lw2:Low lo (arrOf st1) (arrOf st2):=by
    rw[ea2]
    exact Low.mir (Nat.le_refl _) (by rw[sz ok];omega)
  case' neg =>
   rw[if_neg d2]
   have ok2:=ok
   have hn1:n=1:=by omega
   have dsc2:Dsc L (arrOf st1) lo (n+1):=by
    refine Dsc.snoc o a (fun i j x y z=>?_) (o.asym _ _ dl)
    have:i=j:=by omega
    subst this
    exact o.irr _
   have lw2:Low lo (arrOf st1) (arrOf st1):=Low.refl _ _
   generalize hst2:st1=st2 at ok2 dsc2
   have hp2:pendingOf st2=pendingOf st1:=by rw[hst2]
   have lw2:Low lo (arrOf st1) (arrOf st2):=by rw[hst2];exact Low.refl _ _
  all_goals
   refine wpS_bind (wpS_lift (wpAny_rule ⟨rfl,?_⟩))
   refine wpS_bind (wpS_mono (wpS_forRange (I:=fun i c st'=>c.1=none∧(c.2.1=i∧1≤c.2.1∧c.2.2 + 1≤c.2.1∧Dsc L (arrOf st') lo c.2.1∧Alk L (arrOf st') (lo + c.2.1 - (c.2.2 + 1)) (lo + c.2.1))∧Ok κ a0 st'∧pendingOf st'=pendingOf st1∧Low lo (arrOf st1) (arrOf st'))
    (Q:=fun c st'=>c.1=none∧(1≤c.2.1∧c.2.1≤m∧c.2.2 + 1≤c.2.1∧Dsc L (arrOf st') lo c.2.1∧Alk L (arrOf st') (lo + c.2.1 - (c.2.2 + 1)) (lo + c.2.1))∧Ok κ a0 st'∧pendingOf st'=pendingOf st1∧Low lo (arrOf st1) (arrOf st')) ?step2 ?fin2 ⟨rfl,⟨rfl,by dsimp only; omega,by dsimp only; omega,dsc2,fun p r p1 p2 r1 r2=>by
     dsimp only at p1 p2 r1 r2
     have:p=r:=by omega
     subst this
     exact o.irr _⟩,ok2,hp2,lw2⟩) ?post2)
   case fin2 =>
    rintro⟨c,k,neq⟩ st' ⟨h,⟨e1,e2,e3,e4⟩,r⟩
    dsimp only at h e1 e2 e3 e4 ⊢
    exact⟨h,⟨e2,by omega,e3,e4⟩,r⟩
   case step2 =>
    rintro i ⟨c,k,neq⟩ st' _ hi ⟨h,⟨e1,e2,e3,e4,e5⟩,ok3,hp3,lw3⟩
    dsimp only at h e1 e2 e3 e4 e5 ⊢
    subst e1
    have one:∀(ar:Array Keyed)(x:Nat),Alk L ar (lo+(x+1)-(0+1)) (lo+(x+1)):=fun ar x p r p1 p2 r1 r2=>by
     have:p=r:=by omega
     subst this
     exact o.irr _
    refine wpS_bind (Uy hc ok3 (by omega) (by omega) ?_)
    cases es:L (G (arrOf st') (lo+k)) (G (arrOf st') (lo+k-1))
    ·refine wpS_bind (Uy hc ok3 (by omega) (by omega) ?_)
     cases el:L (G (arrOf st') (lo+k-1)) (G (arrOf st') (lo+k))
     ·refine wpS_pure ⟨rfl,⟨rfl,by dsimp only; omega,by dsimp only; omega,e4.snoc o e2 el,fun p r p1 p2 r1 r2=>?_⟩,ok3,hp3,lw3⟩
      dsimp only at p1 p2 r1 r2
      have low:∀x,lo+k-(neq+1)≤x→x<lo+k→L (G (arrOf st') x) (G (arrOf st') (lo+k))=false∧L (G (arrOf st') (lo+k)) (G (arrOf st') x)=false:=fun x x1 x2 =>
       ⟨o.tr _ _ _ el (e5 x (lo+k-1) x1 x2 (by omega) (by omega)),o.tr _ _ _ (e5 (lo+k-1) x (by omega) (by omega) x1 x2) es⟩
      by_cases c1:p=lo+k
      ·by_cases c2:r=lo + k
       ·rw [c1,c2]; exact o.irr _
       ·rw [c1]; exact (low r (by omega) (by omega)).2
      ·by_cases c2:r=lo + k
       ·rw [c2]; exact (low p (by omega) (by omega)).1
       ·exact e5 p r (by omega) (by omega) (by omega) (by omega)
     ·exact wpS_pure ⟨rfl,⟨e2,by dsimp only; omega,e3,e4,e5⟩,ok3,hp3,lw3⟩
    ·dsimp only
     rw[if_pos rfl]
     have e6:Dsc L (arrOf st') lo (k+1):=e4.snoc o e2 (o.asym _ _ es)
     split
     ·refine wpS_bind (rev_L ok3 fun st4 ok4 hp4 ea4=>wpS_pure ⟨rfl,⟨rfl,by dsimp only; omega,by dsimp only; omega,?_,one _ _⟩,ok4,hp4.trans hp3,?_⟩)
      ·dsimp only
       rw[ea4]
       exact e6.like o (e5.mir o (by rw[sz ok3];omega))
      ·rw [ea4]
       exact lw3.trans (Low.mir (by omega) (by rw[sz ok3];omega))
     ·exact wpS_pure ⟨rfl,⟨rfl,by dsimp only; omega,by dsimp only; omega,e6,one _ _⟩,ok3,hp3,lw3⟩
   case post2 =>
    rintro⟨c,k,neq⟩ st' ⟨h,⟨e1,e2,e3,e4,e5⟩,ok3,hp3,lw3⟩
    dsimp only at h e1 e2 e3 e4 e5 ⊢
    subst h
    dsimp only
    by_cases d3:neq>0
    case' pos =>
     rw[if_pos d3]
     refine wpS_bind (rev_L ok3 fun st4 ok4 hp4 ea4=>?_)
     have hp4:=hp4.trans hp3
     have dsc4:Dsc L (arrOf st4) lo k:=by
      rw[ea4]
      exact e4.like o (e5.mir o (by rw[sz ok3];omega))
     have lw4:Low lo (arrOf st1) (arrOf st4):=by
      rw[ea4]
      exact lw3.trans (Low.mir (by omega) (by rw[sz ok3];omega))
    case' neg =>
     rw[if_neg d3]
     have ok4:=ok3
     have hp4:=hp3
     have dsc4:=e4
     have lw4:=lw3
    all_goals
     refine wpS_bind (rev_L ok4 fun st5 ok5 hp5 ea5=>?_)
     have srt5:Srt L (arrOf st5) lo k:=by
      rw[ea5]
      exact dsc4.rev (by rw[sz ok4];omega)
     have lw5:Low lo (arrOf st1) (arrOf st5):=by
      rw[ea5]
      exact lw4.trans (Low.mir (Nat.le_refl _) (by rw[sz ok4];omega))
     refine wpS_bind (wpS_mono (wpS_forRange (I:=fun i c st'=>c.1=none∧(c.2=i∧1≤c.2∧Srt L (arrOf st5) lo c.2)∧st'=st5) (Q:=fun c st'=>c.1=none∧(1≤c.2∧c.2≤m∧Srt L (arrOf st5) lo c.2)∧st'=st5) ?step3 ?fin3 ⟨rfl,⟨rfl,e1,srt5⟩,rfl⟩) ?post3)
     case fin3 =>
      rintro⟨c,n⟩ st' ⟨h,⟨a,b,d⟩,rfl⟩
      dsimp only at h a b d ⊢
      exact⟨h,⟨b,by omega,d⟩,rfl⟩
     case step3 =>
      rintro i ⟨c,n⟩ st' _ hi ⟨h,⟨a,b,d⟩,rfl⟩
      dsimp only at h a b d ⊢
      subst a
      refine wpS_bind (Uy hc ok5 (by omega) (by omega) ?_)
      cases e:L (G (arrOf st') (lo+n)) (G (arrOf st') (lo+n-1))
      ·exact wpS_pure ⟨rfl,⟨rfl,by dsimp only; omega,d.snoc o b e⟩,rfl⟩
      ·exact wpS_pure ⟨rfl,⟨b,by dsimp only; omega,d⟩,rfl⟩
     case post3 =>
      rintro⟨c,n⟩ st6 ⟨h,⟨a,b,d⟩,rfl⟩
      dsimp only at h a b d ⊢
      subst h
      exact wpS_pure (q _ _ a b ok5 (hp5.trans hp4) d lw5)
end
end Tim
namespace Tim
open PySem PyProof.Rows
theorem Chain.len:∀{l:List (Nat×Nat×Nat)}{b e:Nat},Chain l b e→l.length+b≤e
 | [],_,_,h=>by have:_=_:=h; simp; omega
 | r::rest,b,e,h=>by
  have:=h.2.2.len
  have:=h.2.1
  rw[List.length_cons]
  omega
section
variable{prog:Program}{w:World}{A:Around}{E:Value→Shared→Prop}{s:Shared}{κ:SortKind}{a0:Array Keyed}{L:Keyed→Keyed→Bool}
theorem runs_L(o:Ordr L)(hc:CmpL prog w A s κ a0 L){st:SortSt}{Q:Unit→SortSt→Prop}(ok:Ok κ a0 st)(hp:pendingOf st=#[])(q:∀st',Ok κ a0 st'→Sd L (arrOf st').toList→Q () st'):wpS (model prog w) A E s sortRuns' Q st:=by
 rw[sortRuns'_eq]
 refine wpS_bind (wpS_get ?_)
 have hs:(arrOf st).size=a0.size:=ok.perm.size_eq
 rw[hs]
 generalize minRun' a0.size a0.size 0=mr
 dsimp only
 refine wpS_bind (wpS_mono (wpS_forRange (I:=fun i c st'=>c.1=none∧(c.2≤a0.size∧i≤c.2)∧Ok κ a0 st'∧Chain (pendingOf st').toList 0 c.2∧RS L (pendingOf st').toList (arrOf st').toList)
  (Q:=fun c st'=>c.1=none∧c.2=a0.size∧Ok κ a0 st'∧Chain (pendingOf st').toList 0 c.2∧RS L (pendingOf st').toList (arrOf st').toList) ?step ?fin ⟨rfl,⟨Nat.zero_le _,Nat.zero_le _⟩,ok,by rw [hp]; rfl,by rw [hp]; trivial⟩) ?post)
 case fin =>
  rintro⟨c,lo⟩ st1 ⟨h,⟨h1,h2⟩,r⟩
  dsimp only at h h1 h2 ⊢
  rw[Nat.zero_max]at h2
  exact⟨h,by omega,r⟩
 case step =>
  rintro i ⟨c,lo⟩ st1 _ hi ⟨h,⟨hlo,hil⟩,ok1,ch1,rs1⟩
  dsimp only at h hlo hil ch1 ⊢
  by_cases d1:lo≥a0.size
  ·rw [if_pos d1]
   exact wpS_pure ⟨rfl,by dsimp only;omega,ok1,ch1,rs1⟩
  rw[if_neg d1]
  refine wpS_bind (count_L o hc ok1 (by omega) (by omega) fun n st2 n1 n2 ok2 hp2 sr2 lw2=>?_)
  dsimp only
  rw[← hp2]at ch1 rs1
  have rs2:RS L (pendingOf st2).toList (arrOf st2).toList:=rs1.same ch1 (by rw[Nat.sub_zero];exact lw2.take)
  by_cases d2:n<minRun' a0.size a0.size 0
  case' pos =>
   rw[if_pos d2]
   refine wpS_bind (wpS_lift (wpAny_rule ⟨rfl,?_⟩))
   refine wpS_bind (bin_L o hc ok2 (by omega) (by omega) sr2 fun st3 ok3 hp3 sr3 lw3=>?_)
   rw[if_neg (by decide)]
   have N1:1≤min (a0.size-lo) (minRun' a0.size a0.size 0):=by omega
   have N2:lo+min (a0.size-lo) (minRun' a0.size a0.size 0)≤a0.size:=by omega
   have rs3:RS L (pendingOf st3).toList (arrOf st3).toList:=by
    rw[hp3]
    exact rs2.same ch1 (by rw[Nat.sub_zero];exact lw3.take)
   have ch3:Chain (pendingOf st3).toList 0 lo:=by rw[hp3];exact ch1
   generalize min (a0.size-lo) (minRun' a0.size a0.size 0)=N at N1 N2 sr3
  case' neg =>
   rw[if_neg d2]
   have N1:=n1
   have N2:lo+n≤a0.size:=by omega
   have ok3:=ok2
   have ch3:=ch1
   have rs3:=rs2
   have sr3:=sr2
   clear rs2 sr2 rs1 ch1 lw2 hp2
   generalize n=N at N1 N2 sr3
   generalize st2=st3 at ok3 ch3 rs3 sr3
  all_goals
   have sd3:Sd L (((arrOf st3).toList.drop lo).take N):=sr3.sd (by rw[ok3.perm.size_eq];exact N2)
   refine wpS_bind (wpS_get ?_)
   cases hb:(pendingOf st3).back? with
   | none =>
    dsimp only
    refine wpS_bind (wpS_modify (wpS_pure ⟨rfl,⟨N2,by dsimp only;omega⟩,⟨ok3.kind,ok3.fail,ok3.perm⟩,?_,?_⟩))
    ·show Chain (Array.toList ((pendingOf st3).push (lo,N,0))) 0 (lo + N)
     rw[Array.toList_push]
     exact ch3.snoc N1
    ·show RS L (Array.toList ((pendingOf st3).push (lo,N,0))) (arrOf st3).toList
     rw[Array.toList_push]
     exact rs3.snoc ch3 (by rw[Nat.sub_zero];exact sd3)
   | some r =>
    obtain⟨s1,m1,z1⟩:=r
    dsimp only
    refine wpS_bind (wpS_mono (wpS_forRange (I:=fun _ c st'=>c.1=none∧Ok κ a0 st'∧Chain (pendingOf st').toList 0 lo∧RS L (pendingOf st').toList (arrOf st').toList∧(arrOf st').toList.drop lo=(arrOf st3).toList.drop lo) (Q:=fun c st'=>c.1=none∧Ok κ a0 st'∧Chain (pendingOf st').toList 0 lo∧RS L (pendingOf st').toList (arrOf st').toList∧(arrOf st').toList.drop lo=(arrOf st3).toList.drop lo) ?step2 (fun _ _ h=>h) ⟨rfl,ok3,ch3,rs3,rfl⟩) ?post2)
    case step2 =>
     rintro j ⟨c,u⟩ st4 _ hj ⟨h,ok4,ch4,rs4,dr4⟩
     dsimp only at h ⊢
     refine wpS_bind (wpS_get ?_)
     by_cases d3:(pendingOf st4).size>1
     ·rw [if_pos d3,Array.getElem?_eq_getElem (by omega)]
      generalize (pendingOf st4)[(pendingOf st4).size-2]=y
      obtain⟨y1,y2,y3⟩:=y
      dsimp only
      split
      ·exact wpS_pure ⟨rfl,ok4,ch4,rs4,dr4⟩
      ·refine wpS_bind (mergeAt_L o hc ok4 ch4 rs4 hlo (by omega) fun st5 ok5 ch5 rs5 dr5 _=>?_)
       exact wpS_pure ⟨rfl,ok5,ch5,rs5,dr5.trans dr4⟩
     ·rw [if_neg d3]
      exact wpS_pure ⟨rfl,ok4,ch4,rs4,dr4⟩
    case post2 =>
     rintro⟨c,u⟩ st4 ⟨h,ok4,ch4,rs4,dr4⟩
     dsimp only at h ⊢
     subst h
     dsimp only
     refine wpS_bind (wpS_modify (wpS_bind (wpS_modify (wpS_pure ⟨rfl,⟨N2,by dsimp only;omega⟩,⟨ok4.kind,ok4.fail,ok4.perm⟩,?_,?_⟩))))
     ·show Chain (Array.toList (Array.push (Array.modify (pendingOf st4) _ _) (lo,N,0))) 0 (lo + N)
      rw[Array.toList_push,Array.toList_modify]
      exact(ch4.mod _ _).snoc N1
     ·show RS L (Array.toList (Array.push (Array.modify (pendingOf st4) _ _) (lo,N,0))) (arrOf st4).toList
      rw[Array.toList_push,Array.toList_modify]
      refine(rs4.mod _ _).snoc (ch4.mod _ _) ?_
      rw[Nat.sub_zero,dr4]
      exact sd3
 case post =>
  rintro⟨c,lo⟩ st1 ⟨h,hlo,ok1,ch1,rs1⟩
  dsimp only at h hlo ch1 ⊢
  subst h
  dsimp only
  subst hlo
  have pl:=ch1.len
  rw[Array.length_toList]at pl
  refine wpS_bind (wpS_mono (wpS_forRange (I:=fun j c st'=>c.1=none∧Ok κ a0 st'∧Chain (pendingOf st').toList 0 a0.size∧RS L (pendingOf st').toList (arrOf st').toList∧(pendingOf st').size + j≤a0.size)
   (Q:=fun c st'=>c.1=none∧Ok κ a0 st'∧Chain (pendingOf st').toList 0 a0.size∧RS L (pendingOf st').toList (arrOf st').toList∧(pendingOf st').size≤1) ?step3 ?fin3 ⟨rfl,ok1,ch1,rs1,by omega⟩) ?post3)
  case fin3 =>
   rintro⟨c,u⟩ st4 ⟨h,ok4,ch4,rs4,z⟩
   rw[Nat.zero_max]at z
   exact⟨h,ok4,ch4,rs4,by omega⟩
  case step3 =>
   rintro j ⟨c,u⟩ st4 _ hj ⟨h,ok4,ch4,rs4,z⟩
   dsimp only at h ⊢
   refine wpS_bind (wpS_get ?_)
   by_cases d3:(pendingOf st4).size≤1
   ·rw [if_pos d3]
    exact wpS_pure ⟨rfl,ok4,ch4,rs4,d3⟩
   ·rw [if_neg d3]
    refine wpS_bind (mergeAt_L o hc ok4 ch4 rs4 (Nat.le_refl _) ?_ fun st5 ok5 ch5 rs5 _ z5=>?_)
    ·exact ite_lt (by omega) (by omega)
    ·exact wpS_pure ⟨rfl,ok5,ch5,rs5,by omega⟩
  case post3 =>
   rintro⟨c,u⟩ st4 ⟨h,ok4,ch4,rs4,z⟩
   dsimp only at h ⊢
   subst h
   refine wpS_pure (q _ ok4 ?_)
   have lz:(pendingOf st4).toList.length≤1:=by rw[Array.length_toList];exact z
   have la:(arrOf st4).toList.length=a0.size:=by rw[Array.length_toList,ok4.perm.size_eq]
   generalize (pendingOf st4).toList=rs at ch4 rs4 lz
   match rs,ch4,rs4,lz with
   | [],c,_,_ =>
    have c:0=a0.size:=c
    have:(arrOf st4).toList=[]:=List.length_eq_zero_iff.mp (by omega)
    rw[this]
    exact List.Pairwise.nil
   | [r],c,rs,_ =>
    have c2:0+r.2.1=a0.size:=c.2.2
    have:=rs.1
    rw[List.take_of_length_le (by omega)]at this
    exact this
   | _::_::_,_,_,l=>simp at l
end
end Tim
namespace L2
open PySem PySem.Calls PySem.Spec PyProof.Rows
def lexB(p q:Int×Int):Bool:=decide (p.1<q.1)||(decide (p.1=q.1)&&decide (p.2<q.2))
theorem Ws{p q:Int×Int}:lexB p q=true↔p.1<q.1∨(p.1=q.1∧p.2<q.2):=by
 unfold lexB
 simp
theorem ZL{p q:Int×Int}:lexB p q=false↔q.1<p.1∨(p.1=q.1∧q.2≤p.2):=by
 rw[← Bool.not_eq_true,Ws]
 omega
abbrev Ris(l:List (Int×Int)):Prop:=l.Pairwise fun x y=>lexB y x=false
section
variable{prog:Program}{w:World}{A:Around}{E:Value→Shared→Prop}{s:Shared}
theorem pr_ltS{x y:Value}{p q:Int×Int}{C:Bool→Shared→Prop}(hx:IsPr s.heap x p)(hy:IsPr s.heap y q)(h:C (lexB p q) s):wpAny (model prog w) A (keyLt' (tuples' true) x y) C E s:=by
 obtain⟨a,o,t,u,n,rfl,h1,h2,h3⟩:=hx
 obtain⟨a',o',t',u',n',rfl,h1',h2',h3'⟩:=hy
 refine PySem.W.kat_lt h1 h3 h1' h3' ?_
 show PySem.W.KatLex prog w A true _ C [(Value.int p.1 t,Value.int q.1 t'),(Value.int p.2 u,Value.int q.2 u')] 0 s
 refine PySem.W.kat_cons (SeqAt.EqAt.int_int _ _ _ _ prog w _ _ (PySem.W.kat_go (fun e=>PySem.W.kat_yes ?_) fun e=>PySem.W.kat_no (oneLt_int ?_)))
 ·have e:p.1=q.1:=by simpa using e
  refine PySem.W.kat_cons (SeqAt.EqAt.int_int _ _ _ _ prog w _ _ (PySem.W.kat_go (fun e2=>PySem.W.kat_yes (PySem.W.kat_nil ?_)) fun e2=>PySem.W.kat_no ?_))
  ·have e2:p.2=q.2:=by simpa using e2
   have:lexB p q=false:=ZL.mpr (by omega)
   rw[this]at h
   exact h
  ·refine PySem.W.kat_one _ _ (lt_int (show PySem.W.BoolBack C (.bool _) s from ?_))
   have:lexB p q=decide (p.2<q.2):=by
    unfold lexB
    rw[decide_eq_true e,decide_eq_false (show ¬ p.1<q.1 by omega)]
    rfl
   rw[this]at h
   exact h
 ·have e:¬ p.1=q.1:=by simpa using e
  have:lexB p q=decide (p.1<q.1):=by
   unfold lexB
   rw[decide_eq_false e]
   simp
  rw[this]at h
  exact h
theorem IsPr.uniq{h:Heap}{v:Value}{p q:Int×Int}(x:IsPr h v p)(y:IsPr h v q):p=q:=by
 obtain⟨a,o,t,u,n,rfl,h1,h2,h3⟩:=x
 obtain⟨a',o',t',u',n',e,h1',h2',h3'⟩:=y
 cases e
 rw[h1]at h1'
 cases h1'
 rw[h3]at h3'
 injection h3' with e1 _
 have e1:=congrArg Array.toList e1
 have e2:p.1=q.1∧p.2=q.2:=by
  simp at e1
  exact⟨e1.1.1,e1.2.1⟩
 exact Prod.ext e2.1 e2.2
theorem prOf_ex(h:Heap):∃key:Value→Int×Int,∀v q,IsPr h v q→key v=q:=by
 classical
 refine⟨fun v=>if x:∃q,IsPr h v q then x.choose else(0,0),fun v q x=>?_⟩
 have z:∃q,IsPr h v q:=⟨q,x⟩
 dsimp only
 rw[dif_pos z]
 exact z.choose_spec.uniq x
def keyLt(key:Value→Int×Int)(x y:Keyed):Bool:=lexB (key x.1) (key y.1)
theorem keyLt_ord(key:Value→Int×Int):Tim.Ordr (keyLt key):=by
 constructor
 ·intro x y e
  unfold keyLt at e ⊢
  rw[Ws]at e
  rw[ZL]
  omega
 ·intro x y z e1 e2
  unfold keyLt at e1 e2 ⊢
  rw[ZL]at e1 e2 ⊢
  omega
def OutS(ps:List (Int×Int))(vs o:List Value):Prop:=∃p:List Nat,p.Perm (List.range vs.length)∧o=p.map (fun i=>vs.getD i Value.none)∧Ris (p.map fun i=>ps.getD i (0,0))
theorem OutS.len{ps:List (Int×Int)}{vs o:List Value}(h:OutS ps vs o):o.length=vs.length:=by
 obtain⟨p,hp,rfl,_⟩:=h
 rw[List.length_map,hp.length_eq,List.length_range]
theorem OutS.small{ps:List (Int×Int)}{vs:List Value}(h:vs.length<2):OutS ps vs vs:=by
 obtain⟨p,hp,e⟩:=Reord.refl vs
 refine⟨p,hp,e,?_⟩
 have l:(p.map fun i=>ps.getD i (0,0)).length<2:=by rw[List.length_map,hp.length_eq,List.length_range];exact h
 generalize (p.map fun i=>ps.getD i (0,0))=l' at l
 match l',l with
 | [],_=>exact List.Pairwise.nil
 | [_],_=>exact List.pairwise_singleton _ _
 | _::_::_,l=>exact absurd l (by simp)
theorem pr_runS{vs:List Value}{ps:List (Int×Int)}(hp:Paired (IsPr s.heap) vs ps)(h2:2≤vs.length) :
  wpAny (model prog w) A (keyKind' vs.toArray) (fun κ t'=>t'=s ∧
   wpAny (model prog w) A ((sortRuns').run (SortSt.mk' κ (vs.toArray.zip vs.toArray) #[] 7 none)) (fun r t2=>t2=s∧failedOf r.2=none∧OutS ps vs ((arrOf r.2).map (·.2)).toList) (fun _ _=>False) s) (fun _ _=>False) s:=by
 obtain⟨fs,kt,lf,hf⟩:=pr_tups hp
 obtain⟨key,hkey⟩:=prOf_ex s.heap
 refine PySem.W.kat_kind (T:=.type "int") kt (by omega) (fun v hv=>?_) (by decide) ⟨rfl,?_⟩
 ·obtain ⟨i,t,rfl⟩:=hf v hv
  exact .now
 ·have mem:∀ x:Keyed,x∈vs.toArray.zip vs.toArray→x.1=x.2∧∃ q,IsPr s.heap x.1 q:=fun x hx=>by
   have hx':x∈vs.zip vs:=by
    have:=Array.mem_toList_iff.mpr hx
    simpa using this
   obtain⟨e1,e2⟩:=mem_zip_self hx'
   obtain⟨k,hk,e3⟩:=List.getElem_of_mem e2
   obtain⟨y,_,z⟩:=Paired.get' (i:=k) (x:=x.1) hp (by rw[List.getElem?_eq_getElem hk,e3])
   exact⟨e1,y,z⟩
  have hc:Tim.CmpL prog w A s (tuples' true) (vs.toArray.zip vs.toArray) (keyLt key):=fun x y hx hy E Q q=>by
   obtain⟨_,p1,z1⟩:=mem x hx
   obtain⟨_,p2,z2⟩:=mem y hy
   unfold keyLt at q
   rw[hkey _ _ z1,hkey _ _ z2]at q
   exact pr_ltS z1 z2 q
  refine Tim.runs_L (st:=SortSt.mk' (tuples' true) (vs.toArray.zip vs.toArray) #[] 7 none) (Q:=fun _ st=>failedOf st=none∧OutS ps vs ((arrOf st).map (·.2)).toList) (keyLt_ord key) hc ⟨rfl,rfl,Array.Perm.refl _⟩ rfl fun st' ok sd=>⟨ok.fail,?_⟩
  have pm:((arrOf st').map (·.2)).toList.Perm vs:=by
   have:=(Array.perm_iff_toList_perm.mp ok.perm).map (·.2)
   rw[Array.toList_map]
   refine this.trans (List.Perm.of_eq ?_)
   simp[List.map_snd_zip]
  obtain⟨p,hpp,eo⟩:=Reord.of_perm pm
  refine⟨p,hpp,eo,?_⟩
  -- the pairs of what lies now
  have s1:(((arrOf st').map (·.2)).toList.map (key)).Pairwise fun x y=>lexB y x=false:=by
   rw[Array.toList_map,List.map_map]
   refine List.pairwise_map.mpr ?_
   refine List.Pairwise.imp_of_mem (fun {x y} hx hy h=>?_) sd
   have m1:=(mem x (ok.perm.mem_iff.mp (Array.mem_toList_iff.mp hx))).1
   have m2:=(mem y (ok.perm.mem_iff.mp (Array.mem_toList_iff.mp hy))).1
   unfold keyLt at h
   show lexB (key y.2) (key x.2)=false
   rw[← m1,← m2]
   exact h
  have e2:((arrOf st').map (·.2)).toList.map (key)=p.map fun i=>ps.getD i (0,0):=by
   rw[eo,List.map_map]
   refine List.map_congr_left fun i hi=>?_
   have hi':i<vs.length:=by
    have:=hpp.mem_iff.mp hi
    simpa using this
   obtain⟨y,hy,z⟩:=Paired.get' (i:=i) (x:=vs[i]) hp (List.getElem?_eq_getElem hi')
   show key (vs.getD i Value.none)=_
   rw[List.getD_eq_getElem?_getD,List.getElem?_eq_getElem hi',List.getD_eq_getElem?_getD,hy]
   exact hkey _ _ z
  rw[e2]at s1
  exact s1
end
section
variable{X:Cx}
theorem UC:Yo X (.builtin "sorted") (fun xs H Q=>∃ (l:Addr) (ws:List V) (prs:List (Int×Int)),xs=[.ref l]∧H l=some (.lst ws)∧Ars H ws prs∧ws.length≤1000 ∧
  ∀ (D:Addr) (ws':List V) (prs':List (Int×Int)) (H':Hp),Same H H'→H' D=some (.lst ws')→Ars H' ws' prs'→prs'.Perm prs→Ris prs'→Q (.ref D) H'):=by
 intro pins s σ H xs us Q I r h
 obtain⟨l,ws,prs,rfl,hl,ha,hn,q⟩:=h
 obtain⟨u,rfl,ru⟩:=Yu r
 cases ru
 obtain⟨its,rv,pl,hz⟩:=I.list (SqL.of hl)
 have lv:ws.length=its.length:=rv.length
 have lp:ws.length=prs.length:=Paired.length ha
 have isp:∀{t:Shared},(∀b o,s.heap.get? b=some o→t.heap.get? b=some o)→Paired (IsPr t.heap) its prs:=by
  intro t kp
  refine Paired.of_get (by omega) fun j v y hv hy=>?_
  have hj:j<its.length:=(List.getElem?_eq_some_iff.mp hv).1
  have hj':j<ws.length:=by omega
  obtain⟨c,e1,a,e2,e3⟩:=Paired.get' (i:=j) (x:=ws[j]) ha (by simp[hj'])
  rw[hy]at e1
  cases e1
  obtain⟨w',e4,e5⟩:=rv.get (i:=j) (x:=ws[j]) (by simp[hj'])
  rw[hv]at e4
  cases e4
  rw[e2]at e5
  have e5:v=Value.ref a:=e5
  obtain⟨jt,r3,⟨ot,g1,g2,n,g3⟩,_⟩:=I.tuple (SqT.of e3)
  obtain⟨u1,u2,rfl,⟨t1,rfl⟩,⟨t2,rfl⟩⟩:=vals2' r3
  exact⟨a,ot,t1,t2,n,e5,kp _ _ g1,g2,g3⟩
 refine Calls.call_function_entry kind_sorted plain_sorted entry_sorted (args_sorted1 _) ?_
 unfold Builtin.«sorted»
 refine wpAny_bind (m:=checkCount "sorted" 1 1 _) (wpAny_pure ?_)
 have sl:(1000000:Nat)<sizeLine:=by decide
 refine wpAny_bind (collect_list pl.isList ?_)
 refine wpAny_bind (wpAny_newList ?_)
 have hsz:((s.heap.push (seqObj "list" #[] 0)).update s.heap.objs.size (Obj.mapSeq (·++its.toArray))).objs.size=s.heap.objs.size+1:=by
  rw[Heap.size_update,size_push']
 have hoL:(((s.heap.push (seqObj "list" #[] 0)).update s.heap.objs.size (Obj.mapSeq (·++its.toArray))).push (seqObj "list" its.toArray 0)).get? (s.heap.objs.size+1)=some (seqObj "list" its.toArray 0):=by
  rw[← hsz];exact Heap.get?_push_size _ rfl
 show wpAny _ _ _ _ _ { s with heap:=((s.heap.push (seqObj "list" #[] 0)).update s.heap.objs.size (Obj.mapSeq (·++its.toArray))).push (seqObj "list" its.toArray 0) }
 rw[hsz]
 have k0:∀b o,s.heap.get? b=some o→(((s.heap.push (seqObj "list" #[] 0)).update s.heap.objs.size (Obj.mapSeq (·++its.toArray))).push (seqObj "list" its.toArray 0)).get? b=some o:=fun b o e=>by
  refine Heap.get?_push_of_some _ ?_
  rw[Heap.get?_update_ne _ _ _ _ (Nat.ne_of_lt (Heap.lt_size e))]
  exact Heap.get?_push_of_some _ e
 refine wpAny_bind (wpAny_holding (wpAny_call_entry slot_list_sort ⟨_,hoL,rfl⟩ entry_list_sort (sort_list (Out:=OutS prs its) hoL (by omega) (fun h2=>OutS.small (by omega)) (fun _ h=>h.len)
  (fun h2 t kp=>pr_runS (isp fun b o e=>kp b o (Nat.ne_of_lt (Nat.lt_succ_of_lt (Heap.lt_size e))) (k0 b o e)) h2) fun out ho=>⟨_,rfl,?_⟩) (args_list_sort _)))
 refine wpAny_pure ⟨_,rfl,?_⟩
 obtain⟨c,hDo⟩:=sortedHeap_at (vs:=its) (out:=out) hoL
 have kp:∀b o,s.heap.get? b=some o→(sortedHeap (((s.heap.push (seqObj "list" #[] 0)).update s.heap.objs.size (Obj.mapSeq (·++its.toArray))).push (seqObj "list" its.toArray 0)) (s.heap.objs.size+1) its out).get? b=some o:=fun b o e=>by
  rw[sortedHeap_old (Nat.ne_of_lt (Nat.lt_succ_of_lt (Heap.lt_size e))) (by rw[size_push',hsz];exact Nat.lt_succ_of_lt (Nat.lt_succ_of_lt (Heap.lt_size e)))]
  exact k0 b o e
 obtain⟨p,hp,eo,ris⟩:=ho
 have I1:Inv X pins σ H { s with heap:=sortedHeap (((s.heap.push (seqObj "list" #[] 0)).update s.heap.objs.size (Obj.mapSeq (·++its.toArray))).push (seqObj "list" its.toArray 0)) (s.heap.objs.size+1) its out }:=I.kept (t':=s.toks) kp
 have fp:FpOk X pins H (s.heap.objs.size+1):=I.newFp fun b o e=>Nat.lt_succ_of_lt (Heap.lt_size e)
 have lt:∀i∈p,i<its.length:=fun i hi=>by
  have:=hp.mem_iff.mp hi
  simpa using this
 have vals:Vals (p.map fun i=>ws.getD i .non) out.toList:=by
  rw[eo]
  refine Paired.of_map fun i hi=>?_
  have hi':=lt i hi
  obtain⟨w',e4,e5⟩:=rv.get (i:=i) (x:=ws[i]'(by omega)) (by simp[lv,hi'])
  have a1:ws.getD i .non=ws[i]'(by omega):=by simp[lv,hi']
  have a2:its.getD i Value.none=w':=by rw[List.getD_eq_getElem?_getD,e4];rfl
  rw[a1,a2]
  exact e5
 have new:ObjOk X.prog X.w (upd H (s.heap.objs.size+1) (.lst (p.map fun i=>ws.getD i .non))) (sortedHeap (((s.heap.push (seqObj "list" #[] 0)).update s.heap.objs.size (Obj.mapSeq (·++its.toArray))).push (seqObj "list" its.toArray 0)) (s.heap.objs.size+1) its out) (s.heap.objs.size+1) (.lst (p.map fun i=>ws.getD i .non)):=by
  refine⟨?_,out.toList,c,vals,by simpa using hDo⟩
  rw[List.length_map,hp.length_eq,List.length_range]
  omega
 refine⟨.ref (s.heap.objs.size+1),_,I1.adopt fp new,rfl,q _ _ (p.map fun i=>prs.getD i (0,0)) _ (Same.upd fp.1) Jb (Paired.of_map fun i hi=>?_) ?_ ris⟩
 ·have hi':=lt i hi
  obtain⟨c,e1,a,e2,e3⟩:=Paired.get' (i:=i) (x:=ws[i]'(by omega)) ha (by simp[lv,hi'])
  have a1:ws.getD i .non=ws[i]'(by omega):=by simp[lv,hi']
  have a2:prs.getD i (0,0)=c:=by rw[List.getD_eq_getElem?_getD,e1];rfl
  rw[a1,a2]
  exact⟨a,e2,by rw[Jh (Jg e3 fp.1)];exact e3⟩
 ·have e:(List.range its.length).map (fun i=>prs.getD i (0,0))=prs:=by
   apply List.ext_getElem
   ·simp
    omega
   ·intro i h1 h2
    simp[h2]
  have:=hp.map fun i=>prs.getD i (0,0)
  rw[e]at this
  exact this
theorem QN (hc:X.calm=true):Yo X (.type "list") (fun xs H Q=>∃ (d:Addr) (kvs:List (List Key×V)) (prs:List (Int×Int)),xs=[.ref d]∧H d=some (.dT kvs)∧kvs.map (·.1)=prs.map JD∧kvs.length≤1000 ∧
  ∀ (D:Addr) (ws:List V) (H':Hp),Same H H'→H' D=some (.lst ws)→Ars H' ws prs→prs.Nodup→Q (.ref D) H'):=by
 intro pins s σ H xs us Q I r h
 obtain⟨d,kvs,prs,rfl,hd,hk,hl,q⟩:=h
 obtain⟨z,hsys,xs',rel,o,es,ep,e1,e2,e3,e4,nd⟩:=(show ObjOk X.prog X.w H s.heap d (.dT kvs)from I.hok d _ hd)
 have ek:∀{l:List (List Key×V)}{r:List (List Key×Addr×Value)},Paired (fun(p:List Key×V) (q:List Key×Addr×Value)=>p.1=q.1∧H q.2.1=some (.tup (p.1.map kV))∧RelV p.2 q.2.2) l r→l.map (·.1)=r.map (·.1):=by
  intro l r h
  induction h with
  | nil=>rfl
  | cons a _ ih=>rw [List.map_cons,List.map_cons,ih,a.1]
 rw[← ek rel,hk]at nd
 have nd':prs.Nodup:=List.Pairwise.of_map JD (fun a b h e=>h (by rw[e])) nd
 exact call_list_prs hc pins s σ H _ us Q I r ⟨d,kvs,prs,rfl,hd,hk,hl,fun D ws H' s1 hD ar=>q D ws H' s1 hD ar nd'⟩
theorem Qq:∀{l:List (Int×Int)},Ris l→l.Nodup→l.Pairwise fun x y=>lexB x y=true
 | [],_,_=>List.Pairwise.nil
 | a::r,h,n=>by
  obtain⟨h1,h2⟩:=List.pairwise_cons.mp h
  obtain⟨n1,n2⟩:=List.pairwise_cons.mp n
  refine List.pairwise_cons.mpr ⟨fun b hb=>?_,Qq h2 n2⟩
  have e1:=h1 b hb
  have e2:=n1 b hb
  rw[ZL]at e1
  rw[Ws]
  have:¬ (a.1=b.1∧a.2=b.2):=fun z=>e2 (Prod.ext z.1 z.2)
  omega
end
end L2
namespace L2
open PySem PySem.Calls PySem.Spec PyProof.Rows
section
variable{X:Cx}
end
end L2
namespace L2
open PySem PySem.Calls PySem.Spec PyProof.Rows PySem.W
section
variable{X:Cx}{k i:Nat}{x:Str}{ps:List Str}{sp:Sp}{p pos:Pos}{e:Expr}{es:List Expr}{t:TA}{f:Addr}{fd:FuncData}
end
end L2
namespace L2
open PySem PySem.Calls PySem.Spec PyProof.Rows
section
variable{X:Cx}{A:Around}
theorem eqAt_prA{pins:List (Addr×Obj)}{s:Shared}{σ:St}{H:Hp}(hu:A.units<cLine)(I:Inv X pins σ H s){a p:Addr}{ns:List Int}(ha:H a=some (.tup (ns.map V.int)))(hp:H p=some (.tup (ns.map V.int))) :
  SeqAt.EqAt A s (.ref a) (.ref p) true:=by
 by_cases e:a=p
 ·subst e
  exact SeqAt.EqAt.same _
 ·obtain ⟨i1,r1,p1,_⟩:=I.tuple (SqT.of hp)
  obtain⟨jt,r3,p3,_⟩:=I.tuple (SqT.of ha)
  refine SeqAt.EqAt.of_refs e ?_
  have key:=SeqAt.RcAt.tuples (A:=A) (s:=s) (e:=eqN (ns.map V.int) (ns.map V.int)) p3 p1 hu (fun j h1 h2=>eqN_at r3 r1 (YK _) (YK _) j h1 h2)
  rw[List.size_toArray,List.size_toArray,← r3.length,← r1.length,QJ,ZN,decide_eq_true rfl]at key
  exact key
end
end L2
namespace L2
open PySem PySem.Calls PySem.Spec PyProof.Rows
section
variable{X:Cx}
end
end L2
namespace L2
open PySem PySem.Spec PyProof.Rows
theorem for_enumL{a:Addr}{xs:List V}{g:TG}{tb:TS}{D:Ends}{σ:St}{H:Hp}(Pv:Nat→St→Hp→Prop)(h0:Pv 0 σ H)(hl:∀i σ H,i≤xs.length→Pv i σ H→H a=some (.lst xs))
  (hs:∀(i:Nat) v σ H p,xs[i]?=some v→Pv i σ H→H p=none→g (.ref p) σ (upd H p (.tup [.int i,v])) fun σ2 H2=>tb { D with nx:=Pv (i+1),ct:=Pv (i+1),bk:=D.nx } σ2 H2) (hd:∀σ H,Pv xs.length σ H→D.nx σ H) :
  ∃W:Nat→Nat→St→Hp→Prop,(∃m,W 0 m σ H)∧∀i m σ H,W i m σ H →
   ((IteL a).stop i H∧D.nx σ H)∨((IteL a).go i H∧∃N:St→Hp→Prop,(∀σ' H',N σ' H'→∃m',m'<m∧W (i+1) m' σ' H')∧∀x H',(IteL a).yld i H x H'→g x σ H' fun σ2 H2=>tb { D with nx:=N,ct:=N,bk:=D.nx } σ2 H2):=by
 refine⟨fun i m σ H=>m=xs.length-i∧i≤xs.length∧Pv i σ H,⟨xs.length,by simp,Nat.zero_le _,h0⟩,?_⟩
 rintro i m σ H ⟨rfl,hi,p⟩
 have q:=hl i σ H hi p
 by_cases hlt:i<xs.length
 ·refine .inr ⟨⟨xs,q,hlt⟩,Pv (i + 1),fun σ' H' p'=>⟨xs.length - (i + 1),by omega,rfl,hlt,p'⟩,fun x H' y=>?_⟩
  obtain⟨p',v,e1,e2,e3,y⟩:=y
  subst e1 e3
  exact hs i v σ H p' (y xs q) p e2
 ·have e:i=xs.length:=by omega
  subst e
  exact .inl ⟨⟨xs,q,rfl⟩,hd σ H p⟩
end L2
namespace L2
open PySem PySem.Calls PySem.Spec PyProof.Rows PySem.W
section
variable{X:Cx}{pos:Pos}
end
end L2
namespace Hk
open PySem L2 PySem.W
end Hk
namespace L2
open PySem PySem.Calls PySem.Spec PyProof.Rows PySem.W
section
variable{X:Cx}{e:Expr}{es:List Expr}{pos:Pos}
end
section
variable{X:Cx}{A:Around}
end
end L2
namespace L2
open PySem PySem.Spec PyProof.Rows
theorem rel_key{k:Key}{u:Value}(h:WH k u=true):RelV (kV k) u:=by
 cases k with
 | inl i =>
  cases u with
  | int j t =>
   have e:j=i:=beq_iff_eq.mp (show(j==i)=true from h)
   subst e
   exact⟨t,rfl⟩
  | _=>exact absurd h (by simp [WH,Value.isInt])
 | inr x =>
  cases u with
  | str y t =>
   have e:y=x:=beq_iff_eq.mp (show(y==x)=true from h)
   subst e
   exact⟨t,rfl⟩
  | _=>exact absurd h (by simp [WH,Value.isStrOf])
section
variable{X:Cx}{tg:Expr}
end
section
variable{g:TG}{tc:TT}{te:TE}{σ:St}{H:Hp}{R:List V→Hp→Prop}
end
end L2
namespace L2
open PySem PySem.Calls PySem.Spec PyProof.Rows
section
variable{X:Cx}
def Tpi(H:Hp):List V→List (List Int)→Prop:=Paired fun(v:V) (ns:List Int)=>∃p,v=.ref p∧H p=some (.tup (ns.map V.int))
def rNeLT:R2:=fun x y H Q=>∃(a b:Addr)(ws zs:List V)(nss:List (List Int)),x=.ref a∧y=.ref b∧H a=some (.lst ws)∧H b=some (.lst zs)∧Tpi H ws nss∧Tpi H zs nss∧Q (.bl false) H
theorem op_neLT(hu:X.A.units+1<cLine):OpR X (compareOp .NotEq) rNeLT:=by
 intro pins s σ H x y v u Q I rx ry h
 obtain⟨a,b,ws,zs,nss,rfl,rfl,ha,hb,aw,az,q⟩:=h
 cases rx
 cases ry
 obtain⟨its,r1,p1,_⟩:=I.list (SqL.of ha)
 obtain⟨its2,r2,p2,_⟩:=I.list (SqL.of hb)
 have lw:ws.length=nss.length:=Paired.length aw
 have lz:zs.length=nss.length:=Paired.length az
 refine SeqAt.RcNeAt.lists (e:=fun _=>true) p1.isList p2.isList (by rw[List.size_toArray,List.size_toArray,← r1.length,← r2.length];omega) (Nat.lt_of_succ_lt hu) (fun j h1 h2=>?_) _ _ _ _ ⟨.bl _,H,I,rfl,?_⟩
 ·have h1':j < its.length:=by simpa using h1
  have h2':j<its2.length:=by simpa using h2
  have k1:j<ws.length:=by rw[r1.length];exact h1'
  have k2:j<zs.length:=by rw[r2.length];exact h2'
  obtain⟨c1,e1,q1,f1,g1⟩:=Paired.get' (i:=j) (x:=ws[j]) aw (by simp[k1])
  obtain⟨c2,e2,q2,f2,g2⟩:=Paired.get' (i:=j) (x:=zs[j]) az (by simp[k2])
  rw[e1]at e2
  cases e2
  obtain⟨u1,e3,t1⟩:=r1.get (i:=j) (x:=ws[j]) (by simp[k1])
  obtain⟨u2,e4,t2⟩:=r2.get (i:=j) (x:=zs[j]) (by simp[k2])
  have e3:its[j]=u1:=by simpa [h1']using e3
  have e4:its2[j]=u2:=by simpa [h2']using e4
  rw[f1]at t1
  rw[f2]at t2
  cases t1
  cases t2
  rw[List.getElem_toArray,List.getElem_toArray,e3,e4]
  exact eqAt_prA (A:=X.A.in1) hu I (ns:=c1) g1 g2
 ·rw [show (!(List.range its.toArray.size).all fun _=>true)=false by simp]
  exact q
end
end L2
namespace L2
open PySem PySem.Calls PySem.Spec PyProof.Rows
section
variable{X:Cx}{tg:Expr}
end
end L2
namespace L2
open PySem PySem.Calls PySem.Spec PyProof.Rows
def lexL:List Int→List Int→Bool
 | [],[]=>false
 | [],_::_=>true
 | _::_,[]=>false
 | a::x,b::y=>if a=b then lexL x y else decide (a < b)
theorem QD:∀x:List Int,lexL x x=false
 | []=>rfl
 | a::x=>by
  show(if a=a then lexL x x else decide (a<a))=false
  rw[if_pos rfl]
  exact QD x
theorem QE:∀x y:List Int,lexL x y=true→lexL y x=false
 | [],[],h=>by cases h
 | [],_::_,_=>rfl
 | _::_,[],h=>by cases h
 | a::x,b::y,h=>by
  have h:(if a=b then lexL x y else decide (a<b))=true:=h
  show(if b=a then lexL y x else decide (b<a))=false
  by_cases e:a=b
  ·rw [if_pos e] at h
   rw[if_pos e.symm]
   exact QE x y h
  ·rw [if_neg e] at h
   rw[if_neg (fun z=>e z.symm)]
   have:=of_decide_eq_true h
   exact decide_eq_false (by omega)
theorem lexL_tot:∀x y:List Int,lexL x y=false→lexL y x=false→x=y
 | [],[],_,_=>rfl
 | [],_::_,h,_=>by cases h
 | _::_,[],_,h=>by cases h
 | a::x,b::y,h,g=>by
  have h:(if a=b then lexL x y else decide (a<b))=false:=h
  have g:(if b=a then lexL y x else decide (b<a))=false:=g
  by_cases e:a=b
  ·rw [if_pos e] at h
   rw[if_pos e.symm]at g
   rw[e,lexL_tot x y h g]
  ·rw [if_neg e] at h
   rw[if_neg (fun z=>e z.symm)]at g
   have h:=of_decide_eq_false h
   have g:=of_decide_eq_false g
   omega
theorem lexL_tr:∀x y z:List Int,lexL y x=false→lexL z y=false→lexL z x=false
 | [],[],[],_,_=>rfl
 | [],[],_::_,_,_=>rfl
 | [],_::_,[],_,h=>by cases h
 | [],_::_,_::_,_,_=>rfl
 | _::_,[],_,h,_=>by cases h
 | _::_,_::_,[],_,h=>by cases h
 | a::x,b::y,c::z,h,g=>by
  have h:(if b=a then lexL y x else decide (b<a))=false:=h
  have g:(if c=b then lexL z y else decide (c<b))=false:=g
  show(if c=a then lexL z x else decide (c<a))=false
  by_cases e:b=a
  ·rw [if_pos e] at h
   by_cases e2:c=b
   ·rw [if_pos e2] at g
    rw[if_pos (e2.trans e)]
    exact lexL_tr x y z h g
   ·rw [if_neg e2] at g
    rw[if_neg (fun w=>e2 (w.trans e.symm))]
    have g:=of_decide_eq_false g
    exact decide_eq_false (by omega)
  ·rw [if_neg e] at h
   have h:=of_decide_eq_false h
   by_cases e2:c=b
   ·rw [if_neg (fun w=>e (e2.symm.trans w))]
    exact decide_eq_false (by omega)
   ·rw [if_neg e2] at g
    have g:=of_decide_eq_false g
    rw[if_neg (by omega)]
    exact decide_eq_false (by omega)
abbrev RisL(l:List (List Int)):Prop:=l.Pairwise fun x y=>lexL y x=false
abbrev StcL(l:List (List Int)):Prop:=l.Pairwise fun x y=>lexL x y=true
theorem Wl:∀{l:List (List Int)},RisL l→l.Nodup→StcL l
 | [],_,_=>List.Pairwise.nil
 | a::l,h,n=>by
  obtain⟨h1,h2⟩:=List.pairwise_cons.mp h
  obtain⟨n1,n2⟩:=List.nodup_cons.mp n
  refine List.pairwise_cons.mpr ⟨fun y hy=>?_,Wl h2 n2⟩
  cases e:lexL a y with
  | true=>rfl
  | false=>exact absurd (lexL_tot a y e (h1 y hy)) (fun z=>n1 (z ▸ hy))
theorem StcL.uniq:∀{l r:List (List Int)},StcL l→StcL r→(∀x,x∈l↔x∈r)→l=r
 | [],[],_,_,_=>rfl
 | [],b::r,_,_,h=>nomatch (h b).mpr List.mem_cons_self
 | a::l,[],_,_,h=>nomatch (h a).mp List.mem_cons_self
 | a::l,b::r,s1,s2,h=>by
  obtain⟨a1,a2⟩:=List.pairwise_cons.mp s1
  obtain⟨b1,b2⟩:=List.pairwise_cons.mp s2
  have e:a=b:=by
   rcases List.mem_cons.mp ((h a).mp List.mem_cons_self)with z|z
   ·exact z
   ·rcases List.mem_cons.mp ((h b).mpr List.mem_cons_self) with y | y
    ·exact y.symm
    ·have:=QE _ _ (b1 a z)
     rw[a1 b y]at this
     cases this
  subst e
  rw[StcL.uniq a2 b2 fun x=>⟨fun hx=>?_,fun hx=>?_⟩]
  ·rcases List.mem_cons.mp ((h x).mp (List.mem_cons_of_mem _ hx)) with z | z
   ·have:=a1 x hx
    rw[z,QD]at this
    cases this
   ·exact z
  ·rcases List.mem_cons.mp ((h x).mpr (List.mem_cons_of_mem _ hx)) with z | z
   ·have:=b1 x hx
    rw[z,QD]at this
    cases this
   ·exact z
def IsTp(h:Heap)(v:Value)(ns:List Int):Prop:=∃a o us n,v=.ref a∧h.get? a=some o∧o.cls=.type "tuple"∧o.data=.seq (List.toArray us) n∧Vals (ns.map V.int) us
theorem WD:∀{ns ms:List Int}{us:List Value},Vals (ns.map V.int) us→Vals (ms.map V.int) us→ns=ms
 | [],[],_,_,_=>rfl
 | [],_::_,_,.nil,h=>by cases h
 | _::_,[],_,h,.nil=>by cases h
 | _::_,_::_,_,.cons r t,.cons r' t'=>by
  obtain⟨_,e⟩:=r
  obtain⟨_,e'⟩:=r'
  rw[e]at e'
  injection e' with e1 _
  rw[e1,WD t t']
section
variable{prog:Program}{w:World}{A:Around}{E:Value→Shared→Prop}{s:Shared}
theorem lex_ints{C:Bool→Shared→Prop}:∀(ns ms:List Int)(us vs:List Value)(i:Nat),Vals (ns.map V.int) us→Vals (ms.map V.int) vs→C (lexL ns ms) s→PySem.W.KatLex prog w A true (decide (ns.length<ms.length)) C (us.zip vs) i s
 | [],[],_,_,_,.nil,.nil,h=>PySem.W.kat_nil h
 | [],_::_,_,_,_,.nil,.cons _ _,h=>PySem.W.kat_nil (by rw [show decide (List.length [] < List.length (_::_))=true from by simp]; exact h)
 | _::_,[],_,_,_,.cons _ _,.nil,h=>PySem.W.kat_nil h
 | a::x,b::y,_,_,i,.cons r t,.cons r' t',h=>by
  obtain⟨t1,rfl⟩:=r
  obtain⟨t2,rfl⟩:=r'
  have h:C (if a=b then lexL x y else decide (a<b)) s:=h
  refine PySem.W.kat_cons (SeqAt.EqAt.int_int _ _ _ _ prog w _ _ (PySem.W.kat_go (fun e=>PySem.W.kat_yes ?_) fun e=>PySem.W.kat_no ?_))
  ·have e:a=b:=by simpa using e
   rw[if_pos e]at h
   have ih:=lex_ints x y _ _ (i+1) t t' h
   have:decide ((a::x).length<(b::y).length)=decide (x.length<y.length):=by simp
   rw[this]
   exact ih
  ·have e:¬ a=b:=by simpa using e
   rw[if_neg e]at h
   cases i with
   | zero=>exact oneLt_int h
   | succ i=>exact PySem.W.kat_one _ _ (lt_int (show PySem.W.BoolBack C (.bool _) s from h))
theorem tp_lt{x y:Value}{p q:List Int}{C:Bool→Shared→Prop}(hx:IsTp s.heap x p)(hy:IsTp s.heap y q)(h:C (lexL p q) s):wpAny (model prog w) A (keyLt' (tuples' true) x y) C E s:=by
 obtain⟨a,o,us,n,rfl,h1,h2,h3,h4⟩:=hx
 obtain⟨a',o',us',n',rfl,h1',h2',h3',h4'⟩:=hy
 refine PySem.W.kat_lt h1 h3 h1' h3' ?_
 have l1:us.length=p.length:=by rw[← h4.length,List.length_map]
 have l2:us'.length=q.length:=by rw[← h4'.length,List.length_map]
 show PySem.W.KatLex prog w A true (decide (us.length<us'.length)) C (us.zip us') 0 s
 rw[l1,l2]
 exact lex_ints p q us us' 0 h4 h4' h
theorem IsTp.uniq{h:Heap}{v:Value}{p q:List Int}(x:IsTp h v p)(y:IsTp h v q):p=q:=by
 obtain⟨a,o,us,n,rfl,h1,h2,h3,h4⟩:=x
 obtain⟨a',o',us',n',e,h1',h2',h3',h4'⟩:=y
 cases e
 rw[h1]at h1'
 cases h1'
 rw[h3]at h3'
 injection h3' with e1 _
 have e1:=congrArg Array.toList e1
 simp at e1
 subst e1
 exact WD h4 h4'
theorem tpOf_ex(h:Heap):∃key:Value→List Int,∀v q,IsTp h v q→key v=q:=by
 classical
 refine⟨fun v=>if x:∃q,IsTp h v q then x.choose else[],fun v q x=>?_⟩
 have z:∃q,IsTp h v q:=⟨q,x⟩
 dsimp only
 rw[dif_pos z]
 exact z.choose_spec.uniq x
def keyLtT(key:Value→List Int)(x y:Keyed):Bool:=lexL (key x.1) (key y.1)
theorem keyLtT_ord(key:Value→List Int):Tim.Ordr (keyLtT key):=⟨fun x y e=>QE _ _ e,fun x y z e1 e2=>lexL_tr _ _ _ e1 e2⟩
def OutT(ps:List (List Int))(vs o:List Value):Prop:=∃p:List Nat,p.Perm (List.range vs.length)∧o=p.map (fun i=>vs.getD i Value.none)∧RisL (p.map fun i=>ps.getD i [])
theorem OutT.len{ps:List (List Int)}{vs o:List Value}(h:OutT ps vs o):o.length=vs.length:=by
 obtain⟨p,hp,rfl,_⟩:=h
 rw[List.length_map,hp.length_eq,List.length_range]
theorem OutT.small{ps:List (List Int)}{vs:List Value}(h:vs.length<2):OutT ps vs vs:=by
 obtain⟨p,hp,e⟩:=Reord.refl vs
 refine⟨p,hp,e,?_⟩
 have l:(p.map fun i=>ps.getD i []).length<2:=by rw[List.length_map,hp.length_eq,List.length_range];exact h
 generalize (p.map fun i=>ps.getD i [])=l' at l
 match l',l with
 | [],_=>exact List.Pairwise.nil
 | [_],_=>exact List.pairwise_singleton _ _
 | _::_::_,l=>exact absurd l (by simp)
theorem tp_tups:∀{vs:List Value}{ps:List (List Int)},Paired (IsTp s.heap) vs ps→(∀q∈ps,q≠[])→∃fs,PySem.W.KatTups s.heap vs fs∧fs.length=vs.length∧∀v∈fs,∃i t,v=Value.int i t
 | _,_,.nil,_=>⟨[],PySem.W.KatTups.nil,rfl,fun v hv=>by cases hv⟩
 | _,q::_,.cons h r,ne=>by
  obtain⟨fs,k,l,z⟩:=tp_tups r fun q hq=>ne q (List.mem_cons_of_mem _ hq)
  obtain⟨a,o,us,n,rfl,h1,h2,h3,h4⟩:=h
  have hq:=ne q List.mem_cons_self
  match q,hq,us,h4,h3 with
  | [],hq,_,_,_=>exact absurd rfl hq
  | i::_,_,u::us',.cons r _,h3 =>
   obtain⟨t,rfl⟩:=r
   refine⟨Value.int i t::fs,PySem.W.KatTups.cons h1 h2 h3 (by simp) k,by simp[l],fun v hv=>?_⟩
   rcases List.mem_cons.mp hv with rfl|hv
   ·exact ⟨_,_,rfl⟩
   ·exact z v hv
theorem tp_run{vs:List Value}{ps:List (List Int)}(hp:Paired (IsTp s.heap) vs ps)(hne:∀q∈ps,q≠[])(h2:2≤vs.length) :
  wpAny (model prog w) A (keyKind' vs.toArray) (fun κ t'=>t'=s ∧
   wpAny (model prog w) A ((sortRuns').run (SortSt.mk' κ (vs.toArray.zip vs.toArray) #[] 7 none)) (fun r t2=>t2=s∧failedOf r.2=none∧OutT ps vs ((arrOf r.2).map (·.2)).toList) (fun _ _=>False) s) (fun _ _=>False) s:=by
 obtain⟨fs,kt,lf,hf⟩:=tp_tups hp hne
 obtain⟨key,hkey⟩:=tpOf_ex s.heap
 refine PySem.W.kat_kind (T:=.type "int") kt (by omega) (fun v hv=>?_) (by decide) ⟨rfl,?_⟩
 ·obtain ⟨i,t,rfl⟩:=hf v hv
  exact .now
 ·have mem:∀ x:Keyed,x∈vs.toArray.zip vs.toArray→x.1=x.2∧∃ q,IsTp s.heap x.1 q:=fun x hx=>by
   have hx':x∈vs.zip vs:=by
    have:=Array.mem_toList_iff.mpr hx
    simpa using this
   obtain⟨e1,e2⟩:=mem_zip_self hx'
   obtain⟨k,hk,e3⟩:=List.getElem_of_mem e2
   obtain⟨y,_,z⟩:=Paired.get' (i:=k) (x:=x.1) hp (by rw[List.getElem?_eq_getElem hk,e3])
   exact⟨e1,y,z⟩
  have hc:Tim.CmpL prog w A s (tuples' true) (vs.toArray.zip vs.toArray) (keyLtT key):=fun x y hx hy E Q q=>by
   obtain⟨_,p1,z1⟩:=mem x hx
   obtain⟨_,p2,z2⟩:=mem y hy
   unfold keyLtT at q
   rw[hkey _ _ z1,hkey _ _ z2]at q
   exact tp_lt z1 z2 q
  refine Tim.runs_L (st:=SortSt.mk' (tuples' true) (vs.toArray.zip vs.toArray) #[] 7 none) (Q:=fun _ st=>failedOf st=none∧OutT ps vs ((arrOf st).map (·.2)).toList) (keyLtT_ord key) hc ⟨rfl,rfl,Array.Perm.refl _⟩ rfl fun st' ok sd=>⟨ok.fail,?_⟩
  have pm:((arrOf st').map (·.2)).toList.Perm vs:=by
   have:=(Array.perm_iff_toList_perm.mp ok.perm).map (·.2)
   rw[Array.toList_map]
   refine this.trans (List.Perm.of_eq ?_)
   simp[List.map_snd_zip]
  obtain⟨p,hpp,eo⟩:=Reord.of_perm pm
  refine⟨p,hpp,eo,?_⟩
  -- the pairs of what lies now
  have s1:(((arrOf st').map (·.2)).toList.map (key)).Pairwise fun x y=>lexL y x=false:=by
   rw[Array.toList_map,List.map_map]
   refine List.pairwise_map.mpr ?_
   refine List.Pairwise.imp_of_mem (fun {x y} hx hy h=>?_) sd
   have m1:=(mem x (ok.perm.mem_iff.mp (Array.mem_toList_iff.mp hx))).1
   have m2:=(mem y (ok.perm.mem_iff.mp (Array.mem_toList_iff.mp hy))).1
   unfold keyLtT at h
   show lexL (key y.2) (key x.2)=false
   rw[← m1,← m2]
   exact h
  have e2:((arrOf st').map (·.2)).toList.map (key)=p.map fun i=>ps.getD i []:=by
   rw[eo,List.map_map]
   refine List.map_congr_left fun i hi=>?_
   have hi':i<vs.length:=by
    have:=hpp.mem_iff.mp hi
    simpa using this
   obtain⟨y,hy,z⟩:=Paired.get' (i:=i) (x:=vs[i]) hp (List.getElem?_eq_getElem hi')
   show key (vs.getD i Value.none)=_
   rw[List.getD_eq_getElem?_getD,List.getElem?_eq_getElem hi',List.getD_eq_getElem?_getD,hy]
   exact hkey _ _ z
  rw[e2]at s1
  exact s1
end
section
variable{X:Cx}
theorem ZZ:Yo X (.builtin "sorted") (fun xs H Q=>∃ (l:Addr) (ws:List V) (prs:List (List Int)),xs=[.ref l]∧H l=some (.lst ws)∧Tpi H ws prs∧(∀ q∈prs,q≠[])∧ws.length≤10000 ∧
  ∀ (D:Addr) (ws':List V) (prs':List (List Int)) (H':Hp),Same H H'→H D=none→H' D=some (.lst ws')→Tpi H' ws' prs'→prs'.Perm prs→RisL prs'→Q (.ref D) H'):=by
 intro pins s σ H xs us Q I r h
 obtain⟨l,ws,prs,rfl,hl,ha,hne,hn,q⟩:=h
 obtain⟨u,rfl,ru⟩:=Yu r
 cases ru
 obtain⟨its,rv,pl,hz⟩:=I.list (SqL.of hl)
 have lv:ws.length=its.length:=rv.length
 have lp:ws.length=prs.length:=Paired.length ha
 have isp:∀{t:Shared},(∀b o,s.heap.get? b=some o→t.heap.get? b=some o)→Paired (IsTp t.heap) its prs:=by
  intro t kp
  refine Paired.of_get (by omega) fun j v y hv hy=>?_
  have hj:j<its.length:=(List.getElem?_eq_some_iff.mp hv).1
  have hj':j<ws.length:=by omega
  obtain⟨c,e1,a,e2,e3⟩:=Paired.get' (i:=j) (x:=ws[j]) ha (by simp[hj'])
  rw[hy]at e1
  cases e1
  obtain⟨w',e4,e5⟩:=rv.get (i:=j) (x:=ws[j]) (by simp[hj'])
  rw[hv]at e4
  cases e4
  rw[e2]at e5
  have e5:v=Value.ref a:=e5
  obtain⟨jt,r3,⟨ot,g1,g2,n,g3⟩,_⟩:=I.tuple (SqT.of e3)
  exact⟨a,ot,jt,n,e5,kp _ _ g1,g2,g3,r3⟩
 refine Calls.call_function_entry kind_sorted plain_sorted entry_sorted (args_sorted1 _) ?_
 unfold Builtin.«sorted»
 refine wpAny_bind (m:=checkCount "sorted" 1 1 _) (wpAny_pure ?_)
 have sl:(1000000:Nat)<sizeLine:=by decide
 refine wpAny_bind (collect_list pl.isList ?_)
 refine wpAny_bind (wpAny_newList ?_)
 have hsz:((s.heap.push (seqObj "list" #[] 0)).update s.heap.objs.size (Obj.mapSeq (·++its.toArray))).objs.size=s.heap.objs.size+1:=by
  rw[Heap.size_update,size_push']
 have hoL:(((s.heap.push (seqObj "list" #[] 0)).update s.heap.objs.size (Obj.mapSeq (·++its.toArray))).push (seqObj "list" its.toArray 0)).get? (s.heap.objs.size+1)=some (seqObj "list" its.toArray 0):=by
  rw[← hsz];exact Heap.get?_push_size _ rfl
 show wpAny _ _ _ _ _ { s with heap:=((s.heap.push (seqObj "list" #[] 0)).update s.heap.objs.size (Obj.mapSeq (·++its.toArray))).push (seqObj "list" its.toArray 0) }
 rw[hsz]
 have k0:∀b o,s.heap.get? b=some o→(((s.heap.push (seqObj "list" #[] 0)).update s.heap.objs.size (Obj.mapSeq (·++its.toArray))).push (seqObj "list" its.toArray 0)).get? b=some o:=fun b o e=>by
  refine Heap.get?_push_of_some _ ?_
  rw[Heap.get?_update_ne _ _ _ _ (Nat.ne_of_lt (Heap.lt_size e))]
  exact Heap.get?_push_of_some _ e
 refine wpAny_bind (wpAny_holding (wpAny_call_entry slot_list_sort ⟨_,hoL,rfl⟩ entry_list_sort (sort_list (Out:=OutT prs its) hoL (by omega) (fun h2=>OutT.small (by omega)) (fun _ h=>h.len)
  (fun h2 t kp=>tp_run (isp fun b o e=>kp b o (Nat.ne_of_lt (Nat.lt_succ_of_lt (Heap.lt_size e))) (k0 b o e)) hne h2) fun out ho=>⟨_,rfl,?_⟩) (args_list_sort _)))
 refine wpAny_pure ⟨_,rfl,?_⟩
 obtain⟨c,hDo⟩:=sortedHeap_at (vs:=its) (out:=out) hoL
 have kp:∀b o,s.heap.get? b=some o→(sortedHeap (((s.heap.push (seqObj "list" #[] 0)).update s.heap.objs.size (Obj.mapSeq (·++its.toArray))).push (seqObj "list" its.toArray 0)) (s.heap.objs.size+1) its out).get? b=some o:=fun b o e=>by
  rw[sortedHeap_old (Nat.ne_of_lt (Nat.lt_succ_of_lt (Heap.lt_size e))) (by rw[size_push',hsz];exact Nat.lt_succ_of_lt (Nat.lt_succ_of_lt (Heap.lt_size e)))]
  exact k0 b o e
 obtain⟨p,hp,eo,ris⟩:=ho
 have I1:Inv X pins σ H { s with heap:=sortedHeap (((s.heap.push (seqObj "list" #[] 0)).update s.heap.objs.size (Obj.mapSeq (·++its.toArray))).push (seqObj "list" its.toArray 0)) (s.heap.objs.size+1) its out }:=I.kept (t':=s.toks) kp
 have fp:FpOk X pins H (s.heap.objs.size+1):=I.newFp fun b o e=>Nat.lt_succ_of_lt (Heap.lt_size e)
 have lt:∀i∈p,i<its.length:=fun i hi=>by
  have:=hp.mem_iff.mp hi
  simpa using this
 have vals:Vals (p.map fun i=>ws.getD i .non) out.toList:=by
  rw[eo]
  refine Paired.of_map fun i hi=>?_
  have hi':=lt i hi
  obtain⟨w',e4,e5⟩:=rv.get (i:=i) (x:=ws[i]'(by omega)) (by simp[lv,hi'])
  have a1:ws.getD i .non=ws[i]'(by omega):=by simp[lv,hi']
  have a2:its.getD i Value.none=w':=by rw[List.getD_eq_getElem?_getD,e4];rfl
  rw[a1,a2]
  exact e5
 have new:ObjOk X.prog X.w (upd H (s.heap.objs.size+1) (.lst (p.map fun i=>ws.getD i .non))) (sortedHeap (((s.heap.push (seqObj "list" #[] 0)).update s.heap.objs.size (Obj.mapSeq (·++its.toArray))).push (seqObj "list" its.toArray 0)) (s.heap.objs.size+1) its out) (s.heap.objs.size+1) (.lst (p.map fun i=>ws.getD i .non)):=by
  refine⟨?_,out.toList,c,vals,by simpa using hDo⟩
  rw[List.length_map,hp.length_eq,List.length_range]
  omega
 refine⟨.ref (s.heap.objs.size+1),_,I1.adopt fp new,rfl,q _ _ (p.map fun i=>prs.getD i []) _ (Same.upd fp.1) fp.1 Jb (Paired.of_map fun i hi=>?_) ?_ ris⟩
 ·have hi':=lt i hi
  obtain⟨c,e1,a,e2,e3⟩:=Paired.get' (i:=i) (x:=ws[i]'(by omega)) ha (by simp[lv,hi'])
  have a1:ws.getD i .non=ws[i]'(by omega):=by simp[lv,hi']
  have a2:prs.getD i []=c:=by rw[List.getD_eq_getElem?_getD,e1];rfl
  rw[a1,a2]
  exact⟨a,e2,by rw[Jh (Jg e3 fp.1)];exact e3⟩
 ·have e:(List.range its.length).map (fun i=>prs.getD i [])=prs:=by
   apply List.ext_getElem
   ·simp
    omega
   ·intro i h1 h2
    simp[h2]
  have:=hp.map fun i=>prs.getD i []
  rw[e]at this
  exact this
end
end L2
namespace L2
open PySem PySem.Spec PyProof.Rows
section
variable{X:Cx}{tg:Expr}
end
end L2
namespace L2
open PySem PySem.Spec PyProof.Rows
section
variable{X:Cx}{N:List Str}{src:List (Option Nat)}{scope:Scope}{cl:List (Str×Addr)}{z:Str}{pins:List (Addr×Obj)}{σ:St}{H:Hp}{s:Shared}
end
end L2
namespace L2
open PySem PySem.Calls PySem.Spec PyProof.Rows
end L2
namespace L2
open PySem PySem.Calls PySem.Spec PyProof.Rows PySem.W
section
variable{X:Cx}{pos:Pos}
variable{b₀:Stmt}{sts suite:List Stmt}{i:Nat}{n c:Str}{pc hpos:Pos}{W:Addr}{tb:XK→TS}{th:TS}
end
section
variable{X:Cx}
def rEqTN(K:PySem.W.Frag):R2:=fun x y H Q=>∃a b xs,x=.ref a∧y=.ref b∧SqT K H a xs∧SqT K H b []∧Q (.bl xs.isEmpty) H
theorem op_eqTN(hu:X.A.units<cLine):OpR X (compareOp .Eq) (rEqTN X.K):=by
 intro pins s σ H x y v u Q I rx ry h
 obtain⟨a,b,xs,rfl,rfl,ha,hb,q⟩:=h
 cases rx
 cases ry
 obtain⟨its,r1,p1,_⟩:=I.tuple ha
 obtain⟨its2,r2,p2,_⟩:=I.tuple hb
 have e2:its2=[]:=by
  have:=r2.length
  exact List.length_eq_zero_iff.mp this.symm
 subst e2
 refine SeqAt.eq_tupleAt (e:=fun _=>true) p1 p2 hu (fun j h1 h2=>absurd h2 (by simp)) ⟨.bl _,H,I,rfl,?_⟩
 have e:xs.isEmpty=its.isEmpty:=by
  have:=r1.length
  cases xs<;>cases its<;>first|rfl|cases this
 rw[e]at q
 cases its with
 | nil=>simpa using q
 | cons x r=>simpa using q
end
end L2
namespace L2
open PySem PySem.Calls PySem.Spec PyProof.Rows
section
variable{X:Cx}
theorem collect_tupL{prog:Program}{w:World}{A:Around}{E:Value→Shared→Prop}{s:Shared}{l:Addr}{vs:List Value}{Q:List Value→Shared→Prop}(hl:IsTup s.heap l vs.toArray)
  (h:Q vs { s with heap:=(s.heap.push (seqObj "list" #[] 0)).update s.heap.objs.size (Obj.mapSeq (·++vs.toArray)) }) (hsz:vs.length≤sizeLine) :
  wpAny (model prog w) A (collect (.ref l)) Q E s:=by
 obtain⟨o,ho,hc,n,hd⟩:=id hl
 unfold collect
 refine wpAny_bind (wpAny_runValue (codeAny_builtin entry_proto_collect' ?_))
 show wpAny _ _ (do again (.builtin "list.__iadd__" ⟨[← newList [],.ref l],[]⟩)) _ _ s
 refine wpAny_bind (wpAny_newList (wpAny_pure ⟨Code.quiet_builtin _ (by decide +kernel),codeAny_builtin entry_list_iadd' ?_⟩))
 show wpAny _ _ (Builtin.List.listExtendWith (.ref s.heap.objs.size) (.ref l) (.ref s.heap.objs.size)) _ _ { s with heap:=s.heap.push (seqObj "list" #[] 0) }
 unfold Builtin.List.listExtendWith
 have ho':(s.heap.push (seqObj "list" #[] 0)).get? l=some o:=Heap.get?_push_of_some _ ho
 refine wpAny_bind (wpAny_typeOf (T:="tuple") ⟨o,ho',hc⟩ ?_)
 have ht:(Value.type "tuple"==Value.type "tuple")=true:=by rfl
 rw[if_pos (by rw[ht];simp)]
 refine wpAny_bind (listItems_at ho' hd ?_)
 refine wpAny_bind (listItems_at (xs:=#[]) (n:=0) (Heap.get?_push_size _ rfl) rfl ?_)
 rw[if_neg (by simp)]
 refine wpAny_bind (listUpdate_at (xs:=#[]) (n:=0) (Heap.get?_push_size _ rfl) rfl ?_ (Nat.zero_le _) (by show(#[]++vs.toArray).size≤sizeLine+1;simp only[Array.size_append,List.size_toArray,List.length_nil];omega))
 refine wpAny_pure ?_
 show wpAny (model prog w) A (do
   let o ← load s.heap.objs.size
   match o.data with
   | .seq xs _=>pure xs.toList
   | _=>unsupported "internal:collect") Q E { s with heap:=(s.heap.push (seqObj "list" #[] 0)).update s.heap.objs.size (Obj.mapSeq (·++vs.toArray)) }
 refine wpAny_bind (wpAny_load (get?_update_seq (Heap.get?_push_size _ rfl) _) ?_)
 show wpAny _ _ (pure ((#[]:Array Value)++vs.toArray).toList) Q E _
 rw[show((#[]:Array Value)++vs.toArray).toList=vs by simp]
 exact wpAny_pure h
theorem Uo:Yo X (.builtin "sorted") (fun xs H Q=>∃ (a:Addr) (ns:List Int),xs=[.ref a]∧H a=some (.tup (ns.map V.int))∧ns.length < 64 ∧
  ∀ (D:Addr) (ns':List Int) (H':Hp),Same H H'→H' D=some (.lst (ns'.map V.int))→ns'.Perm ns→ns'.Pairwise (·≤·)→Q (.ref D) H'):=by
 intro pins s σ H xs us Q I r h
 obtain⟨a,ns,rfl,hq,hl,q⟩:=h
 obtain⟨u,rfl,ru⟩:=Yu r
 cases ru
 obtain⟨its,rv,pl,hz⟩:=I.tuple (SqT.of hq)
 have li:its.length=ns.length:=by rw[← rv.length,List.length_map]
 have sl:(1000000:Nat)<sizeLine:=by decide
 have hI:IntsAre its ns:=ZX rv
 refine Calls.call_function_entry kind_sorted plain_sorted entry_sorted (args_sorted1 _) ?_
 unfold Builtin.«sorted»
 refine wpAny_bind (m:=checkCount "sorted" 1 1 _) (wpAny_pure ?_)
 refine wpAny_bind (collect_tupL pl ?_ (by omega))
 refine wpAny_bind (wpAny_newList ?_)
 have hsz:((s.heap.push (seqObj "list" #[] 0)).update s.heap.objs.size (Obj.mapSeq (·++its.toArray))).objs.size=s.heap.objs.size+1:=by
  rw[Heap.size_update,size_push']
 have hoL:(((s.heap.push (seqObj "list" #[] 0)).update s.heap.objs.size (Obj.mapSeq (·++its.toArray))).push (seqObj "list" its.toArray 0)).get? (s.heap.objs.size+1)=some (seqObj "list" its.toArray 0):=by
  rw[← hsz];exact Heap.get?_push_size _ rfl
 show wpAny _ _ _ _ _ { s with heap:=((s.heap.push (seqObj "list" #[] 0)).update s.heap.objs.size (Obj.mapSeq (·++its.toArray))).push (seqObj "list" its.toArray 0) }
 rw[hsz]
 refine wpAny_bind (wpAny_holding (wpAny_call_entry slot_list_sort ⟨_,hoL,rfl⟩ entry_list_sort (list_sort_tree hoL hI (by omega) fun out ns' h1 h2 h3=>⟨_,rfl,?_⟩) (args_list_sort _)))
 refine wpAny_pure ⟨_,rfl,?_⟩
 show ∃x H',Inv X pins σ H' { s with heap:=sortedAll s.heap its out }∧_
 have I1:Inv X pins σ H { s with heap:=sortedAll s.heap its out }:=I.kept (t':=s.toks) fun b o e=>sortedAll_old e
 obtain⟨c,hc⟩:=sortedAll_at s.heap its out
 have fp:FpOk X pins H (s.heap.objs.size+1):=I.newFp fun b o e=>Nat.lt_succ_of_lt (Heap.lt_size e)
 refine⟨.ref (s.heap.objs.size+1),_,I1.adopt (o:=.lst (ns'.map V.int)) fp ⟨?_,out.toList,c,ZD h1,by simpa using hc⟩,rfl,q _ ns' _ (Same.upd fp.1) Jb h2 h3⟩
 rw[List.length_map,h2.length_eq]
 exact Nat.le_of_lt (Jj (by omega))
end
end L2
namespace PySem.SeqAt
open AutoSeq1 (wpAny_loadPart')
open MeetsSeq
section
variable{A:Around}{s:Shared}
end
end PySem.SeqAt
namespace L2
open PySem PySem.Calls PySem.Spec PyProof.Rows
section
variable{X:Cx}
end
end L2
namespace L2
open PySem PySem.Calls PySem.Spec PyProof.Rows
inductive Tr where
 | non | int (i:Int) | str (x:Str) | tup (l:List Tr) | lst (l:List Tr)
inductive IsV(K:PySem.W.Frag)(H:Hp)(R:V→Tr→Prop):V→Tr→Prop where
 | non:IsV K H R .non .non
 | bl (b:Bool):IsV K H R (.bl b) (.int (if b then 1 else 0))
 | int (i:Int):IsV K H R (.int i) (.int i)
 | str (x:Str):IsV K H R (.str x) (.str x)
 | tup {a:Addr} {xs:List V} {ts:List Tr} (q:SqT K H a xs) (p:Paired R xs ts):IsV K H R (.ref a) (.tup ts)
 | lst {a:Addr} {xs:List V} {ts:List Tr} (q:SqL K H a xs) (p:Paired R xs ts):IsV K H R (.ref a) (.lst ts)
def Is(K:PySem.W.Frag)(H:Hp):Nat→V→Tr→Prop
 | 0=>IsV K H fun _ _=>False
 | d + 1=>IsV K H (Is K H d)
theorem same_rd{H H':Hp}{a:Addr}{u:HO}(s:Same H H')(h:Rd H a u):Rd H' a u:=by
 rcases h with h|⟨o,h⟩
 ·exact .inl (s _ _ h)
 ·exact .inr ⟨o,s _ _ h⟩
theorem Qo{K:PySem.W.Frag}{H H':Hp}{a:Addr}{xs:List V}(s:Same H H')(h:SqT K H a xs):SqT K H' a xs:=h.imp (same_rd s) id
theorem Is.int{K:PySem.W.Frag}{H:Hp}(i:Int):∀{d:Nat},Is K H d (.int i) (.int i)
 | 0=>IsV.int i
 | _ + 1=>IsV.int i
theorem Is.tup{K:PySem.W.Frag}{H:Hp}{d:Nat}{a:Addr}{xs:List V}{ts:List Tr}(q:SqT K H a xs)(p:Paired (Is K H d) xs ts):Is K H (d+1) (.ref a) (.tup ts):=IsV.tup q p
def tPr(q:Int×Int):Tr:=.tup [.int q.1,.int q.2]
def tPrs(l:List (Int×Int)):List Tr:=l.map tPr
theorem is_ars{K:PySem.W.Frag}{H:Hp}{d:Nat}{ws:List V}{prs:List (Int×Int)}(h:Ars H ws prs):Paired (Is K H (d+1)) ws (tPrs prs):=by
 induction h with
 | nil=>exact .nil
 | cons a _ ih =>
  obtain⟨r,rfl,e⟩:=a
  exact .cons (Is.tup (SqT.of e) (.cons (Is.int _) (.cons (Is.int _) .nil))) ih
theorem Qh(a b:Bool):((a==b)=true)↔(Tr.int (if a then 1 else 0)=Tr.int (if b then 1 else 0)):=by cases a<;>cases b<;>simp
theorem QQ(a:Bool)(n:Int):(((if a then(1:Int)else 0)==n)=true)↔(Tr.int (if a then 1 else 0)=Tr.int n):=by simp
theorem QP(n:Int)(a:Bool):((n==(if a then(1:Int)else 0))=true)↔(Tr.int n=Tr.int (if a then 1 else 0)):=by simp
theorem tr_eqint_int(m n:Int):((m==n)=true)↔(Tr.int m=Tr.int n):=by simp
theorem tr_eqstr(x y:Str):((x==y)=true)↔(Tr.str x=Tr.str y):=by simp
section
variable{X:Cx}{pins:List (Addr×Obj)}{s:Shared}{σ:St}{H:Hp}{A:Around}{R:V→Tr→Prop}
theorem sq_excl(I:Inv X pins σ H s){a:Addr}{xs ys:List V}(h:SqT X.K H a xs)(g:SqL X.K H a ys):False:=by
 obtain⟨_,_,⟨o,e,c,_⟩,_⟩:=I.tuple h
 obtain⟨_,_,⟨o',n',e',c',_⟩,_⟩:=I.list g
 rw[e]at e'
 cases e'
 rw[c]at c'
 exact absurd c' (by decide)
theorem ZH{R':V→Tr→Prop}(hF:∀x t t',R' x t→R' x t'→t=t'):∀{xs:List V}{ts ts':List Tr},Paired R' xs ts→Paired R' xs ts'→ts=ts'
 | _,_,_,.nil,.nil=>rfl
 | _,_,_,.cons a r,.cons b q=>by rw [hF _ _ _ a b,ZH hF r q]
theorem isv_fn(I:Inv X pins σ H s)(hF:∀x t t',R x t→R x t'→t=t'){x:V}{t t':Tr}(h:IsV X.K H R x t)(g:IsV X.K H R x t'):t=t':=by
 cases h with
 | non=>cases g; rfl
 | bl b=>cases g; rfl
 | int i=>cases g; rfl
 | str z=>cases g; rfl
 | tup q p =>
  cases g with
  | tup q' p' =>
   cases I.tuple_inj q q'
   rw[ZH hF p p']
  | lst q' p'=>exact (sq_excl I q q').elim
 | lst q p =>
  cases g with
  | lst q' p' =>
   cases I.list_inj q q'
   rw[ZH hF p p']
  | tup q' p'=>exact (sq_excl I q' q).elim
theorem is_fn(I:Inv X pins σ H s):∀{d:Nat}{x:V}{t t':Tr},Is X.K H d x t→Is X.K H d x t'→t=t'
 | 0,_,_,_,h,g=>isv_fn I (fun _ _ _ z _=>z.elim) h g
 | d + 1,_,_,_,h,g=>isv_fn (R:=Is X.K H d) I (fun _ _ _ a b=>is_fn I a b) h g
theorem items_eq(hR:∀x y t t' v u,R x t→R y t'→RelV x v→RelV y u→∃b,(b=true↔t=t')∧SeqAt.EqAt A s v u b){xs ys:List V}{its jts:List Value}{ts ts':List Tr}(r1:Vals xs its)(r2:Vals ys jts)(p1:Paired R xs ts)(p2:Paired R ys ts') :
  ∃e:Nat→Bool,(∀j (h1:j<its.toArray.size) (h2:j<jts.toArray.size),SeqAt.EqAt A s its.toArray[j] jts.toArray[j] (e j))∧∀j,j<ts.length→j<ts'.length→(e j=true↔ts[j]?=ts'[j]?):=by
 have l1:xs.length=its.length:=r1.length
 have l2:ys.length=jts.length:=r2.length
 have l3:xs.length=ts.length:=Paired.length p1
 have l4:ys.length=ts'.length:=Paired.length p2
 have ex:∀(j:Nat)(h1:j<its.toArray.size)(h2:j<jts.toArray.size),∃b,(b=true↔ts[j]?=ts'[j]?)∧SeqAt.EqAt A s its.toArray[j] jts.toArray[j] b:=by
  intro j h1 h2
  have h1':j<its.length:=by simpa using h1
  have h2':j<jts.length:=by simpa using h2
  obtain⟨v1,e1,q1⟩:=r1.get (i:=j) (x:=xs[j]) (by simp[show j<xs.length by omega])
  obtain⟨v2,e2,q2⟩:=r2.get (i:=j) (x:=ys[j]) (by simp[show j<ys.length by omega])
  obtain⟨t1,e3,q3⟩:=Paired.get' (i:=j) (x:=xs[j]) p1 (by simp[show j<xs.length by omega])
  obtain⟨t2,e4,q4⟩:=Paired.get' (i:=j) (x:=ys[j]) p2 (by simp[show j<ys.length by omega])
  have e1':its[j]=v1:=by simpa [h1']using e1
  have e2':jts[j]=v2:=by simpa [h2']using e2
  obtain⟨b,hb,he⟩:=hR _ _ _ _ _ _ q3 q4 q1 q2
  refine⟨b,?_,?_⟩
  ·rw [e3,e4,hb]
   simp
  ·rw [List.getElem_toArray,List.getElem_toArray,e1',e2']
   exact he
 classical
 refine⟨fun j=>if h:j<its.toArray.size∧j<jts.toArray.size then Classical.choose (ex j h.1 h.2)else false,fun j h1 h2=>?_,fun j h1 h2=>?_⟩
 ·dsimp only
  rw[dif_pos (⟨h1,h2⟩:j<its.toArray.size∧j<jts.toArray.size)]
  exact(Classical.choose_spec (ex j h1 h2)).2
 ·have k1:j < its.toArray.size:=by rw [List.size_toArray]; omega
  have k2:j<jts.toArray.size:=by rw[List.size_toArray];omega
  dsimp only
  rw[dif_pos (⟨k1,k2⟩:j<its.toArray.size∧j<jts.toArray.size)]
  exact(Classical.choose_spec (ex j k1 k2)).1
theorem all_iff{e:Nat→Bool}{ts ts':List Tr}{n n':Nat}(l:ts.length=n)(l':ts'.length=n')(he:∀j,j<ts.length→j<ts'.length→(e j=true↔ts[j]?=ts'[j]?)):((List.range (min n n')).all e&&n==n')=true↔ts=ts':=by
 subst l l'
 rw[Bool.and_eq_true,beq_iff_eq,List.all_eq_true]
 constructor
 ·rintro ⟨h,hl⟩
  refine List.ext_getElem? fun j=>?_
  by_cases hj:j<ts.length
  ·exact (he j hj (by omega)).mp (h j (by rw [List.mem_range]; omega))
  ·rw [List.getElem?_eq_none (by omega),List.getElem?_eq_none (by omega)]
 ·rintro rfl
  refine⟨fun j hj=>?_,rfl⟩
  rw[List.mem_range]at hj
  exact(he j (by omega) (by omega)).mpr rfl
theorem len_of{xs:List V}{its:List Value}{ts:List Tr}(r:Vals xs its)(p:Paired R xs ts):ts.length=its.toArray.size:=by
 rw[List.size_toArray,← r.length,Paired.length p]
section
variable(hu:A.units<cLine)(I:Inv X pins σ H s)(hR:∀x y t t' v u,R x t→R y t'→RelV x v→RelV y u→∃b,(b=true↔t=t')∧SeqAt.EqAt A.in1 s v u b)(hF:∀x t t',R x t→R x t'→t=t')
include hu I hR hF
theorem rcat_tup{a b:Addr}{xs ys:List V}{ts ts':List Tr}(q1:SqT X.K H a xs)(q2:SqT X.K H b ys)(p1:Paired R xs ts)(p2:Paired R ys ts'):∃k,(k=true↔Tr.tup ts=Tr.tup ts')∧SeqAt.RcAt A s (.ref a) (.ref b) k:=by
 obtain⟨its,r1,pp1,_⟩:=I.tuple q1
 obtain⟨jts,r2,pp2,_⟩:=I.tuple q2
 obtain⟨e,he,hi⟩:=items_eq hR r1 r2 p1 p2
 refine⟨_,?_,SeqAt.RcAt.tuples pp1 pp2 hu he⟩
 rw[all_iff (len_of r1 p1) (len_of r2 p2) hi,Tr.tup.injEq]
theorem rcat_lst{a b:Addr}{xs ys:List V}{ts ts':List Tr}(q1:SqL X.K H a xs)(q2:SqL X.K H b ys)(p1:Paired R xs ts)(p2:Paired R ys ts'):∃k,(k=true↔Tr.lst ts=Tr.lst ts')∧SeqAt.RcAt A s (.ref a) (.ref b) k:=by
 obtain⟨its,r1,pp1,_⟩:=I.list q1
 obtain⟨jts,r2,pp2,_⟩:=I.list q2
 obtain⟨e,he,hi⟩:=items_eq hR r1 r2 p1 p2
 have l1:=len_of r1 p1
 have l2:=len_of r2 p2
 by_cases c:its.toArray.size=jts.toArray.size
 ·refine ⟨_,?_,SeqAt.RcAt.lists pp1.isList pp2.isList c hu he⟩
  have:=all_iff l1 l2 hi
  rw[c,Nat.min_self,beq_self_eq_true,Bool.and_true]at this
  rw[c,this,Tr.lst.injEq]
 ·refine ⟨false,?_,SeqAt.RcAt.lists_lengths pp1.isList pp2.isList (by simpa using c) hu⟩
  simp only[Bool.false_eq_true,Tr.lst.injEq,false_iff]
  exact fun z=>c (by rw[← l1,← l2,z])
theorem eqat_tup{a b:Addr}{xs ys:List V}{ts ts':List Tr}(q1:SqT X.K H a xs)(q2:SqT X.K H b ys)(p1:Paired R xs ts)(p2:Paired R ys ts'):∃k,(k=true↔Tr.tup ts=Tr.tup ts')∧SeqAt.EqAt A s (.ref a) (.ref b) k:=by
 by_cases c:a=b
 ·subst c
  cases I.tuple_inj q1 q2
  rw[ZH hF p1 p2]
  exact⟨true,by simp,SeqAt.EqAt.same _⟩
 ·obtain ⟨k,hk,h⟩:=rcat_tup hu I hR hF q1 q2 p1 p2
  exact⟨k,hk,SeqAt.EqAt.of_refs c h⟩
theorem eqat_lst{a b:Addr}{xs ys:List V}{ts ts':List Tr}(q1:SqL X.K H a xs)(q2:SqL X.K H b ys)(p1:Paired R xs ts)(p2:Paired R ys ts'):∃k,(k=true↔Tr.lst ts=Tr.lst ts')∧SeqAt.EqAt A s (.ref a) (.ref b) k:=by
 by_cases c:a=b
 ·subst c
  cases I.list_inj q1 q2
  rw[ZH hF p1 p2]
  exact⟨true,by simp,SeqAt.EqAt.same _⟩
 ·obtain ⟨k,hk,h⟩:=rcat_lst hu I hR hF q1 q2 p1 p2
  exact⟨k,hk,SeqAt.EqAt.of_refs c h⟩
theorem eqAt_isv{x y:V}{t t':Tr}{v u:Value}(h:IsV X.K H R x t)(h':IsV X.K H R y t')(rx:RelV x v)(ry:RelV y u):∃b,(b=true↔t=t')∧SeqAt.EqAt A s v u b:=by
 cases h with
 | non =>
  cases rx
  cases h' with
  | non =>
   cases ry
   exact⟨_,by simp,SeqAt.EqAt.same _⟩
  | bl b2 =>
   cases ry
   exact⟨false,by simp,SeqAt.EqAt.none_bool b2⟩
  | int n2 =>
   obtain⟨w2,rfl⟩:=ry
   exact⟨false,by simp,SeqAt.EqAt.none_int n2 w2⟩
  | str z2 =>
   obtain⟨w2,rfl⟩:=ry
   exact⟨false,by simp,SeqAt.EqAt.none_str z2 w2⟩
  | tup q2 p2 =>
   cases ry
   obtain⟨its2,r2,pp2,_⟩:=I.tuple q2
   have I2:=pp2
   exact⟨false,by simp,SeqAt.EqAt.none_tuple I2 hu⟩
  | lst q2 p2 =>
   cases ry
   obtain⟨its2,r2,pp2,_⟩:=I.list q2
   have I2:=pp2.isList
   exact⟨false,by simp,SeqAt.EqAt.none_list I2 hu⟩
 | bl b1 =>
  cases rx
  cases h' with
  | non =>
   cases ry
   exact⟨false,by simp,SeqAt.EqAt.bool_none b1⟩
  | bl b2 =>
   cases ry
   exact⟨_,Qh b1 b2,SeqAt.EqAt.bool_bool b1 b2⟩
  | int n2 =>
   obtain⟨w2,rfl⟩:=ry
   exact⟨_,QQ b1 n2,SeqAt.EqAt.bool_int b1 n2 w2⟩
  | str z2 =>
   obtain⟨w2,rfl⟩:=ry
   exact⟨false,by simp,SeqAt.EqAt.bool_str b1 z2 w2⟩
  | tup q2 p2 =>
   cases ry
   obtain⟨its2,r2,pp2,_⟩:=I.tuple q2
   have I2:=pp2
   exact⟨false,by simp,SeqAt.EqAt.bool_tuple b1 I2 hu⟩
  | lst q2 p2 =>
   cases ry
   obtain⟨its2,r2,pp2,_⟩:=I.list q2
   have I2:=pp2.isList
   exact⟨false,by simp,SeqAt.EqAt.bool_list b1 I2 hu⟩
 | int n1 =>
  obtain⟨w1,rfl⟩:=rx
  cases h' with
  | non =>
   cases ry
   exact⟨false,by simp,SeqAt.EqAt.int_none n1 w1⟩
  | bl b2 =>
   cases ry
   exact⟨_,QP n1 b2,SeqAt.EqAt.int_bool n1 w1 b2⟩
  | int n2 =>
   obtain⟨w2,rfl⟩:=ry
   exact⟨_,tr_eqint_int n1 n2,SeqAt.EqAt.int_int n1 w1 n2 w2⟩
  | str z2 =>
   obtain⟨w2,rfl⟩:=ry
   exact⟨false,by simp,SeqAt.EqAt.int_str n1 w1 z2 w2⟩
  | tup q2 p2 =>
   cases ry
   obtain⟨its2,r2,pp2,_⟩:=I.tuple q2
   have I2:=pp2
   exact⟨false,by simp,SeqAt.EqAt.int_tuple n1 w1 I2 hu⟩
  | lst q2 p2 =>
   cases ry
   obtain⟨its2,r2,pp2,_⟩:=I.list q2
   have I2:=pp2.isList
   exact⟨false,by simp,SeqAt.EqAt.int_list n1 w1 I2 hu⟩
 | str z1 =>
  obtain⟨w1,rfl⟩:=rx
  cases h' with
  | non =>
   cases ry
   exact⟨false,by simp,SeqAt.EqAt.str_none z1 w1⟩
  | bl b2 =>
   cases ry
   exact⟨false,by simp,SeqAt.EqAt.str_bool z1 w1 b2⟩
  | int n2 =>
   obtain⟨w2,rfl⟩:=ry
   exact⟨false,by simp,SeqAt.EqAt.str_int z1 w1 n2 w2⟩
  | str z2 =>
   obtain⟨w2,rfl⟩:=ry
   exact⟨_,tr_eqstr z1 z2,SeqAt.EqAt.str_str z1 w1 z2 w2⟩
  | tup q2 p2 =>
   cases ry
   obtain⟨its2,r2,pp2,_⟩:=I.tuple q2
   have I2:=pp2
   exact⟨false,by simp,SeqAt.EqAt.str_tuple z1 w1 I2 hu⟩
  | lst q2 p2 =>
   cases ry
   obtain⟨its2,r2,pp2,_⟩:=I.list q2
   have I2:=pp2.isList
   exact⟨false,by simp,SeqAt.EqAt.str_list z1 w1 I2 hu⟩
 | tup q1 p1 =>
  cases rx
  cases h' with
  | non =>
   cases ry
   obtain⟨its1,r1,pp1,_⟩:=I.tuple q1
   have I1:=pp1
   exact⟨false,by simp,SeqAt.EqAt.tuple_none I1 hu⟩
  | bl b2 =>
   cases ry
   obtain⟨its1,r1,pp1,_⟩:=I.tuple q1
   have I1:=pp1
   exact⟨false,by simp,SeqAt.EqAt.tuple_bool b2 I1 hu⟩
  | int n2 =>
   obtain⟨w2,rfl⟩:=ry
   obtain⟨its1,r1,pp1,_⟩:=I.tuple q1
   have I1:=pp1
   exact⟨false,by simp,SeqAt.EqAt.tuple_int n2 w2 I1 hu⟩
  | str z2 =>
   obtain⟨w2,rfl⟩:=ry
   obtain⟨its1,r1,pp1,_⟩:=I.tuple q1
   have I1:=pp1
   exact⟨false,by simp,SeqAt.EqAt.tuple_str z2 w2 I1 hu⟩
  | tup q2 p2 =>
   cases ry
   obtain⟨its1,r1,pp1,_⟩:=I.tuple q1
   have I1:=pp1
   obtain⟨its2,r2,pp2,_⟩:=I.tuple q2
   have I2:=pp2
   exact eqat_tup hu I hR hF q1 q2 p1 p2
  | lst q2 p2 =>
   cases ry
   obtain⟨its1,r1,pp1,_⟩:=I.tuple q1
   have I1:=pp1
   obtain⟨its2,r2,pp2,_⟩:=I.list q2
   have I2:=pp2.isList
   exact⟨false,by simp,SeqAt.EqAt.tuple_list I1 I2 hu⟩
 | lst q1 p1 =>
  cases rx
  cases h' with
  | non =>
   cases ry
   obtain⟨its1,r1,pp1,_⟩:=I.list q1
   have I1:=pp1.isList
   exact⟨false,by simp,SeqAt.EqAt.list_none I1 hu⟩
  | bl b2 =>
   cases ry
   obtain⟨its1,r1,pp1,_⟩:=I.list q1
   have I1:=pp1.isList
   exact⟨false,by simp,SeqAt.EqAt.list_bool b2 I1 hu⟩
  | int n2 =>
   obtain⟨w2,rfl⟩:=ry
   obtain⟨its1,r1,pp1,_⟩:=I.list q1
   have I1:=pp1.isList
   exact⟨false,by simp,SeqAt.EqAt.list_int n2 w2 I1 hu⟩
  | str z2 =>
   obtain⟨w2,rfl⟩:=ry
   obtain⟨its1,r1,pp1,_⟩:=I.list q1
   have I1:=pp1.isList
   exact⟨false,by simp,SeqAt.EqAt.list_str z2 w2 I1 hu⟩
  | tup q2 p2 =>
   cases ry
   obtain⟨its1,r1,pp1,_⟩:=I.list q1
   have I1:=pp1.isList
   obtain⟨its2,r2,pp2,_⟩:=I.tuple q2
   have I2:=pp2
   exact⟨false,by simp,SeqAt.EqAt.list_tuple I1 I2 hu⟩
  | lst q2 p2 =>
   cases ry
   obtain⟨its1,r1,pp1,_⟩:=I.list q1
   have I1:=pp1.isList
   obtain⟨its2,r2,pp2,_⟩:=I.list q2
   have I2:=pp2.isList
   exact eqat_lst hu I hR hF q1 q2 p1 p2
end
theorem eqAt_tr(I:Inv X pins σ H s):∀(d:Nat){A:Around}{x y:V}{t t':Tr}{v u:Value},A.units+d<cLine→Is X.K H d x t→Is X.K H d y t'→RelV x v→RelV y u→∃b,(b=true↔t=t')∧SeqAt.EqAt A s v u b
 | 0,_,_,_,_,_,_,_,hu,h,h',rx,ry=>eqAt_isv hu I (fun _ _ _ _ _ _ z _ _ _=>z.elim) (fun _ _ _ z _=>z.elim) h h' rx ry
 | d + 1,A,_,_,_,_,_,_,hu,h,h',rx,ry=>eqAt_isv (show A.units < cLine by omega) I (fun _ _ _ _ _ _ a b ra rb=>eqAt_tr I d (A:=A.in1) (show A.units + 1 + d < cLine by omega) a b ra rb) (fun _ _ _ a b=>is_fn I a b) h h' rx ry
end
section
variable{X:Cx}
def rInTr(K:PySem.W.Frag)(d:Nat):R2:=fun x y H Q=>∃p ys t ts,y=.ref p∧(SqL K H p ys∨SqT K H p ys)∧Is K H d x t∧Paired (Is K H d) ys ts∧∀b,(b=true↔t∈ts)→Q (.bl b) H
theorem items_in{pins:List (Addr×Obj)}{s:Shared}{σ:St}{H:Hp}{A:Around}(I:Inv X pins σ H s){d:Nat}(hu:A.units+d<cLine){x:V}{v:Value}{t:Tr}{ys:List V}{ts:List Tr}{its:List Value}(h:Is X.K H d x t)(rx:RelV x v)(r:Vals ys its)(p:Paired (Is X.K H d) ys ts) :
  ∃e:Value→Bool,(∀y,y∈its→SeqAt.EqAt A s y v (e y))∧(∀(j:Nat)(y:Value),its[j]?=some y→(e y=true↔ts[j]?=some t)):=by
 have l1:ys.length=its.length:=r.length
 have l2:ys.length=ts.length:=Paired.length p
 have ex:∀y,y∈its→∃b,(∀j:Nat,its[j]?=some y→(b=true↔ts[j]?=some t))∧SeqAt.EqAt A s y v b:=by
  intro y hy
  obtain⟨j,hj⟩:=List.mem_iff_getElem?.mp hy
  have one:∀k:Nat,its[k]?=some y→∃z tz,ts[k]?=some tz∧Is X.K H d z tz∧RelV z y:=fun k hk=>by
   have k1:k<its.length:=(List.getElem?_eq_some_iff.mp hk).1
   obtain⟨v1,e1,q1⟩:=r.get (i:=k) (x:=ys[k]) (by simp[show k<ys.length by omega])
   obtain⟨t1,e3,q3⟩:=Paired.get' (i:=k) (x:=ys[k]) p (by simp[show k<ys.length by omega])
   rw[hk]at e1
   cases e1
   exact⟨ys[k],t1,e3,q3,q1⟩
  obtain⟨z,tz,h1,h2,h3⟩:=one j hj
  obtain⟨b,hb,he⟩:=eqAt_tr I d hu h2 h h3 rx
  refine⟨b,fun k hk=>?_,he⟩
  obtain⟨z',tz',h1',h2',h3'⟩:=one k hk
  have ez:tz'=tz:=by
   cases RelV.inj h3 h3'
   exact is_fn I h2' h2
  rw[h1',hb,ez]
  simp
 classical
 refine⟨fun y=>if hy:y∈its then Classical.choose (ex y hy)else false,fun y hy=>?_,fun j y hj=>?_⟩
 ·dsimp only
  rw[dif_pos hy]
  exact(Classical.choose_spec (ex y hy)).2
 ·have hy:y∈its:=List.mem_of_getElem? hj
  dsimp only
  rw[dif_pos hy]
  exact(Classical.choose_spec (ex y hy)).1 j hj
theorem any_in{e:Value→Bool}{its:List Value}{ts:List Tr}{t:Tr}(l:its.length=ts.length)(h:∀(j:Nat)(y:Value),its[j]?=some y→(e y=true↔ts[j]?=some t)):(its.toArray.any e=true)↔t∈ts:=by
 rw[List.any_toArray,List.any_eq_true]
 constructor
 ·rintro ⟨y,hy,ey⟩
  obtain⟨j,hj⟩:=List.mem_iff_getElem?.mp hy
  exact List.mem_of_getElem? ((h j y hj).mp ey)
 ·intro ht
  obtain⟨j,hj⟩:=List.mem_iff_getElem?.mp ht
  have k:j<its.length:=by
   have:=(List.getElem?_eq_some_iff.mp hj).1
   omega
  have hy:its[j]?=some its[j]:=by simp[k]
  exact⟨its[j],List.getElem_mem k,(h j _ hy).mpr hj⟩
theorem op_inTr(d:Nat)(hu:X.A.units+1+d<cLine):OpR X (compareOp .In) (rInTr X.K d):=by
 intro pins s σ H x y v u Q I rx ry h
 obtain⟨p,ys,t,ts,rfl,hq,h1,h2,q⟩:=h
 cases ry
 rcases hq with hq|hq
 ·obtain ⟨its,r,pl,_⟩:=I.list hq
  obtain⟨e,he,hi⟩:=items_in I (A:=X.A.in1) hu h1 rx r h2
  refine SeqAt.in_listAt e pl.isList (fun y hy=>he y (by simpa using hy)) ⟨.bl _,H,I,rfl,q _ ?_⟩
  exact any_in (by rw[← r.length,Paired.length h2]) hi
 ·obtain ⟨its,r,pl,_⟩:=I.tuple hq
  obtain⟨e,he,hi⟩:=items_in I (A:=X.A.in1) hu h1 rx r h2
  refine SeqAt.in_tupleAt e pl (fun y hy=>he y (by simpa using hy)) ⟨.bl _,H,I,rfl,q _ ?_⟩
  exact any_in (by rw[← r.length,Paired.length h2]) hi
end
end L2
namespace L2
open PySem PySem.Calls PySem.Spec PyProof.Rows
theorem keys_vals{prog:Program}{w:World}{kvs:List (Key×V)}{vs:List (Key×Value)}{es:List DictEntry}(r:KV kvs vs)(p:Pairs (JV prog w) es vs):∀{ns:List Int},kvs.map (·.1)=ns.map Sum.inl→Vals (ns.map V.int) (es.map (·.key)):=by
 induction p generalizing kvs with
 | nil =>
  intro ns e
  cases r
  cases ns with
  | nil=>exact .nil
  | cons n t=>simp at e
 | @cons en kv es vs h1 h2 _ ih =>
  intro ns e
  cases r with
  | @cons a b l r' q t =>
   cases ns with
   | nil=>simp at e
   | cons n ns =>
    simp only[List.map_cons,List.cons.injEq]at e
    refine .cons ?_ (ih t e.2)
    have hk:WH (Sum.inl n) en.key=true:=by
     have:kv.1=Sum.inl n:=by rw[← q.1,e.1]
     rw[← this]
     exact h1
    exact rel_key hk
theorem items_key{es:Array DictEntry}{acc:Array Value}(h:ItemsOf (fun i v=>∃e,es[i]?=some e∧v=e.key) acc es.size):acc.toList=es.toList.map (·.key):=by
 refine List.ext_getElem? fun i=>?_
 rw[List.getElem?_map]
 by_cases hi:i<es.size
 ·have ha:i < acc.size:=by rw [h.1]; exact hi
  obtain⟨e,h1,h2⟩:=h.2 i acc[i] (by simp[ha])
  rw[Array.getElem?_toList,Array.getElem?_toList,h1]
  simp[ha,h2]
 ·rw [Array.getElem?_toList,Array.getElem?_toList]
  have ha:¬ i<acc.size:=by rw[h.1];exact hi
  simp[ha,hi]
section
variable{X:Cx}
theorem sorted_from{pins:List (Addr×Obj)}{s:Shared}{σ:St}{H:Hp}{Q:VK}{a:Addr}{ns:List Int}(I:Inv X pins σ H s)(hl:ns.length<64)
  (hcol:∀{R:List Value→Shared→Prop},(∀(h':Heap)(tk:Nat)(its:List Value),(∀b o,s.heap.get? b=some o→h'.get? b=some o)→Vals (ns.map V.int) its→R its { s with heap:=h',toks:=tk })→wpAny (model X.prog X.w) X.A.in1 (collect (.ref a)) R X.xe s)
  (q:∀(D:Addr)(ns':List Int)(H':Hp),Same H H'→H' D=some (.lst (ns'.map V.int))→ns'.Perm ns→ns'.Pairwise (·≤·)→Q (.ref D) H'):wpAny (model X.prog X.w) X.A (call (.builtin "sorted") [.ref a]) (EP X pins σ Q) X.xe s:=by
 have sl:(1000000:Nat)<sizeLine:=by decide
 refine Calls.call_function_entry kind_sorted plain_sorted entry_sorted (args_sorted1 _) ?_
 unfold Builtin.«sorted»
 refine wpAny_bind (m:=checkCount "sorted" 1 1 _) (wpAny_pure ?_)
 refine wpAny_bind (hcol fun h' tk its kp rv=>?_)
 have li:its.length=ns.length:=by rw[← rv.length,List.length_map]
 have hI:IntsAre its ns:=ZX rv
 refine wpAny_bind (wpAny_newList ?_)
 have I0:Inv X pins σ H { s with heap:=h',toks:=tk }:=I.kept kp
 have hoL:(h'.push (seqObj "list" its.toArray 0)).get? h'.objs.size=some (seqObj "list" its.toArray 0):=Heap.get?_push_size _ rfl
 show wpAny _ _ _ _ _ { s with heap:=h'.push (seqObj "list" its.toArray 0),toks:=tk }
 refine wpAny_bind (wpAny_holding (wpAny_call_entry slot_list_sort ⟨_,hoL,rfl⟩ entry_list_sort (list_sort_tree hoL hI (by omega) fun out ns' h1 h2 h3=>⟨_,rfl,?_⟩) (args_list_sort _)))
 refine wpAny_pure ⟨_,rfl,?_⟩
 have hsz:h'.objs.size<(h'.push (seqObj "list" its.toArray 0)).objs.size:=by rw[size_push'];exact Nat.lt_succ_self _
 have old:∀b o,h'.get? b=some o→(sortedHeap (h'.push (seqObj "list" its.toArray 0)) h'.objs.size its out).get? b=some o:=fun b o e=>by
  have hb:=Heap.lt_size e
  rw[sortedHeap_old (Nat.ne_of_lt hb) (Nat.lt_trans hb hsz)]
  exact Heap.get?_push_of_some _ e
 obtain⟨c,hcn⟩:=sortedHeap_at (n:=0) (out:=out) (vs:=its) hoL
 have I1:Inv X pins σ H { s with heap:=sortedHeap (h'.push (seqObj "list" its.toArray 0)) h'.objs.size its out,toks:=tk }:=I0.kept (t':=tk) old
 have fp:FpOk X pins H h'.objs.size:=I0.newFp fun b o e=>Heap.lt_size e
 refine⟨.ref h'.objs.size,_,I1.adopt (o:=.lst (ns'.map V.int)) fp ⟨?_,out.toList,c,ZD h1,by simpa using hcn⟩,rfl,q _ ns' _ (Same.upd fp.1) Jb h2 h3⟩
 rw[List.length_map,h2.length_eq]
 exact Nat.le_of_lt (Jj (by omega))
theorem Up (hc:X.calm=true):Yo X (.builtin "sorted") (fun xs H Q=>∃ (d:Addr) (kvs:List (Key×V)) (ns:List Int),xs=[.ref d]∧H d=some (.dK kvs)∧kvs.map (·.1)=ns.map Sum.inl∧ns.length < 64 ∧
  ∀ (D:Addr) (ns':List Int) (H':Hp),Same H H'→H' D=some (.lst (ns'.map V.int))→ns'.Perm ns→ns'.Pairwise (·≤·)→Q (.ref D) H'):=by
 intro pins s σ H xs us Q I r h
 obtain⟨d,kvs,ns,rfl,hd,hk,hl,q⟩:=h
 obtain⟨u,rfl,ru⟩:=Yu r
 cases ru
 obtain⟨z,y,vs,rv,o,es,ep,e2,ex,ed,kk,p,n⟩:=I.hok d _ hd
 have kv:=keys_vals rv p hk
 have le:es.size=ns.length:=by
  have:=kv.length
  simpa using this.symm
 refine sorted_from I hl (fun {R} f=>?_) q
 refine PySem.W.kdu_collect (raw_src y es ep) (I.ok.hd hc) ⟨o,e2,ex,ed⟩ (by have:=Jj (n:=es.size) (by omega);omega) fun h' tk acc kp hacc=>?_
 exact f h' tk acc.toList kp (by rw[items_key hacc];exact kv)
end
end L2
namespace PySem
open PySem.Spec PyProof.Rows
section
variable{prog:Program}{w:World}{A:Around}{E:Value→Shared→Prop}{s:Shared}
theorem call_set_tupI{l:Addr}{its:Array Value}{ns:List Int}{Q:Value→Shared→Prop}(noH:A.handled=none)(ht:s.heap.IsTuple l its)(hi:IntsAre its.toList ns)(few:its.size+1<scanBound)
  (fin:∀ (h2:Heap) (tk:Nat),h2.SetOf (intKind prog w) s.heap.objs.size (fun k=>(firstMet (fun i=>ns.getD i 0) its.size).any (· == k)) (firstMet (fun i=>ns.getD i 0) its.size).length →
   (∀ b o,s.heap.get? b=some o→h2.get? b=some o)→Q (.ref s.heap.objs.size) { s with heap:=h2,toks:=tk }) :
  wpAny (model prog w) A (call (.type "set") [.ref l]) Q E s:=by
 obtain⟨c,tl,hmro⟩:=F.called_set.mro
 have mk1:=F.called_set.made
 have mk2:=F.called_set.sub
 refine wpAny_call (codeAny_of_tree (show wpAny _ _ (callAny (.type "set") _) _ _ _ from ?_))
 refine wpAny_pure ⟨Code.quiet_builtin _ (by decide +kernel),codeAny_builtin F.entry_type_call ?_⟩
 rw[Around.under_plain (weight_type_call_type "set" [.ref l] []) rfl]
 have mk3:=F.called_set.notType
 have mk4:=F.called_set.canCreate
 have mk5:=F.typeCall_set_1 (.ref l)
 repeat (any_goals (first|assumption|wp_step))
 refine codeAny_mono (code_set_new_1 (.ref l) (E:=E) (Q₁:=fun ob t1=>∃led:Bool,ob=.ref s.heap.objs.size∧t1={ s with heap:=s.heap.push { cls:=.type "set",dict:=none,data:=.set #[] 0 (.fresh 0 0 led) } }) (fun led=>⟨led,rfl,rfl⟩)) (fun r t1 hr=>?_)
 cases r with
 | error e=>exact hr
 | ok fl =>
  cases fl with
  | ret ob =>
   obtain⟨led,rfl,rfl⟩:=hr
   generalize hN:s.heap.push { cls:=.type "set",dict:=none,data:=.set #[] 0 (.fresh 0 0 led) }=N
   have sN:N.objs.size=s.heap.objs.size+1:=by rw[← hN,Heap.size_push]
   have kN:∀b o,s.heap.get? b=some o→N.get? b=some o:=fun b o e=>by rw[← hN];exact Heap.get?_push_of_some _ e
   have gN:N.get? s.heap.objs.size=some { cls:=.type "set",dict:=none,data:=.set #[] 0 (.fresh 0 0 led) }:=by rw[← hN];exact Heap.get?_push_size _ rfl
   have tyN:Shared.TypeIs { s with heap:=N } (.ref s.heap.objs.size) "set":=⟨_,gN,rfl⟩
   have ini1:=F.called_set.init.lookup
   have ini2:=F.called_set.init.bind (.ref s.heap.objs.size)
   repeat (any_goals (first|assumption|wp_step))
   refine codeAny_mono (codeAny_call_builtin (R:=wants (fun r t2=>r=.none∧∃ h2 tk,t2={ s with heap:=h2,toks:=tk } ∧
     h2.SetOf (intKind prog w) s.heap.objs.size (fun k=>(firstMet (fun i=>ns.getD i 0) its.size).any (·==k)) (firstMet (fun i=>ns.getD i 0) its.size).length ∧
     (∀ b o,s.heap.get? b=some o→h2.get? b=some o)) E) F.called_set.init.plain F.entry_set_init (check_set_init_1 tyN ?_)) (fun r2 t2 hr2=>?_)
   ·obtain ⟨⟨ocls,odict,odata,oslots⟩,ot,oc,n,od⟩:=ht
    simp only at oc od
    subst oc od
    have ot':=kN _ _ ot
    have no1:=F.sub_tuple_set
    have no2:=F.sub_tuple_frozenset
    have no3:(Value.type "tuple"==Value.type "dict")=false:=by decide
    have tN:N.IsTuple l its:=⟨_,ot',rfl,n,rfl⟩
    unfold Builtin.«set.__init__» noKeywords Builtin.Frozenset.updateFrom
    generalize hPI:pyIter=PI
    wp_walk
    subst hPI
    refine wpAny_pyIter_tuple tN ?_
    refine wpAny_bind (wpAny_runValue ?_)
    have hl:l<s.heap.objs.size:=Heap.lt_size ot
    have ne1:l≠N.objs.size:=by rw[sN];exact Nat.ne_of_lt (Nat.lt_succ_of_lt hl)
    have ne2:s.heap.objs.size∉[N.objs.size,l]:=by
     simp only[List.mem_cons,List.not_mem_nil,or_false,not_or]
     exact⟨by rw[sN];exact Nat.ne_of_lt (Nat.lt_succ_self _),Nat.ne_of_gt hl⟩
    have vals:∀(i:Nat)(v:Value),its[i]?=some v→∃t,v=.int ((fun i=>ns.getD i 0) i) t:=fun i v e=>IntsAre.int_at hi i v (by rw[Array.getElem?_toList];exact e)
    refine codeAny_set_update_loopS ((Walks.tuple (show A.in1.in1.in1.handled=none by simp[noH]) _ l ne1 its).toS) s.heap.objs.size ne2 (fun i=>ns.getD i 0) vals few (its.size-0) 0 _ (by omega) (Nat.zero_le _)
     ⟨⟨_,Heap.get?_push_size _ rfl,rfl,rfl⟩,(tN.push _)⟩ ?hS0 ?hR
    case hS0=>exact SetOf_congr ((setObjOf_fresh (knd:=intKind prog w) led).setOf (Heap.get?_push_of_some _ gN) (by unfold scanBound;omega)) (fun _=>rfl) rfl
    case hR =>
     intro t3 mv st3
     obtain⟨h3,g3,d3,tk3,os3⟩:=t3
     have e1:g3=s.gens:=mv.gens
     have e2:d3=s.drawn:=mv.drawn
     have e3:os3=s.os:=mv.os
     subst e1 e2 e3
     refine wpAny_pure (show wpAny _ _ (ret Value.none) _ _ _ from wpAny_pure ⟨rfl,h3,tk3,rfl,st3,fun b o e=>?_⟩)
     have hb:=Heap.lt_size e
     refine mv.heap b o ?_ (Heap.get?_push_of_some _ (kN b o e))
     simp only[List.mem_cons,List.not_mem_nil,or_false,not_or]
     exact⟨Nat.ne_of_lt hb,by rw[sN];exact Nat.ne_of_lt (Nat.lt_succ_of_lt hb)⟩
   ·cases r2 with
    | error e=>exact hr2
    | ok fl2 =>
     cases fl2 with
     | ret r =>
      obtain⟨rfl,h2,tk,rfl,st2,kp2⟩:=hr2
      repeat (any_goals (first|assumption|wp_step))
      exact fin _ _ st2 kp2
     | _=>exact hr2.elim
  | _=>exact hr.elim
end
end PySem
namespace L2
open PySem PySem.Calls PySem.Spec PyProof.Rows
def fmL(ns:List Int):List Int:=firstMet (fun i=>ns.getD i 0) ns.length
theorem Qt(ns:List Int):(List.range ns.length).map (fun i=>ns.getD i 0)=ns:=by
 refine List.ext_getElem (by simp) fun i h1 h2=>?_
 rw[List.getElem_map,List.getElem_range,List.getD_eq_getElem?_getD,List.getElem?_eq_getElem h2]
 rfl
theorem fm_len:∀(l acc:List Int),(l.foldl step_dedup acc).length≤acc.length+l.length∧(acc.Nodup→((l.foldl step_dedup acc).length=acc.length+l.length↔(acc++l).Nodup))
 | [],acc=>by simp
 | x::l,acc=>by
  rw[List.foldl_cons]
  obtain⟨h1,h2⟩:=fm_len l (step_dedup acc x)
  have sl:=step_length acc x
  by_cases c:acc.any (·==x)=true
  ·rw [if_pos c] at sl
   have hx:x∈acc:=by simpa using c
   have es:step_dedup acc x=acc:=by unfold step_dedup;rw[if_pos c]
   refine⟨by rw[List.length_cons];omega,fun nd=>?_⟩
   constructor
   ·intro e
    rw[List.length_cons]at e
    omega
   ·intro e
    exact absurd rfl ((List.nodup_append.mp e).2.2 x hx x List.mem_cons_self)
  ·rw [if_neg c] at sl
   have hx:x∉acc:=by simpa using c
   have es:step_dedup acc x=acc++[x]:=by unfold step_dedup;rw[if_neg c]
   refine⟨by rw[List.length_cons];omega,fun nd=>?_⟩
   have nd2:(step_dedup acc x).Nodup:=by
    rw[es]
    refine List.nodup_append.mpr ⟨nd,List.pairwise_singleton _ _,fun a ha b hb e=>?_⟩
    rw[List.mem_singleton]at hb
    subst hb e
    exact hx ha
   have:=h2 nd2
   rw[es,List.append_assoc,List.singleton_append]at this
   rw[List.length_cons,es]
   rw[show acc.length+(l.length+1)=(acc++[x]).length+l.length by rw[List.length_append,List.length_singleton];omega]
   exact this
theorem fmL_eq(ns:List Int):fmL ns=ns.foldl step_dedup []:=by
 unfold fmL firstMet
 rw[Qt]
theorem fmL_len(ns:List Int):(fmL ns).length≤ns.length∧((fmL ns).length=ns.length↔ns.Nodup):=by
 rw[fmL_eq]
 have:=fm_len ns []
 simpa using this
theorem fmL_any(ns:List Int)(k:Int):(fmL ns).any (·==k)=decide (k∈ns):=by
 unfold fmL
 rw[firstMet_any,Qt,Bool.eq_iff_iff]
 simp
section
variable{X:Cx}
theorem call_set_tup(hc:X.calm=true):Yo X (.type "set") (fun xs H Q=>∃(a:Addr)(ns:List Int),xs=[.ref a]∧SqT X.K H a (ns.map V.int)∧ns.length≤1000∧∀p (n:Nat),H p=none→(n=ns.length↔ns.Nodup)→n≤ns.length→Q (.ref p) (upd H p (.set (fun k=>decide (k∈ns)) n))):=by
 intro pins s σ H xs us Q I r h
 obtain⟨a,ns,rfl,hq,hl,q⟩:=h
 obtain⟨u,rfl,ru⟩:=Yu r
 cases ru
 obtain⟨its,rv,pl,hz⟩:=I.tuple hq
 have li:its.length=ns.length:=by rw[← rv.length,List.length_map]
 refine PySem.call_set_tupI (ns:=ns) (I.ok.hd hc) pl (by simpa using ZX rv) (by simp only[List.size_toArray];unfold scanBound;omega) fun h2 tk st kp=>?_
 have I1:Inv X pins σ H { s with heap:=h2,toks:=tk }:=I.kept kp
 have fp:FpOk X pins H s.heap.objs.size:=I.newFp fun b o e=>Heap.lt_size e
 rw[show its.toArray.size=ns.length by simp[li]]at st
 have e:(fun k=>(firstMet (fun i=>ns.getD i 0) ns.length).any (·==k))=fun k=>decide (k∈ns):=funext fun k=>fmL_any ns k
 rw[e]at st
 refine⟨.ref s.heap.objs.size,_,I1.adopt (o:=.set (fun k=>decide (k∈ns)) (fmL ns).length) fp st,rfl,q _ _ fp.1 (fmL_len ns).2 (fmL_len ns).1⟩
theorem call_lenS:Yo X (.builtin "len") (fun xs H Q=>∃(a:Addr)(S:Int→Bool)(n:Nat),xs=[.ref a]∧H a=some (.set S n)∧Q (.int (n:Nat)) H):=by
 intro pins s σ H xs us Q I r h
 obtain⟨a,S,n,rfl,ha,q⟩:=h
 obtain⟨u,rfl,ru⟩:=Yu r
 cases ru
 obtain⟨o,es,ep,t,e1,e2,e3,e4,e5,e6,e7,e8⟩:=(show s.heap.SetOf (intKind X.prog X.w) a S n from I.hok a _ ha)
 refine call_len_set e1 e2 e3 e7 (by unfold scanBound at e6;omega) ⟨.int (n:Nat),H,I.tok _,⟨_,by rw[e8]⟩,q⟩
theorem boot_tset:bootBuiltins "set"=some (.type "set"):=by decide +kernel
end
end L2
namespace L2
open PySem PySem.Calls PySem.Spec PyProof.Rows
section
variable{X:Cx}
theorem call_isiT:Yo X (.builtin "isinstance") (fun xs H Q=>∃a ys T,xs=[.ref a,.ty T]∧SqT X.K H a ys∧T∈["int","bool","tuple","list","str","dict"]∧Q (.bl (kitB "tuple" T)) H):=by
 intro pins s σ H xs us Q I r h
 obtain⟨a,ys,T,rfl,hq,hm,q⟩:=h
 obtain⟨u,v,rfl,ru,rv⟩:=vals2 r
 have rv:v=Value.type T:=rv
 subst rv
 cases ru
 obtain⟨its,_,⟨o,e1,e2,_⟩,_⟩:=I.tuple hq
 exact PySem.W.kia_one PySem.W.kitx_tuple I.kIn ⟨o,e1,e2⟩ (kit_of X.K (t:="tuple") (by simp) hm) (fun z=>nomatch z) fun tk=>⟨.bl _,H,I.tok tk,rfl,q⟩
end
end L2
namespace L2
open PySem PySem.Calls PySem.Spec PyProof.Rows PySem.W
section
variable{X:Cx}{e:Expr}{pos:Pos}{te:TE}
end
end L2
namespace PySem
section
variable{prog:Program}{w:World}{A:Around}{R:Result→Shared→Prop}{I:Addr}{fp wr:List Addr}{G:Array GenState→Array GenState→Prop}{n:Nat}{P:Nat→Value→Prop}{St:Nat→Shared→Prop}
variable{K:Type}[DecidableEq K]{knd:KeyKind prog w K}
end
section
variable{prog:Program}{w:World}{A:Around}{E:Value→Shared→Prop}{s:Shared}
variable{K:Type}[DecidableEq K]{knd:KeyKind prog w K}
end
end PySem
namespace L2
open PySem PySem.Calls PySem.Spec PyProof.Rows PySem.W
section
variable{X:Cx}
end
end L2
namespace PySem
section
variable{prog:Program}{w:World}{A:Around}{R:Result→Shared→Prop}{I:Addr}{fp wr:List Addr}{G:Array GenState→Array GenState→Prop}{n:Nat}{P:Nat→Value→Prop}{St:Nat→Shared→Prop}
variable{K:Type}[DecidableEq K]{knd:KeyKind prog w K}
end
section
variable{prog:Program}{w:World}{A:Around}{E:Value→Shared→Prop}{s:Shared}
variable{K:Type}[DecidableEq K]{knd:KeyKind prog w K}
end
end PySem
namespace L2
open PySem PySem.Calls PySem.Spec PyProof.Rows PySem.W
section
variable{X:Cx}
end
end L2
namespace L2
open PySem PySem.Spec PyProof.Rows
section
variable{X:Cx}{es:List Expr}{kt:Nat}{tp:Pos}
end
section
variable{X:Cx}
end
end L2
namespace L2
open PySem PySem.Calls PySem.Spec PyProof.Rows PySem.W
section
variable{prog:Program}{w:World}{A:Around}{E:Value→Shared→Prop}{s:Shared}
end
end L2
namespace L2
open PySem PySem.Calls PySem.Spec PyProof.Rows PySem.W
section
variable{X:Cx}{pins:List (Addr×Obj)}{σ:St}{H:Hp}{s:Shared}
end
end L2
namespace L2.Hd
open L2 PySem PySem.Calls PySem.Spec PyProof.Rows PySem.W
section
variable{X:Cx}{tg:Expr}
end
section
variable{X:Cx}{N:List Str}{src:List (Option Nat)}{scope:Scope}{cl:List (Str×Addr)}{pins:List (Addr×Obj)}{σ:St}{H:Hp}{s:Shared}
end
end L2.Hd
namespace L2
open PySem PySem.Calls PySem.Spec PyProof.Rows PySem.W
section
variable{prog:Program}{w:World}{A:Around}{y:Addr}{ob:Obj}
end
section
variable{X:Cx}
end
end L2
namespace PySem
open PySem.Spec PyProof.Rows
section
variable{prog:Program}{w:World}{A:Around}{E:Value→Shared→Prop}{s:Shared}{y:Addr}{ob:Obj}
end
end PySem
namespace L2
open PySem PySem.Calls PySem.Spec PyProof.Rows PySem.W
section
variable{X:Cx}
end
section
variable{X:Cx}{k:Nat}{x:Str}{ps:List Str}{sp:Sp}{p pos:Pos}{e:Expr}{es:List Expr}{t:TA}
end
end L2
namespace L2
open PySem
abbrev IsZb(h:Heap)(z TI TO:Addr)(f0:Value)(b:Bool):Prop :=
 h.get? z=some { cls:=.type "zip",dict:=none,data:=.fields #[f0,.bool b,.bool false,.ref TI,.ref TO],slots:=#[] }
theorem UQ{M:Model}{A:Around}{E:Value→Shared→Prop}{s:Shared}{a:Addr}{Q:Option Obj→Shared→Prop}(h:Q (s.heap.get? a) s):wpAny M A (loadIfAlive a) Q E s:=fun Γ p _=>by
 show Sem.wp M Γ (.loadIfAlive a .pure) _ _ p s
 rw[Sem.wp_loadIfAlive]
 exact h
section
variable{prog:Program}{w:World}{z TI TO i1 i2:Addr}{f1 f2:List Addr}{n1 n2:Nat}{P1 P2:Nat→Value→Prop}{S1 S2:Nat→Heap→Prop}
theorem Qx{A:Around}{E:Value→Shared→Prop}{s:Shared}{Q:Bool→Shared→Prop}{f0:Value}{b:Bool}(hz:IsZb s.heap z TI TO f0 b)(hf:f0=.none∨∃a,f0=rawInt a)(q1:Q true s)
  (q2:∀h' f1 b1,IsZb h' z TI TO f1 b1→(∃a,f1=rawInt a)→Heap.SameBut z s.heap h'→Q false { s with heap:=h' }):wpAny (model prog w) A (Builtin.SmallTypes.ownedTupleIsFree (.ref z)) Q E s:=by
 unfold Builtin.SmallTypes.ownedTupleIsFree
 refine wpAny_bind (wpAny_field hz rfl (x:=f0) rfl ?_)
 rcases hf with rfl|⟨a,rfl⟩
 ·exact wpAny_pure q1
 ·show wpAny (model prog w) A (loadIfAlive a.toNat >>= _) Q E s
  refine wpAny_bind (UQ ?_)
  cases e:s.heap.get? a.toNat with
  | none =>
   simp only[Option.isNone_none,if_true]
   exact wpAny_pure q1
  | some o =>
   simp only[Option.isNone_some,Bool.false_eq_true,if_false]
   refine wpAny_bind (wpAny_field hz rfl (x:=.bool b) rfl ?_)
   cases b with
   | true=>exact wpAny_pure (q2 s.heap _ _ hz ⟨a,rfl⟩ (Heap.SameBut.refl _ _))
   | false=>exact wpAny_bind (wpAny_setField_rec hz (by simp) fun g1 z1 e1=>wpAny_pure (q2 g1 _ true z1 ⟨a,rfl⟩ e1))
def ZSb(z TI TO i1 i2:Addr)(S1 S2:Nat→Heap→Prop)(i:Nat)(h:Heap):Prop:=(∃f0 b,IsZb h z TI TO f0 b∧(f0=.none∨∃a,f0=rawInt a))∧IsPair h TI (.ref i1) (.ref i2)∧(∃a b,IsPair h TO a b)∧S1 i h∧S2 i h
theorem zip_itemN{A:Around}{E:Value→Shared→Prop}{s:Shared}{k:Nat}{Q:Value→Shared→Prop}(D:ZAp z TI TO i1 i2 f1 f2)(d1:Draws prog w A i1 f1 n1 P1 S1)(d2:Draws prog w A i2 f2 n2 P2 S2)(l1:k<n1)(l2:k<n2)
  (st:ZSb z TI TO i1 i2 S1 S2 k s.heap)
  (q:∀ x y h' tk,P1 k x→P2 k y→(∃ f0 b,IsZb h' z TI TO f0 b∧(f0=.none∨∃ a,f0=rawInt a))→(∃ a b,IsPair h' TO a b)→IsPair h' TI (.ref i1) (.ref i2)→S1 (k + 1) h'→S2 (k + 1) h'→IsPair h' s.heap.objs.size x y→h'.objs.size=s.heap.objs.size + 1 →
   (∀ c o,c≠z→c≠TO→c≠i1→c≠i2→s.heap.get? c=some o→h'.get? c=some o)→Q (.ref s.heap.objs.size) { s with heap:=h',toks:=tk }) :
  wpAny (model prog w) A (Builtin.«zip.__next__» ⟨[.ref z],[]⟩) (fun fin t=>∃v,fin=.done (.ret v)∧Q v t) E s:=by
 obtain⟨⟨f0,b0,hz,hf⟩,hTI,⟨a,b,hTO⟩,s1,s2⟩:=st
 show wpAny (model prog w) _ (field (.ref z) 2 >>= _) _ _ _
 refine wpAny_bind (wpAny_field hz rfl (x:=.bool false) rfl ?_)
 show wpAny (model prog w) _ (field (.ref z) 3 >>= _) _ _ _
 refine wpAny_bind (wpAny_field hz rfl (x:=.ref TI) rfl ?_)
 refine wpAny_bind (wpAny_seqItems hTI rfl ?_)
 show wpAny (model prog w) _ (Builtin.SmallTypes.ownedTupleIsFree (.ref z) >>= _) _ _ _
 refine wpAny_bind (Qx hz hf ?_ fun h1 f1 b1 hz1 hf1 e0=>?_)
 ·simp only [if_true]
  refine wpAny_bind (wpAny_rule ?_)
  refine wpAny_bind (wpAny_field hz rfl (x:=.ref TO) rfl ?_)
  refine wpAny_bind (wpAny_setField_rec hz (by simp) fun g1 z1 e1=>?_)
  replace z1:IsZb g1 z TI TO .ellipsis b0:=z1
  refine wpAny_bind ?_
  simp only[List.zipIdx_cons,List.zipIdx_nil,List.forIn_cons,List.forIn_nil]
  refine wpAny_bind (wpAny_bind (wpAny_onRaise ?_))
  show wpAny (model prog w) _ (Builtin.SmallTypes.nextOf (.ref i1) >>= _) _ _ _
  have s1a:S1 k g1:=d1.frame _ _ _ s1 fun c hc o e=>e1.extBut _ _ (fun x=>D.b2 (x▸hc)) e
  have s2a:S2 k g1:=d2.frame _ _ _ s2 fun c hc o e=>e1.extBut _ _ (fun x=>D.b3 (x▸hc)) e
  refine wpAny_bind (d1.item k _ _ _ l1 s1a fun x g2 tk2 p1 s1b e2=>wpAny_pure ?_)
  have t2:IsPair g2 TO a b:=e2.extBut _ _ D.a8 (e1.extBut _ _ D.a2 hTO)
  refine wpAny_bind (wpAny_seqItems t2 rfl ?_)
  refine wpAny_bind (wpAny_updateSeq_pair t2 fun g3 t3 e3=>?_)
  replace t3:IsPair g3 TO x b:=t3
  refine wpAny_bind (wpAny_letGo (wpAny_pure ?_))
  refine wpAny_bind (wpAny_bind (wpAny_onRaise ?_))
  show wpAny (model prog w) _ (Builtin.SmallTypes.nextOf (.ref i2) >>= _) _ _ _
  have s2b:S2 k g3:=d2.frame _ _ _ s2a fun c hc o e=>e3.extBut _ _ (fun x=>D.b5 (x▸hc)) (e2.extBut _ _ (fun x=>D.b6 (x▸hc)) e)
  have s1c:S1 (k+1) g3:=d1.frame _ _ _ s1b fun c hc o e=>e3.extBut _ _ (fun x=>D.b4 (x▸hc)) e
  refine wpAny_bind (d2.item k _ _ _ l2 s2b fun y g4 tk4 p2 s2c e4=>wpAny_pure ?_)
  have t4:IsPair g4 TO x b:=e4.extBut _ _ D.a9 t3
  refine wpAny_bind (wpAny_seqItems t4 rfl ?_)
  refine wpAny_bind (wpAny_updateSeq_pair t4 fun g5 t5 e5=>?_)
  replace t5:IsPair g5 TO x y:=t5
  refine wpAny_bind (wpAny_letGo (wpAny_pure (wpAny_pure ?_)))
  refine wpAny_bind (wpAny_seqItems t5 rfl ?_)
  refine wpAny_bind (wpAny_newTuple ?_)
  have sz:g5.objs.size=s.heap.objs.size:=by rw[e5.1,e4.1,e3.1,e2.1,e1.1]
  have z5:IsZb g5 z TI TO .ellipsis b0:=e5.extBut _ _ D.a2.symm (e4.extBut _ _ D.a4.symm (e3.extBut _ _ D.a2.symm (e2.extBut _ _ D.a3.symm z1)))
  have kp:∀c o,c≠z→c≠TO→c≠i1→c≠i2→s.heap.get? c=some o→g5.get? c=some o:=fun c o c1 c2 c3 c4 e =>
   e5.extBut _ _ c2 (e4.extBut _ _ c4 (e3.extBut _ _ c2 (e2.extBut _ _ c3 (e1.extBut _ _ c1 e))))
  have s1d:S1 (k+1) g5:=d1.frame _ _ _ s1c fun c hc o e=>e5.extBut _ _ (fun x=>D.b4 (x▸hc)) (e4.extBut _ _ (fun x=>D.b7 (x▸hc)) e)
  have s2d:S2 (k+1) g5:=d2.frame _ _ _ s2c fun c hc o e=>e5.extBut _ _ (fun x=>D.b5 (x▸hc)) e
  have zlt:z<g5.objs.size:=Heap.lt_size z5
  show wpAny (model prog w) _ (Builtin.SmallTypes.ownedTupleHandOut (.ref z) (.ref g5.objs.size) >>= _) _ _ _
  refine wpAny_bind ?_
  unfold Builtin.SmallTypes.ownedTupleHandOut
  have z6:IsZb (g5.push { cls:=.type "tuple",data:=.seq #[x,y] }) z TI TO .ellipsis b0:=Heap.get?_push_of_some _ z5
  refine wpAny_bind (wpAny_setField_rec z6 (by simp) fun g7 z7 e7=>?_)
  replace z7:IsZb g7 z TI TO (rawInt g5.objs.size) b0:=z7
  refine wpAny_setField_rec z7 (by simp) fun g8 z8 e8=>?_
  replace z8:IsZb g8 z TI TO (rawInt g5.objs.size) false:=z8
  have up:∀c o,c≠z→g5.get? c=some o→g8.get? c=some o:=fun c o c1 e=>e8.extBut _ _ c1 (e7.extBut _ _ c1 (Heap.get?_push_of_some _ e))
  have t8:IsPair g8 g5.objs.size x y:=e8.extBut _ _ (Nat.ne_of_gt zlt) (e7.extBut _ _ (Nat.ne_of_gt zlt) (Heap.get?_push_size _ rfl))
  have sz8:g8.objs.size=g5.objs.size+1:=by rw[e8.1,e7.1,Heap.size_push]
  rw[sz]at z8 t8 sz8
  refine wpAny_pure ⟨_,rfl,?_⟩
  show Q (.ref g5.objs.size) _
  rw[sz]
  exact q x y g8 tk4 p1 p2 ⟨_,_,z8,.inr ⟨_,rfl⟩⟩ ⟨_,_,up _ _ D.a2 t5⟩ (up _ _ D.a1 (kp _ _ D.a1 D.a5 D.a6 D.a7 hTI)) (d1.frame _ _ _ s1d fun c hc o e=>up c o (fun x=>D.b2 (x▸hc)) e) (d2.frame _ _ _ s2d fun c hc o e=>up c o (fun x=>D.b3 (x▸hc)) e) t8 sz8
   fun c o c1 c2 c3 c4 e=>up c o c1 (kp c o c1 c2 c3 c4 e)
 ·simp only [Bool.false_eq_true,if_false]
  have s1a:S1 k h1:=d1.frame _ _ _ s1 fun c hc o e=>e0.extBut _ _ (fun x=>D.b2 (x▸hc)) e
  have s2a:S2 k h1:=d2.frame _ _ _ s2 fun c hc o e=>e0.extBut _ _ (fun x=>D.b3 (x▸hc)) e
  rw[← Array.forIn_toList]
  simp only[List.forIn_cons,List.forIn_nil]
  refine wpAny_bind (wpAny_bind (wpAny_bind (wpAny_holding ?_)))
  show wpAny (model prog w) _ (Builtin.SmallTypes.nextOf (.ref i1) >>= _) _ _ _
  refine wpAny_bind (d1.item k _ _ _ l1 s1a fun x g2 tk2 p1 s1b e2=>wpAny_pure (wpAny_pure ?_))
  dsimp only
  refine wpAny_bind (wpAny_bind (wpAny_holding ?_))
  show wpAny (model prog w) _ (Builtin.SmallTypes.nextOf (.ref i2) >>= _) _ _ _
  have s2b:S2 k g2:=d2.frame _ _ _ s2a fun c hc o e=>e2.extBut _ _ (fun x=>D.b6 (x▸hc)) e
  refine wpAny_bind (d2.item k _ _ _ l2 s2b fun y g4 tk4 p2 s2c e4=>wpAny_pure (wpAny_pure ?_))
  dsimp only
  refine wpAny_pure ?_
  dsimp only
  refine wpAny_bind (wpAny_newTuple (hsz:=by show 2≤sizeLine;decide) ?_)
  have sz:g4.objs.size=s.heap.objs.size:=by rw[e4.1,e2.1,e0.1]
  have z4:IsZb g4 z TI TO f1 b1:=e4.extBut _ _ D.a4.symm (e2.extBut _ _ D.a3.symm hz1)
  have kp:∀c o,c≠z→c≠TO→c≠i1→c≠i2→s.heap.get? c=some o→g4.get? c=some o:=fun c o c1 c2 c3 c4 e=>e4.extBut _ _ c4 (e2.extBut _ _ c3 (e0.extBut _ _ c1 e))
  have up:∀c o,g4.get? c=some o→(g4.push { cls:=.type "tuple",data:=.seq #[x,y] }).get? c=some o:=fun c o e=>Heap.get?_push_of_some _ e
  have s1c:S1 (k+1) g4:=d1.frame _ _ _ s1b fun c hc o e=>e4.extBut _ _ (fun x=>D.b7 (x▸hc)) e
  have tO:IsPair g4 TO a b:=e4.extBut _ _ D.a9 (e2.extBut _ _ D.a8 (e0.extBut _ _ D.a2 hTO))
  refine wpAny_pure ⟨_,rfl,?_⟩
  show Q (.ref g4.objs.size) _
  have t8:IsPair (g4.push { cls:=.type "tuple",data:=.seq #[x,y] }) g4.objs.size x y:=Heap.get?_push_size _ rfl
  have sz8:(g4.push { cls:=.type "tuple",data:=.seq #[x,y] }).objs.size=g4.objs.size+1:=Heap.size_push ..
  rw[sz]at t8 sz8
  rw[sz]
  exact q x y _ tk4 p1 p2 ⟨_,_,up _ _ z4,.inr hf1⟩ ⟨_,_,up _ _ tO⟩ (up _ _ (kp _ _ D.a1 D.a5 D.a6 D.a7 hTI)) (d1.frame _ _ _ s1c fun c hc o e=>up c o e) (d2.frame _ _ _ s2c fun c hc o e=>up c o e) t8 sz8 fun c o c1 c2 c3 c4 e=>up c o (kp c o c1 c2 c3 c4 e)
theorem zip_stopN{A:Around}{E:Value→Shared→Prop}{s:Shared}{k:Nat}{Q:Fin→Shared→Prop}(D:ZAp z TI TO i1 i2 f1 f2)(d1:Draws prog w A i1 f1 n1 P1 S1)(d2:Draws prog w A i2 f2 n2 P2 S2)(hk:k=n1∨(k<n1∧k=n2))
  (st:ZSb z TI TO i1 i2 S1 S2 k s.heap)
  (q:∀h' e tk,(∀c o,c≠z→c≠TO→c≠i1→c≠i2→s.heap.get? c=some o→h'.get? c=some o)→(∃o,h'.get? e=some o∧o.cls=.type "StopIteration")→E (.ref e) { s with heap:=h',toks:=tk }) :
  wpAny (model prog w) A (Builtin.«zip.__next__» ⟨[.ref z],[]⟩) Q E s:=by
 obtain⟨⟨f0,b0,hz,hf⟩,hTI,⟨a,b,hTO⟩,s1,s2⟩:=st
 show wpAny (model prog w) _ (field (.ref z) 2 >>= _) _ _ _
 refine wpAny_bind (wpAny_field hz rfl (x:=.bool false) rfl ?_)
 show wpAny (model prog w) _ (field (.ref z) 3 >>= _) _ _ _
 refine wpAny_bind (wpAny_field hz rfl (x:=.ref TI) rfl ?_)
 refine wpAny_bind (wpAny_seqItems hTI rfl ?_)
 show wpAny (model prog w) _ (Builtin.SmallTypes.ownedTupleIsFree (.ref z) >>= _) _ _ _
 refine wpAny_bind (Qx hz hf ?_ fun h1 f1 b1 hz1 hf1 e0=>?_)
 ·simp only [if_true]
  refine wpAny_bind (wpAny_rule ?_)
  refine wpAny_bind (wpAny_field hz rfl (x:=.ref TO) rfl ?_)
  refine wpAny_bind (wpAny_setField_rec hz (by simp) fun g1 z1 e1=>?_)
  replace z1:IsZb g1 z TI TO .ellipsis b0:=z1
  refine wpAny_bind ?_
  simp only[List.zipIdx_cons,List.zipIdx_nil,List.forIn_cons,List.forIn_nil]
  refine wpAny_bind (wpAny_bind (wpAny_onRaise ?_))
  show wpAny (model prog w) _ (Builtin.SmallTypes.nextOf (.ref i1) >>= _) _ _ _
  have s1a:S1 k g1:=d1.frame _ _ _ s1 fun c hc o e=>e1.extBut _ _ (fun x=>D.b2 (x▸hc)) e
  have s2a:S2 k g1:=d2.frame _ _ _ s2 fun c hc o e=>e1.extBut _ _ (fun x=>D.b3 (x▸hc)) e
  rcases hk with rfl|⟨l1,rfl⟩
  ·refine wpAny_bind (d1.done _ _ _ s1a fun g2 x e2 hx=>?_)
   obtain⟨ox,hox,hcx⟩:=hx
   have z2:IsZb g2 z TI TO .ellipsis b0:=e2 _ _ D.a3.symm z1
   have nz:x≠z:=fun r=>by subst r;rw[z2]at hox;cases hox;simp at hcx
   exact wpAny_setField_rec z2 (by simp) fun g3 _ e3=>q g3 x _ (fun c o c1 _ c3 _ y=>e3.extBut _ _ c1 (e2 _ _ c3 (e1.extBut _ _ c1 y))) ⟨ox,e3.extBut _ _ nz hox,hcx⟩
  ·refine wpAny_bind (d1.item _ _ _ _ l1 s1a fun x g2 tk2 p1 s1b e2=>wpAny_pure ?_)
   have t2:IsPair g2 TO a b:=e2.extBut _ _ D.a8 (e1.extBut _ _ D.a2 hTO)
   refine wpAny_bind (wpAny_seqItems t2 rfl ?_)
   refine wpAny_bind (wpAny_updateSeq_pair t2 fun g3 t3 e3=>?_)
   refine wpAny_bind (wpAny_letGo (wpAny_pure ?_))
   refine wpAny_bind (wpAny_bind (wpAny_onRaise ?_))
   show wpAny (model prog w) _ (Builtin.SmallTypes.nextOf (.ref i2) >>= _) _ _ _
   have s2b:S2 k g3:=d2.frame _ _ _ s2a fun c hc o e=>e3.extBut _ _ (fun x=>D.b5 (x▸hc)) (e2.extBut _ _ (fun x=>D.b6 (x▸hc)) e)
   refine wpAny_bind (d2.done _ _ _ s2b fun g4 y e4 hy=>?_)
   obtain⟨oy,hoy,hcy⟩:=hy
   have z4:IsZb g4 z TI TO .ellipsis b0:=e4 _ _ D.a4.symm (e3.extBut _ _ D.a2.symm (e2.extBut _ _ D.a3.symm z1))
   have nz:y≠z:=fun r=>by subst r;rw[z4]at hoy;cases hoy;simp at hcy
   exact wpAny_setField_rec z4 (by simp) fun g5 _ e5=>q g5 y _ (fun c o c1 c2 c3 c4 r=>e5.extBut _ _ c1 (e4 _ _ c4 (e3.extBut _ _ c2 (e2.extBut _ _ c3 (e1.extBut _ _ c1 r))))) ⟨oy,e5.extBut _ _ nz hoy,hcy⟩
 ·simp only [Bool.false_eq_true,if_false]
  have s1a:S1 k h1:=d1.frame _ _ _ s1 fun c hc o e=>e0.extBut _ _ (fun x=>D.b2 (x▸hc)) e
  have s2a:S2 k h1:=d2.frame _ _ _ s2 fun c hc o e=>e0.extBut _ _ (fun x=>D.b3 (x▸hc)) e
  rw[← Array.forIn_toList]
  simp only[List.forIn_cons,List.forIn_nil]
  refine wpAny_bind (wpAny_bind (wpAny_bind (wpAny_holding ?_)))
  show wpAny (model prog w) _ (Builtin.SmallTypes.nextOf (.ref i1) >>= _) _ _ _
  rcases hk with rfl|⟨l1,rfl⟩
  ·refine wpAny_bind (d1.done _ _ _ s1a fun g2 x e2 hx=>?_)
   exact q g2 x _ (fun c o c1 _ c3 _ y=>e2 _ _ c3 (e0.extBut _ _ c1 y)) hx
  ·refine wpAny_bind (d1.item _ _ _ _ l1 s1a fun x g2 tk2 p1 s1b e2=>wpAny_pure (wpAny_pure ?_))
   dsimp only
   refine wpAny_bind (wpAny_bind (wpAny_holding ?_))
   show wpAny (model prog w) _ (Builtin.SmallTypes.nextOf (.ref i2) >>= _) _ _ _
   have s2b:S2 k g2:=d2.frame _ _ _ s2a fun c hc o e=>e2.extBut _ _ (fun x=>D.b6 (x▸hc)) e
   refine wpAny_bind (d2.done _ _ _ s2b fun g4 y e4 hy=>?_)
   exact q g4 y _ (fun c o c1 c2 c3 c4 r=>e4 _ _ c4 (e2.extBut _ _ c3 (e0.extBut _ _ c1 r))) hy
theorem ZSb.ty{s:Shared}{k:Nat}(st:ZSb z TI TO i1 i2 S1 S2 k s.heap):s.TypeIs (.ref z) "zip":=by
 obtain⟨⟨f0,b0,hz,_⟩,_⟩:=st
 exact⟨_,hz,rfl⟩
theorem zip_pyNextN{A:Around}{E:Value→Shared→Prop}{s:Shared}{k:Nat}{Q:Option Value→Shared→Prop}(D:ZAp z TI TO i1 i2 f1 f2)(d1:Draws prog w A.in1 i1 f1 n1 P1 S1)(d2:Draws prog w A.in1 i2 f2 n2 P2 S2)(l1:k<n1)(l2:k<n2)
  (st:ZSb z TI TO i1 i2 S1 S2 k s.heap)
  (q:∀ x y h' tk,P1 k x→P2 k y→(∃ f0 b,IsZb h' z TI TO f0 b∧(f0=.none∨∃ a,f0=rawInt a))→(∃ a b,IsPair h' TO a b)→IsPair h' TI (.ref i1) (.ref i2)→S1 (k + 1) h'→S2 (k + 1) h'→IsPair h' s.heap.objs.size x y→h'.objs.size=s.heap.objs.size + 1 →
   (∀ c o,c≠z→c≠TO→c≠i1→c≠i2→s.heap.get? c=some o→h'.get? c=some o)→Q (some (.ref s.heap.objs.size)) { s with heap:=h',toks:=tk }) :
  wpAny (model prog w) A (pyNext (.ref z)) Q E s:=by
 have hT:=st.ty
 unfold pyNext
 exact wpAny_bind (wpAny_attempt (wpAny_callSpecial?_slot (name:=Str.ofString "__next__") hT F.slot_zip_next
  (wpAny_call_entry F.slot_zip_next hT F.entry_zip_next
   (zip_itemN D d1 d2 l1 l2 st fun x y h' tk c1 c2 c3 c4 c5 c6 c7 c8 c9 c10=>wpAny_pure (q x y h' tk c1 c2 c3 c4 c5 c6 c7 c8 c9 c10)) (F.args_zip_next_1 _))))
theorem UP{A:Around}{E:Value→Shared→Prop}{s:Shared}{k:Nat}{Q:Option Value→Shared→Prop}(D:ZAp z TI TO i1 i2 f1 f2)(d1:Draws prog w A.in1 i1 f1 n1 P1 S1)(d2:Draws prog w A.in1 i2 f2 n2 P2 S2)
  (hk:k=n1∨(k<n1∧k=n2)) (st:ZSb z TI TO i1 i2 S1 S2 k s.heap)
  (q:∀h' tk,(∀c o,c≠z→c≠TO→c≠i1→c≠i2→s.heap.get? c=some o→h'.get? c=some o)→Q none { s with heap:=h',toks:=tk }):wpAny (model prog w) A (pyNext (.ref z)) Q E s:=by
 have hT:=st.ty
 unfold pyNext
 refine wpAny_bind (wpAny_attempt (wpAny_callSpecial?_slot (name:=Str.ofString "__next__") hT F.slot_zip_next
  (wpAny_call_entry F.slot_zip_next hT F.entry_zip_next (zip_stopN D d1 d2 hk st fun h' e tk kp he=>?_) (F.args_zip_next_1 _))))
 obtain⟨o,ho,hc⟩:=he
 refine wpAny_bind (wpAny_isInstance (T:="StopIteration") (b:=true) ⟨o,ho,hc⟩ isSubtype_stop ?_)
 exact wpAny_pure (q _ _ kp)
end
theorem WV{prog:Program}{w:World}{A:Around}{E:Value→Shared→Prop}{s:Shared}{z TI TO:Addr}{Q:Value→Shared→Prop}(hz:∃f0 b0,IsZb s.heap z TI TO f0 b0∧(f0=.none∨∃a,f0=rawInt a))(h:Q (.ref z) s):wpAny (model prog w) A (pyIter (.ref z)) Q E s:=by
 obtain⟨f0,b0,hz,_⟩:=hz
 have ty:Shared.TypeIs s (.ref z) "zip":=⟨_,hz,rfl⟩
 exact wpAny_pyIter_slot ty F.slot_zip_iter (wpAny_call_entry F.slot_zip_iter ty F.entry_zip_iter (show wpAny _ _ (ret (.ref z)) _ _ s from wpAny_pure ⟨_,rfl,"zip",_,ty,PySem.F.slot_zip_next.lookup,h⟩) (F.args_zip_iter_1 _))
theorem turn_zipN{P:Program}{w:World}{K:PySem.W.Frag}{nm:Str}{tp:Pos}(a b z TI TO i1 i2:Addr)(d1:TI≠z)(d2:TO≠z)(d3:i1≠z)(d4:i2≠z)(d5:TI≠TO)(d6:TI≠i1)(d7:TI≠i2)(d8:TO≠i1)(d9:TO≠i2)(d0:i1≠i2) :
  Turn P w K (.Name nm tp) (Itz a b) [z,TI,TO,i1,i2] z (fun i h=>(∃f0 b0,IsZb h z TI TO f0 b0∧(f0=.none∨∃a,f0=rawInt a))∧IsPair h TI (.ref i1) (.ref i2)∧(∃x y,IsPair h TO x y)∧h.IsTupleIter i1 a i∧h.IsTupleIter i2 b i) where
 mem:=by simp
 obj:=fun i h st c hc=>by
  obtain⟨⟨f0,b0,s1,_⟩,s2,⟨x,y,s3⟩,⟨o4,s4,_,q4⟩,⟨o5,s5,_,q5⟩⟩:=st
  simp only[List.mem_cons,List.not_mem_nil,or_false]at hc
  rcases hc with rfl|rfl|rfl|rfl|rfl
  ·exact ⟨_,s1,fun v=>by intro q; cases q⟩
  ·exact ⟨_,s2,fun v=>by intro q; cases q⟩
  ·exact ⟨_,s3,fun v=>by intro q; cases q⟩
  ·exact ⟨_,s4,fun v=>by intro q; rw [q4] at q; cases q⟩
  ·exact ⟨_,s5,fun v=>by intro q; rw [q5] at q; cases q⟩
 keep:=fun i h h' st kp=>by
  obtain⟨⟨f0,b0,s1,hf0⟩,s2,⟨x,y,s3⟩,⟨o4,s4,r4⟩,⟨o5,s5,r5⟩⟩:=st
  exact⟨⟨f0,b0,kp z (by simp) _ s1,hf0⟩,kp TI (by simp) _ s2,⟨x,y,kp TO (by simp) _ s3⟩,⟨o4,kp i1 (by simp) _ s4,r4⟩,⟨o5,kp i2 (by simp) _ s5,r5⟩⟩
 item:=by
  intro X hP hw hK hc i pins s σ H E I hf st hg
  subst hP hw hK
  obtain⟨xs,ys,ha,hb,l1,l2⟩:=hg
  obtain⟨s1,s2,s3,s4,s5⟩:=st
  have nf:∀{c:Addr}{o:HO},H c=some o→∀e∈[z,TI,TO,i1,i2],c≠e:=fun hcc e he q=>by rw[q,(hf e he).1]at hcc;cases hcc
  obtain⟨its,r1,t1,_⟩:=I.tuple (SqT.of ha)
  obtain⟨its2,r2,t2,_⟩:=I.tuple (SqT.of hb)
  have D:ZAp z TI TO i1 i2 [i1,a] [i2,b]:=by
   refine⟨d1,d2,d3,d4,d5,d6,d7,d8,d9,d0,?_,?_,?_,?_,?_,?_⟩<;>simp only[List.mem_cons,List.not_mem_nil,or_false,not_or]
   ·exact ⟨d3.symm,(nf ha z (by simp)).symm⟩
   ·exact ⟨d4.symm,(nf hb z (by simp)).symm⟩
   ·exact ⟨d8,(nf ha TO (by simp)).symm⟩
   ·exact ⟨d9,(nf hb TO (by simp)).symm⟩
   ·exact ⟨d0,(nf hb i1 (by simp)).symm⟩
   ·exact ⟨d0.symm,(nf ha i2 (by simp)).symm⟩
  have hh:X.A.in1.handled=none:=I.ok.hd hc
  have e1:its.toArray.size=xs.length:=by rw[List.size_toArray,← r1.length]
  have e2:its2.toArray.size=ys.length:=by rw[List.size_toArray,← r2.length]
  refine zip_pyNextN D (Yd hh i1 a (nf ha i1 (by simp)) its.toArray) (Yd hh i2 b (nf hb i2 (by simp)) its2.toArray) (by omega) (by omega) ⟨s1,s2,s3,⟨s4,t1⟩,⟨s5,t2⟩⟩ fun x y g tk p1 p2 z1 z2 z3 z4 z5 z6 z7 kp=>⟨_,rfl,?_⟩
  have p1:its[i]?=some x:=by simpa using p1
  have p2:its2[i]?=some y:=by simpa using p2
  obtain⟨vx,hx⟩:∃v,xs[i]?=some v:=⟨xs[i],by simp[l1]⟩
  obtain⟨vy,hy⟩:∃v,ys[i]?=some v:=⟨ys[i],by simp[l2]⟩
  obtain⟨x',q1,rx⟩:=r1.get hx
  rw[p1]at q1;cases q1
  obtain⟨y',q2,ry⟩:=r2.get hy
  rw[p2]at q2;cases q2
  refine wpAny_pure ?_
  have fr:H s.heap.objs.size=none:=I.hok.fresh (Nat.le_refl _)
  have I1:Inv X pins σ H { s with heap:=g,toks:=tk }:=I.turnedL (l:=[z,TO,i1,i2]) (t':=tk) (fun c o hc e=>by
   simp only[List.mem_cons,List.not_mem_nil,or_false,not_or]at hc
   exact kp c o hc.1 hc.2.1 hc.2.2.1 hc.2.2.2 e) fun c hc=>hf c (by
    simp only[List.mem_cons,List.not_mem_nil,or_false]at hc ⊢
    rcases hc with h | h | h | h <;> simp [h])
  have fp:=I.fpOk (H':=H) (Nat.le_refl _) fr
  have nz:∀e∈[z,TI,TO,i1,i2],e≠s.heap.objs.size:=fun e he q=>by
   obtain⟨o,ho⟩:∃o,s.heap.get? e=some o:=by
    obtain⟨x3,y3,s3⟩:=s3
    obtain⟨o4,s4,_⟩:=s4
    obtain⟨o5,s5,_⟩:=s5
    simp only[List.mem_cons,List.not_mem_nil,or_false]at he
    rcases he with rfl|rfl|rfl|rfl|rfl
    ·obtain ⟨f0,b0,s1,_⟩:=s1
     exact⟨_,s1⟩
    ·exact ⟨_,s2⟩
    ·exact ⟨_,s3⟩
    ·exact ⟨_,s4⟩
    ·exact ⟨_,s5⟩
   exact absurd (Heap.lt_size ho) (by rw[q];exact Nat.lt_irrefl _)
  have at2:g.get? s.heap.objs.size=some { cls:=.type "tuple",data:=.seq #[x,y] }:=z6
  refine ⟨.ref s.heap.objs.size,upd H s.heap.objs.size (.tup [vx,vy]),I1.adopt fp ⟨?_,[x,y],.cons rx (.cons ry .nil),⟨_,at2,rfl,_,rfl⟩⟩,rfl,⟨_,vx,vy,rfl,fr,rfl,fun xs' ys' q1 q2=>?_⟩,
   ⟨z1,z3,z2,z4.1,z5.1⟩,fun c hc=>?_⟩
  ·show 2≤sizeLine
   decide
  ·rw [ha] at q1; cases q1
   rw[hb]at q2;cases q2
   exact⟨hx,hy⟩
  ·rw [Jh (nz c hc)]
   exact(hf c hc).1
 done:=by
  intro X hP hw hK hc i pins s σ H E I hf st hg
  subst hP hw hK
  obtain⟨xs,ys,ha,hb,hl⟩:=hg
  obtain⟨s1,s2,s3,s4,s5⟩:=st
  have nf:∀{c:Addr}{o:HO},H c=some o→∀e∈[z,TI,TO,i1,i2],c≠e:=fun hcc e he q=>by rw[q,(hf e he).1]at hcc;cases hcc
  obtain⟨its,r1,t1,_⟩:=I.tuple (SqT.of ha)
  obtain⟨its2,r2,t2,_⟩:=I.tuple (SqT.of hb)
  have D:ZAp z TI TO i1 i2 [i1,a] [i2,b]:=by
   refine⟨d1,d2,d3,d4,d5,d6,d7,d8,d9,d0,?_,?_,?_,?_,?_,?_⟩<;>simp only[List.mem_cons,List.not_mem_nil,or_false,not_or]
   ·exact ⟨d3.symm,(nf ha z (by simp)).symm⟩
   ·exact ⟨d4.symm,(nf hb z (by simp)).symm⟩
   ·exact ⟨d8,(nf ha TO (by simp)).symm⟩
   ·exact ⟨d9,(nf hb TO (by simp)).symm⟩
   ·exact ⟨d0,(nf hb i1 (by simp)).symm⟩
   ·exact ⟨d0.symm,(nf ha i2 (by simp)).symm⟩
  have hh:X.A.in1.handled=none:=I.ok.hd hc
  have e1:its.toArray.size=xs.length:=by rw[List.size_toArray,← r1.length]
  have e2:its2.toArray.size=ys.length:=by rw[List.size_toArray,← r2.length]
  refine UP D (Yd hh i1 a (nf ha i1 (by simp)) its.toArray) (Yd hh i2 b (nf hb i2 (by simp)) its2.toArray) (by rcases hl with h|⟨h,h2⟩<;>omega) ⟨s1,s2,s3,⟨s4,t1⟩,⟨s5,t2⟩⟩ fun g tk kp=>⟨rfl,?_⟩
  exact I.turnedL (l:=[z,TO,i1,i2]) (t':=tk) (fun c o hc e=>by
   simp only[List.mem_cons,List.not_mem_nil,or_false,not_or]at hc
   exact kp c o hc.1 hc.2.1 hc.2.2.1 hc.2.2.2 e) fun c hc=>hf c (by
    simp only[List.mem_cons,List.not_mem_nil,or_false]at hc ⊢
    rcases hc with h | h | h | h <;> simp [h])
 self:=fun _ _ _ _ _ st h=>WV st.1 h
section
open PySem.Spec PyProof.Rows
variable{X:Cx}{nm:Str}{tp:Pos}
theorem pi_zipN{a b:Expr}{ta:TA}{p pos:Pos}(hg:Gl X "zip")(hm:X.mg "zip"=none)(ha:PA X [a,b] ta)(hs:starEach [a,b] X.env=[(false,eval a X.env),(false,eval b X.env)]:=by rfl)(hs2:starEach [b] X.env=[(false,eval b X.env)]:=by rfl) :
  PI X (.Name nm tp) (.Call (.Name "zip" p) [a,b] [] pos) (iZip ta):=by
 intro pins s σ H R I h
 refine Call_ (ZB I hg hm boot_zip (PyProof.Rows.callWith_type1 (thn (ha pos pins s σ H _ I h) fun us s1 h1=>?_) (by rw[hs,hs2]) (by rw[hs2];rfl)))
 obtain⟨vs,H1,I1,r1,a,b,xs,ys,e,ha,hb,q⟩:=h1
 subst e
 obtain⟨u,v,rfl,ru,rv⟩:=vals2' r1
 cases ru
 cases rv
 obtain⟨its,_,t1,_⟩:=I1.tuple (SqT.of ha)
 obtain⟨its2,_,t2,_⟩:=I1.tuple (SqT.of hb)
 refine WK t1 t2 fun h' z1 z2 z3 z4 z5 kp=>wpAny_pyIter_zip z1 ?_
 have I2:Inv X pins σ H1 { s1 with heap:=h' }:=I1.kept (t':=s1.toks) kp
 have fr:∀k:Nat,H1 (s1.heap.objs.size+k)=none:=fun k=>I1.hok.fresh (Nat.le_add_right _ _)
 refine ⟨s1.heap.objs.size + 4,_,_,Itz a b,H1,rfl,I2,turn_zipN a b (s1.heap.objs.size + 4) (s1.heap.objs.size + 2) (s1.heap.objs.size + 3) s1.heap.objs.size (s1.heap.objs.size + 1)
  (nne _ 2 4 (by decide)) (nne _ 3 4 (by decide)) (nne0 _ 4 (by decide)) (nne _ 1 4 (by decide)) (nne _ 2 3 (by decide)) (nne0 _ 2 (by decide)).symm (nne _ 2 1 (by decide)) (nne0 _ 3 (by decide)).symm (nne _ 3 1 (by decide)) (nne0 _ 1 (by decide)),⟨⟨_,_,z1,.inl rfl⟩,z2,⟨_,_,z3⟩,z4,z5⟩,fun c hc=>?_,q⟩
 simp only[List.mem_cons,List.not_mem_nil,or_false]at hc
 rcases hc with rfl|rfl|rfl|rfl|rfl
 ·exact I1.fpOk (Nat.le_add_right _ _) (fr 4)
 ·exact I1.fpOk (Nat.le_add_right _ _) (fr 2)
 ·exact I1.fpOk (Nat.le_add_right _ _) (fr 3)
 ·exact I1.fpOk (Nat.le_refl _) (fr 0)
 ·exact I1.fpOk (Nat.le_add_right _ _) (fr 1)
end
end L2
namespace L2
open PySem PySem.Spec PyProof.Rows
theorem mnk_args(a k v:Value):argsOk "min" ⟨[a],[(Str.ofString "key",k),(Str.ofString "default",v)]⟩:=by unfold argsOk;kernel_rfl
section
variable{prog:Program}{w:World}{A:Around}{R:Result→Shared→Prop}{it B:Addr}{fp wr:List Addr}{n:Nat}{P:Nat→Value→Prop}{St:Nat→Heap→Prop}{dn:Str}{dv:Value}{kf:Nat→Nat}{Ok:Heap→Prop}
theorem UW:(toString "min"++toString ".loop":String)="min.loop":=by decide
def UI(kf:Nat→Nat)(i j:Nat):Prop:=i≤j∧∀k,k≤j→kf i≤kf k∧(k<i→kf i<kf k)
theorem mnk_on(W:Walks prog w A.in1 it fp wr n P St)(nB:B∉fp)(okk:∀h h':Heap,Ok h→(∀b o,b∉wr→b≠B→h.get? b=some o→h'.get? b=some o)→Ok h')
  (key:∀(j:Nat)(v:Value)(t:Shared)(Q:Value→Shared→Prop)(E:Value→Shared→Prop),P j v→Ok t.heap→(∀tk tk',Q (.int (kf j) tk) { t with toks:=tk' })→wpAny (model prog w) A.in1 (call (.builtin "len") [v]) Q E t) :
  ∀(k j i:Nat)(t:Shared)(best:Value)(tb:Tok)(c:Nat),n=j+1+k→St (j+1) t.heap→Ok t.heap→P i best→UI kf i j→t.heap.get? B=some (bestObj #[best,.int (kf i) tb] c) →
  (∀i v g tk,P i v→UI kf i (n-1)→(∀b o,b∉wr→b≠B→t.heap.get? b=some o→g.get? b=some o)→R (.ok (.ret v)) { t with heap:=g,toks:=tk })→codeAny (model prog w) A (.builtin "min.loop" ⟨[.ref it,.builtin "len",.ref B],[(dn,dv)]⟩) R t:=by
 have nw:B∉wr:=fun z=>nB (W.sub _ z)
 intro k
 induction k with
 | zero =>
  intro j i t best tb c e st ok pb lk hB fin
  refine codeAny_builtin F.entry_min_loop ?_
  rw[Around.under_plainId F.plain_min_loop _]
  show wpAny _ A.in1 (seqItems? (.ref B) >>= _) _ _ t
  refine wpAny_bind (wpAny_seqItems hB rfl ?_)
  show wpAny _ A.in1 (tryCatch (pyNext (.ref it)) _ >>= _) _ _ t
  refine wpAny_bind (wpAny_tryCatch (W.done t _ _ (by rw[e];exact st) fun g tk kp=>?_))
  have hB1:=kp B _ nw hB
  show wpAny _ A.in1 (updateSeq B (fun _=>#[]) >>= _) _ _ _
  refine wpAny_bind (wpAny_updateSeq hB1 rfl (wpAny_bind (wpAny_letGo (wpAny_pure ?_))))
  exact fin i best _ tk pb (by rw[e];exact lk) fun b o b1 b2 q=>(Heap.get?_update_other _ _ (Ne.symm b2)).trans (kp b o b1 q)
 | succ k ih =>
  intro j i t best tb c e st ok pb lk hB fin
  refine codeAny_builtin F.entry_min_loop ?_
  rw[Around.under_plainId F.plain_min_loop _]
  show wpAny _ A.in1 (seqItems? (.ref B) >>= _) _ _ t
  refine wpAny_bind (wpAny_seqItems hB rfl ?_)
  show wpAny _ A.in1 (tryCatch (pyNext (.ref it)) _ >>= _) _ _ t
  refine wpAny_bind (wpAny_tryCatch (W.item (j+1) t _ _ (by omega) st fun v g tk pv st' kp=>?_))
  have hB1:=kp B _ nw hB
  have ok1:Ok g:=okk _ _ ok fun b o b1 _ z=>kp b o b1 z
  show wpAny _ A.in1 (tryCatch (holding [v] (call (.builtin "len") [v])) _ >>= _) _ _ _
  refine wpAny_bind (wpAny_tryCatch (wpAny_holding (key (j+1) v _ _ _ pv ok1 fun t2 tk2=>?_)))
  show wpAny _ A.in1 (tryCatch (holding [v,.int (kf (j+1)) t2] (richCompare .Lt (.int (kf (j+1)) t2) (.int (kf i) tb) >>= _)) _ >>= _) _ _ _
  refine wpAny_bind (wpAny_tryCatch (wpAny_holding (wpAny_bind (CmpOf.ints_lt (prog:=prog) (w:=w) (A:=A.in1) (P:=fun i v=>∃t,v=.int ((kf i:Nat):Int) t) (fun i=>((kf i:Nat):Int)) (fun i v h=>h) (j+1) i _ _ _ _ _ ⟨t2,rfl⟩ ⟨tb,rfl⟩ ?_))))
  refine wpAny_bind (wpAny_holding (wpAny_truthy_bool (wpAny_bind (wpAny_letGo (wpAny_pure ?_)))))
  by_cases hb:((kf (j+1):Nat):Int)<((kf i:Nat):Int)
  ·simp only [hb,decide_true,if_true]
   refine wpAny_bind (wpAny_updateSeq hB1 rfl (wpAny_bind (wpAny_letGo ?_)))
   rw[UW]
   refine wpAny_pure ⟨plainId_quiet F.plain_min_loop _,ih (j+1) (j+1) _ v t2 _ (by omega) (W.frame _ _ _ st' fun b q o z=>?_) (okk _ _ ok1 fun b o b1 b2 z=>(Heap.get?_update_other _ _ (Ne.symm b2)).trans z) pv ⟨Nat.le_refl _,fun q hq=>?_⟩ (Heap.get?_update_self _ hB1 rfl) fun i' u g' tk' pu lu kp'=>?_⟩
   ·exact (Heap.get?_update_other _ _ (fun y:B=b=>nB (by rw [y]; exact q))).trans z
   ·by_cases e2:q=j + 1
    ·subst e2
     exact⟨Nat.le_refl _,fun z=>absurd z (Nat.lt_irrefl _)⟩
    ·have:=(lk.2 q (by omega)).1
     omega
   ·exact fin i' u g' tk' pu lu fun b o b1 b2 z=>kp' b o b1 b2 ((Heap.get?_update_other _ _ (Ne.symm b2)).trans (kp b o b1 z))
  ·simp only [hb,decide_false,Bool.false_eq_true,if_false]
   refine wpAny_bind (wpAny_letGo ?_)
   rw[UW]
   refine wpAny_pure ⟨plainId_quiet F.plain_min_loop _,ih (j+1) i _ best tb c (by omega) st' ok1 pb ⟨by have:=lk.1;omega,fun q hq=>?_⟩ hB1 fun i' u g' tk' pu lu kp'=>?_⟩
   ·by_cases e2:q=j + 1
    ·subst e2
     have:=lk.1
     exact⟨by omega,fun z=>by omega⟩
    ·exact lk.2 q (by omega)
   ·exact fin i' u g' tk' pu lu fun b o b1 b2 z=>kp' b o b1 b2 (kp b o b1 z)
theorem mnk_first(W:Walks prog w A.in1 it fp wr n P St)(nB:B∉fp)(okk:∀h h':Heap,Ok h→(∀b o,b∉wr→b≠B→h.get? b=some o→h'.get? b=some o)→Ok h')
  (key:∀(j:Nat)(v:Value)(t:Shared)(Q:Value→Shared→Prop)(E:Value→Shared→Prop),P j v→Ok t.heap→(∀tk tk',Q (.int (kf j) tk) { t with toks:=tk' })→wpAny (model prog w) A.in1 (call (.builtin "len") [v]) Q E t)
  (hn:0<n) {t:Shared} {c:Nat} (st:St 0 t.heap) (ok:Ok t.heap) (hB:t.heap.get? B=some (bestObj #[] c))
  (fin:∀i v g tk,P i v→UI kf i (n-1)→(∀b o,b∉wr→b≠B→t.heap.get? b=some o→g.get? b=some o)→R (.ok (.ret v)) { t with heap:=g,toks:=tk }):codeAny (model prog w) A (.builtin "min.loop" ⟨[.ref it,.builtin "len",.ref B],[(dn,dv)]⟩) R t:=by
 have nw:B∉wr:=fun z=>nB (W.sub _ z)
 refine codeAny_builtin F.entry_min_loop ?_
 rw[Around.under_plainId F.plain_min_loop _]
 show wpAny _ A.in1 (seqItems? (.ref B) >>= _) _ _ t
 refine wpAny_bind (wpAny_seqItems hB rfl ?_)
 show wpAny _ A.in1 (tryCatch (pyNext (.ref it)) _ >>= _) _ _ t
 refine wpAny_bind (wpAny_tryCatch (W.item 0 t _ _ hn st fun v g tk pv st' kp=>?_))
 have hB1:=kp B _ nw hB
 have ok1:Ok g:=okk _ _ ok fun b o b1 _ z=>kp b o b1 z
 show wpAny _ A.in1 (tryCatch (holding [v] (call (.builtin "len") [v])) _ >>= _) _ _ _
 refine wpAny_bind (wpAny_tryCatch (wpAny_holding (key 0 v _ _ _ pv ok1 fun t2 tk2=>?_)))
 show wpAny _ A.in1 (updateSeq B (fun _=>#[v,.int (kf 0) t2]) >>= _) _ _ _
 refine wpAny_bind (wpAny_updateSeq hB1 rfl ?_)
 rw[UW]
 refine wpAny_pure ⟨plainId_quiet F.plain_min_loop _,mnk_on W nB okk key (n-1) 0 0 _ v t2 _ (by omega) (W.frame _ _ _ st' fun b q o z=>?_) (okk _ _ ok1 fun b o b1 b2 z=>(Heap.get?_update_other _ _ (Ne.symm b2)).trans z) pv ⟨Nat.le_refl _,fun q hq=>?_⟩ (Heap.get?_update_self _ hB1 rfl) fun i' u g' tk' pu lu kp'=>?_⟩
 ·exact (Heap.get?_update_other _ _ (fun y:B=b=>nB (by rw [y]; exact q))).trans z
 ·rw [Nat.le_zero.mp hq]
  exact⟨Nat.le_refl _,fun z=>absurd z (Nat.lt_irrefl _)⟩
 ·exact fin i' u g' tk' pu lu fun b o b1 b2 z=>kp' b o b1 b2 ((Heap.get?_update_other _ _ (Ne.symm b2)).trans (kp b o b1 z))
theorem mnk_none(W:Walks prog w A.in1 it fp wr 0 P St){t:Shared}{c:Nat}(st:St 0 t.heap)(hB:t.heap.get? B=some (bestObj #[] c))
  (fin:∀g tk,(∀b o,b∉wr→t.heap.get? b=some o→g.get? b=some o)→R (.ok (.ret dv)) { t with heap:=g,toks:=tk }):codeAny (model prog w) A (.builtin "min.loop" ⟨[.ref it,.builtin "len",.ref B],[(dn,dv)]⟩) R t:=by
 refine codeAny_builtin F.entry_min_loop ?_
 rw[Around.under_plainId F.plain_min_loop _]
 show wpAny _ A.in1 (seqItems? (.ref B) >>= _) _ _ t
 refine wpAny_bind (wpAny_seqItems hB rfl ?_)
 show wpAny _ A.in1 (tryCatch (pyNext (.ref it)) _ >>= _) _ _ t
 refine wpAny_bind (wpAny_tryCatch (W.done t _ _ st fun g tk kp=>?_))
 refine wpAny_bind (wpAny_rule (wpAny_pure ?_))
 exact fin g tk kp
end
section
variable{X:Cx}
theorem min_keyd(hc:X.calm=true){pins:List (Addr×Obj)}{s:Shared}{σ:St}{H:Hp}{p:Addr}{zs:List V}{L:List (List Int)}{d:V}{dv:Value}{Q:VK}(I:Inv X pins σ H s)(hq:SqL X.K H p zs)(tp:Tpi H zs L)(rd:RelV d dv)
  (q0:L=[]→Q d H) (q:∀i z,zs[i]?=some z→UI (fun j=>(L.getD j []).length) i (L.length-1)→Q z H):wpAny (model X.prog X.w) X.A (call (.builtin "min") [.ref p] [(Str.ofString "key",.builtin "len"),(Str.ofString "default",dv)]) (EP X pins σ Q) X.xe s:=by
 obtain⟨its,rv,pl,hz⟩:=I.list hq
 have pz:=pl.isList
 have lz:zs.length=L.length:=Paired.length tp
 have li:its.length=zs.length:=rv.length.symm
 refine kmk_tree F.kind_min F.plain_min F.entry_min (mnk_args _ _ _) ?_
 show wpAny _ X.A.in1 (Builtin.Builtins.bindParams "min" ["key","default"] 0 ⟨[],[(Str.ofString "key",.builtin "len"),(Str.ofString "default",dv)]⟩ >>= _) _ _ s
 refine wpAny_bind (wpAny_of_eq (show Builtin.Builtins.bindParams "min" ["key","default"] 0 ⟨[],[(Str.ofString "key",.builtin "len"),(Str.ofString "default",dv)]⟩=pure [some (.builtin "len"),some dv]from rfl) ?_)
 refine wpAny_bind (wpAny_pure ?_)
 refine wpAny_bind (wpAny_pyIter_list pz ?_)
 refine wpAny_bind (wpAny_newObj_type ?_)
 rw[UW]
 refine wpAny_pure ⟨plainId_quiet F.plain_min_loop _,?_⟩
 obtain⟨op,hop,_⟩:=id pz
 have plt:p<s.heap.objs.size:=Heap.lt_size hop
 have hlI:p≠s.heap.objs.size:=Nat.ne_of_lt plt
 have Wk:=Walks.list (prog:=X.prog) (w:=X.w) (A:=X.A.in1) (I.ok.hd hc) s.heap.objs.size p hlI its.toArray
 have size:its.toArray.size=L.length:=by rw[List.size_toArray,li,lz]
 have nB:(s.heap.push { cls:=.type "list_iterator",data:=.fields #[.ref p,.int 0 0] }).objs.size∉[s.heap.objs.size,p]:=fun z=>by
  rw[Heap.size_push]at z
  rcases List.mem_cons.mp z with z|z
  ·exact Nat.succ_ne_self _ z
  ·have h:=plt
   rw[← List.mem_singleton.mp z]at h
   exact absurd h (Nat.not_lt.mpr (Nat.le_succ _))
 have keep:∀{g:Heap},(∀b o,b∉[s.heap.objs.size]→b≠(s.heap.push { cls:=.type "list_iterator",data:=.fields #[.ref p,.int 0 0] }).objs.size→((s.heap.push { cls:=.type "list_iterator",data:=.fields #[.ref p,.int 0 0] }).push { cls:=.type "list",data:=.seq #[] }).get? b=some o→g.get? b=some o) →
   ∀b o,s.heap.get? b=some o→g.get? b=some o:=fun k b o q=>by
  have lt:=Heap.lt_size q
  refine k b o (fun z=>?_) (fun z=>?_) (Heap.get?_push_of_some _ (Heap.get?_push_of_some _ q))
  ·rw [List.mem_singleton] at z
   rw[z]at lt
   exact Nat.lt_irrefl _ lt
  ·rw [z,Heap.size_push] at lt
   exact absurd lt (Nat.not_lt.mpr (Nat.le_succ _))
 have st0:((s.heap.push { cls:=.type "list_iterator",data:=.fields #[.ref p,.int 0 0] }).push { cls:=.type "list",data:=.seq #[] }).IsListIter s.heap.objs.size p 0:=⟨_,Heap.get?_push_of_some _ (Heap.get?_push_size _ rfl),rfl,rfl⟩
 have st1:((s.heap.push { cls:=.type "list_iterator",data:=.fields #[.ref p,.int 0 0] }).push { cls:=.type "list",data:=.seq #[] }).IsList p its.toArray:=by
  obtain⟨o,h1,h2⟩:=pz
  exact⟨o,Heap.get?_push_of_some _ (Heap.get?_push_of_some _ h1),h2⟩
 by_cases h0:L=[]
 ·have z0:its.toArray.size=0:=by rw [size,h0]; rfl
  rw[z0]at Wk
  refine mnk_none Wk ⟨st0,st1⟩ (Heap.get?_push_size _ rfl) fun g tk kp=>?_
  exact⟨d,H,I.kept (keep fun b o b1 _ z=>kp b o b1 z),rd,q0 h0⟩
 ·have hn:0 < its.toArray.size:=by
   rw[size]
   exact List.length_pos_iff.mpr h0
  have n63:=QC
  refine mnk_first (kf:=fun j=>(L.getD j []).length) (Ok:=fun h=>∀b o,s.heap.get? b=some o→h.get? b=some o) Wk nB (fun h h' ok kp b o e=>?_) (fun j v t Q E pv ok h=>?_) hn ⟨st0,st1⟩ (fun b o e=>Heap.get?_push_of_some _ (Heap.get?_push_of_some _ e)) (Heap.get?_push_size _ rfl) fun i v g tk pv lk kp=>?_
  ·have lt:=Heap.lt_size e
   refine kp b o (fun z=>?_) (fun z=>?_) (ok b o e)
   ·rw [List.mem_singleton] at z
    rw[z]at lt
    exact Nat.lt_irrefl _ lt
   ·rw [z,Heap.size_push] at lt
    exact absurd lt (Nat.not_lt.mpr (Nat.le_succ _))
  ·have pv:its[j]?=some v:=by simpa using pv
   have jl:j<zs.length:=by
    have:=(List.getElem?_eq_some_iff.mp pv).1
    omega
   obtain⟨u,eu,ru⟩:=Vals.get rv (List.getElem?_eq_getElem jl)
   rw[pv]at eu
   cases eu
   obtain⟨y,ey,r,er,hr⟩:=Paired.get' tp (List.getElem?_eq_getElem jl)
   rw[er]at ru
   cases ru
   obtain⟨ys,ry,py,hz2⟩:=I.tuple (SqT.of (K:=X.K) hr)
   have hlen:=ry.length
   rw[List.length_map]at hlen
   have py':IsTup t.heap r ys.toArray:=by
    obtain⟨o,h1,h2⟩:=py
    exact⟨o,ok _ _ h1,h2⟩
   have el:(L.getD j []).length=y.length:=by rw[List.getD_eq_getElem?_getD,ey];rfl
   have b63:ys.length≤sizeLine:=by first|exact hz2|(rw[← hlen];exact hz2)|(have h9:=hz2;rw[List.length_map]at h9;omega)
   refine len_tuple py' (by simp only[List.size_toArray];omega) ?_
   have:=h (t.toks+1) (t.toks+1+1)
   rw[List.size_toArray,← hlen]
   simp only[el]at this
   exact this
  ·have pv:its[i]?=some v:=by simpa using pv
   have jl:i<zs.length:=by
    have:=(List.getElem?_eq_some_iff.mp pv).1
    omega
   obtain⟨u,eu,ru⟩:=Vals.get rv (List.getElem?_eq_getElem jl)
   rw[pv]at eu
   cases eu
   rw[size]at lk
   exact⟨_,H,I.kept (keep kp),ru,q i _ (List.getElem?_eq_getElem jl) lk⟩
def tMinK(K:PySem.W.Frag)(t tk:TA):TE:=fun σ H Q=>t σ H fun vs H1=>tk σ H1 fun ds H2=>∃(p:Addr)(zs:List V)(L:List (List Int))(d:V),vs=[.ref p]∧ds=[d]∧SqL K H2 p zs∧Tpi H2 zs L∧(L=[]→Q d H2)∧∀i z,zs[i]?=some z→UI (fun j=>(L.getD j []).length) i (L.length-1)→Q z H2
theorem pe_minK{e d:Expr}{t tk:TA}{p p2 pos kpos kpos2:Pos}(hc:X.calm=true)(hg:Gl X "min")(hm:X.mg "min"=none)(hg2:Gl X "len")(hm2:X.mg "len"=none)(ha:PA X [e] t)(hd:PK X [⟨some (Str.ofString "default"),d,kpos2⟩] tk)
  (hks:(backToKw pos (keywordEach [⟨some (Str.ofString "key"),.Name "len" p2,kpos⟩,⟨some (Str.ofString "default"),d,kpos2⟩] X.env)).filterMap (·.1)=[Str.ofString "key",Str.ofString "default"]:=by rfl)
  (h1:backTo pos (starEach [e] X.env)=(false,eval e X.env)::backTo pos (starEach [] X.env):=by rfl) (h2:(backTo pos (starEach [e] X.env)).any (·.1)=false:=by rfl)
  (h3:(backToKw pos (keywordEach [⟨some (Str.ofString "key"),.Name "len" p2,kpos⟩,⟨some (Str.ofString "default"),d,kpos2⟩] X.env)).all (·.1.isSome)=true:=by rfl) (h4:(backToKw pos (keywordEach [⟨some (Str.ofString "key"),.Name "len" p2,kpos⟩,⟨some (Str.ofString "default"),d,kpos2⟩] X.env)).any (·.1.isNone)=false:=by rfl) :
  PE X (.Call (.Name "min" p) [e] [⟨some (Str.ofString "key"),.Name "len" p2,kpos⟩,⟨some (Str.ofString "default"),d,kpos2⟩] pos) (tMinK X.K t tk):=by
 intro pins s σ H Q I h
 refine wpAny_Call_Name_kw (ZB I hg hm UE ?_)
 refine PyProof.Rows.callWith_kw (thn (ha pos pins s σ H _ I h) fun us s1 ⟨vs,H1,I1,r1,q1⟩=>?_) h1 h2 h3 h4
 show wpAny _ _ (evalAll ((do let v ← eval (.Name "len" p2) X.env;standAt pos;pure v)::(backToKw pos (keywordEach [⟨some (Str.ofString "default"),d,kpos2⟩] X.env)).map (·.2))) _ _ s1
 refine wpAny_evalAll_cons (wpAny_bind (ZB I1 hg2 hm2 PySem.boot_len (wpAny_bind (wpAny_standAt (wpAny_pure ?_)))))
 refine thn (hd pos pins s1 σ H1 _ I1 q1) fun ws s2 ⟨ds,H2,I2,r2,pp,zs,L,dd,ev,ed,hq,tp,q0,q⟩=>?_
 subst ed ev
 obtain⟨u,rfl,ru⟩:=Yu r1
 cases ru
 obtain⟨dv,rfl,rd⟩:=Yu r2
 rw[hks]
 exact min_keyd hc I2 hq tp rd q0 q
end
end L2
namespace L2
open PySem PySem.Spec PyProof.Rows
section
variable{X:Cx}
end
end L2
namespace Hk
open PySem L2
def top(i:Nat):Stmt:=PySem.Challenge.pw_holdsets_k38_whole_settled_and_held.main.body.getD i (.Pass ⟨0,0,0,0⟩)
abbrev Ua:Stmt:=top 4
abbrev Ub:Stmt:=top 5
abbrev s_rises:Stmt:=top 6
abbrev WF:Stmt:=top 7
abbrev Wj:Stmt:=top 8
abbrev Wi:Stmt:=top 9
abbrev YR:Stmt:=top 10
abbrev Wd:Stmt:=top 11
abbrev Zy:Stmt:=top 12
abbrev Wh:Stmt:=top 13
abbrev We:Stmt:=top 15
abbrev Zu:Stmt:=top 16
abbrev Zv:Stmt:=top 17
abbrev Wf:Stmt:=top 18
abbrev Wg:Stmt:=top 19
abbrev Yz:Stmt:=top 20
abbrev Ux:Stmt:=top 21
abbrev Zh:Stmt:=top 23
abbrev WN:Stmt:=top 24
abbrev Zi:Stmt:=top 25
abbrev Zl:Stmt:=top 26
abbrev ZO:Stmt:=top 27
abbrev Zg:Stmt:=top 28
abbrev WM:Stmt:=top 29
abbrev YT:Stmt:=top 30
abbrev Zz:Stmt:=top 31
abbrev Zk:Stmt:=top 32
abbrev Zj:Stmt:=top 33
abbrev ZP:Stmt:=top 34
abbrev YS:Stmt:=top 35
abbrev Uw:Stmt:=top 36
abbrev Zw:Stmt:=top 38
abbrev WO:Stmt:=top 39
abbrev ZR:Stmt:=top 40
abbrev WQ:Stmt:=top 41
abbrev ZQ:Stmt:=top 42
abbrev WP:Stmt:=top 43
abbrev Zx:Stmt:=top 44
abbrev Qp:Stmt:=top 45
end Hk
namespace Hk
open PySem L2
section
variable{P:Program}{w:World}{K:PySem.W.Frag}{mg:Str→Option Value}{base:Heap}
def spWhole:Sp:=fun vs H Q _=>∃x T,vs=[x]∧Dat H x T∧Q (.bl (isI x)) H
theorem kn_whole(D:DefAt K mg "whole_good" Ua ["thing"])(fr:Free mg ["isinstance","int","bool"]):Kn P w K mg base 1 "whole_good" ["thing"] spWhole:=by
 refine D.kn (N:=["thing"]) ⟨rfl,rfl,rfl,by decide +kernel,rfl,by decide +kernel,by decide +kernel⟩ (fun vs H Q E h=>?_) (fun f cdv A outer s H vs Q E hr h=>?_)
 ·obtain ⟨x,T,rfl,_⟩:=h
  rfl
 ·obtain ⟨x,T,rfl,d,k⟩:=h
  have m1:=fr "isinstance" (by simp)
  have m2:=fr "int" (by simp)
  have m3:=fr "bool" (by simp)
  refine ⟨_,Je (Jm (Wq (Jr Uq rfl m1 Wy (Ja (pv 0) (Ja (Ug (v:=.ty "int") rfl m2 boot_tint rfl) Jc)))
   (WT (pe_not (Jr Uq rfl m1 Wy (Ja (pv 0) (Ja (Ug (v:=.ty "bool") rfl m3 boot_tbool rfl) Jc))))))),?_⟩
  refine⟨x,rfl,x,"int",T,rfl,d,by simp,_,rfl,ite2 (fun h1=>?_) (fun h1=>?_)⟩
  ·refine ⟨x,rfl,x,"bool",T,rfl,d,by simp,_,rfl,?_⟩
   cases d<;>first|exact k|exact absurd h1 (by decide)
  ·cases d <;> first | exact k | exact absurd (by decide) h1
def spPlace:Sp:=fun vs H Q _=>∃a m y x T,vs=[.ref a,x]∧H a=some (.tup [.int m,y])∧Dat H x T∧Q (.bl (plG m x)) H
theorem kn_place(D:DefAt K mg "place_good" Ub ["web","thing"])(kw:Kn P w K mg base 1 "whole_good" ["thing"] spWhole):Kn P w K mg base 2 "place_good" ["web","thing"] spPlace:=by
 refine D.kn (N:=["web","thing"]) ⟨rfl,rfl,rfl,by decide +kernel,rfl,by decide +kernel,by decide +kernel⟩ (fun vs H Q E h=>?_) (fun f cdv A outer s H vs Q E hr h=>?_)
 ·obtain ⟨a,m,y,x,T,rfl,_⟩:=h
  rfl
 ·obtain ⟨a,m,y,x,T,rfl,ha,d,k⟩:=h
  refine⟨_,Je (Jm (Wq (Jp kw hr (Ja (pv 1) Jc)) (WT (pe_chain op_le op_lt Ji (pv 1) (Jx JA (pv 0) Ji (fun _ _=>rfl)))))),?_⟩
  refine⟨x,rfl,x,T,rfl,d,_,rfl,?_⟩
  cases d with
  | int i =>
   refine iteT ?_
   refine⟨_,rfl,_,_,rfl,rfl,_,rfl,ite2 (fun h1=>?_) (fun h1=>?_)⟩
   ·refine ⟨_,rfl,a,_,_,_,rfl,rfl,SqT.of ha,rfl,_,_,rfl,rfl,?_⟩
    have e:plG m (.int i)=decide (i<m):=by simp[plG,of_decide_eq_true h1]
    rw[e]at k
    exact k
   ·have e:plG m (.int i)=false:=by
     have h1:¬ 0≤i:=by simpa using h1
     simp[plG,h1]
    rw[e]at k
    exact k
  | _=>exact iteF k
def spRises:Sp:=fun vs H Q _=>∃(a:Addr)(ns:List Int),vs=[.ref a]∧H a=some (.tup (ns.map V.int))∧ns.length≤sizeLine∧∀H',Same H H'→Q (.bl (YA ns)) H'
theorem kn_rises(D:DefAt K mg "rises" s_rises ["things"])(fr:Free mg ["all","zip"]):Kn P w K mg base 1 "rises" ["things"] spRises:=by
 refine D.kn (N:=["things"]) ⟨rfl,rfl,rfl,by decide +kernel,rfl,by decide +kernel,by decide +kernel⟩ (fun vs H Q E h=>?_) (fun f cdv A outer s H vs Q E hr h=>?_)
 ·obtain ⟨a,ns,rfl,_⟩:=h
  rfl
 ·obtain ⟨a,ns,rfl,ha,hz,k⟩:=h
  have m1:=fr "all" (by simp)
  have m2:=fr "zip" (by simp)
  have nd:(["ahead","behind"]:List Str).Nodup:=by decide +kernel
  refine ⟨_,Je (Jm (Jr (Yk rfl) rfl m1 YG (Ja (Ye (N:=["ahead","behind"]) (src:=[none,none]) (cl:=[]) rfl ⟨rfl,rfl,rfl,rfl,trivial,rfl,rfl,rfl⟩ (YF (i:=0) (j:=1) rfl rfl)
   (pi_zip rfl m2 (Ja (pv 0) (Ja (Ue sl_tup2 (pv 0) (Ud Ji) po_none) Jc)))
   (fun C s H fp=>⟨YV (n:=2) rfl (Jz (Jk (i:=0) nd rfl (Or.inl rfl)) (Jz (Jk (i:=1) nd rfl (Or.inl rfl)) Yr)),JG,Yf op_lt (pv 0) (pv 1) (Jq _)⟩)) Jc))),?_⟩
  refine⟨_,rfl,_,rfl,_,rfl,a,_,rfl,ha,fun p H1 s1 hp=>?_⟩
  rw[cut1]at hp
  refine⟨a,p,_,_,rfl,s1 _ _ ha,hp,lc_zip0 (xs:=ns.map V.int) (ys:=(ns.drop 1).map V.int) ?_ (fun i zs H'=>Same H1 H'∧zs=((ns.zip (ns.drop 1)).take i).map fun q=>V.bl (decide (q.1<q.2))) ⟨Same.refl _,rfl⟩ ?_ ?_ ?_⟩
  ·rw [List.length_map,List.length_map,List.length_drop]
   omega
  ·rintro i zs H' hi ⟨s2,rfl⟩
   refine⟨s2 _ _ (s1 _ _ ha),s2 _ _ hp,?_⟩
   rw[List.length_map,List.length_take,List.length_zip]
   omega
  ·rintro zs H' ⟨s2,rfl⟩ l hl
   refine⟨l,((ns.zip (ns.drop 1)).map fun q=>decide (q.1<q.2)),rfl,SqL.of ?_,?_⟩
   ·rw [Jb,List.length_map,List.take_of_length_le (by simp),List.map_map]
    rfl
   ·rw [rises_zip]
    exact k _ ((s1.trans s2).trans (Same.upd hl))
  ·rintro i v u zs H' q h1 h2 hi ⟨s2,rfl⟩ hq
   rw[List.getElem?_map]at h1 h2
   obtain⟨x,e1,rfl⟩:=Option.map_eq_some_iff.mp h1
   obtain⟨y,e2,rfl⟩:=Option.map_eq_some_iff.mp h2
   refine⟨q,_,rfl,SqT.of Jb,rfl,_,_,rfl,_,_,rfl,rfl,?_⟩
   refine⟨_,rfl,_,rfl,_,_,rfl,rfl,nx hi ⟨s2.trans (Same.upd hq),?_⟩⟩
   rw[Ju (ns.zip (ns.drop 1)) i (x,y) (by rw[List.getElem?_zip_eq_some];exact⟨e1,e2⟩),List.map_append]
   rfl
def Qj:Sp:=fun vs H Q _=>∃a m y x o,vs=[.ref a,x]∧H a=some (.tup [.int m,y])∧Thing H x o∧∀H',Same H H'→Q (.bl (plsG m o)) H'
theorem kn_places(D:DefAt K mg "places_good" WF ["web","thing"])(fr:Free mg ["isinstance","tuple","all"])(kp:Kn P w K mg base 2 "place_good" ["web","thing"] spPlace)(kr:Kn P w K mg base 1 "rises" ["things"] spRises) :
  Kn P w K mg base 3 "places_good" ["web","thing"] Qj:=by
 refine D.kn (N:=["web","thing"]) ⟨rfl,rfl,rfl,by decide +kernel,rfl,by decide +kernel,by decide +kernel⟩ (fun vs H Q E h=>?_) (fun f cdv A outer s H vs Q E hr h=>?_)
 ·obtain ⟨a,m,y,x,o,rfl,_⟩:=h
  rfl
 ·obtain ⟨a,m,y,x,o,rfl,ha,th,k⟩:=h
  have m1:=fr "isinstance" (by simp)
  have m2:=fr "tuple" (by simp)
  have m3:=fr "all" (by simp)
  have nd:(["place","web"]:List Str).Nodup:=by decide +kernel
  refine ⟨_,Jd (JU (Wo (Yq (Jr Uq rfl m1 Wy (Ja (pv 1) (Ja (Ug (v:=.ty "tuple") rfl m2 JB rfl) Jc))))) (Je (Jm JY)) Jy)
   (Je (Jm (Wq (Jr (Yk rfl) rfl m3 YG (Ja (Ye (N:=["place","web"]) (src:=[none,some 0]) rfl ⟨rfl,rfl,rfl,rfl,⟨⟨rfl,rfl⟩,trivial⟩,rfl,rfl,rfl⟩ (Jw (i:=0) rfl)
    (YC (pv 1)) (fun C s H fp=>⟨Jk (i:=0) nd rfl (Or.inl rfl),JG,Jp kp hr (Ja (pv 1) (Ja (pv 0) Jc))⟩)) Jc))
    (WT (Jp kr (hr.mono (by decide)) (Ja (pv 1) Jc)))))),?_⟩
  cases th with
  | oth d n =>
   refine⟨_,rfl,_,"tuple",_,rfl,d,by simp,_,rfl,?_⟩
   rename_i T
   have e:kitB T "tuple"=false:=by
    unfold kitB
    simp[n]
   rw[e]
   exact iteT (k H (Same.refl H))
  | tup hp ty z =>
   refine⟨_,rfl,_,"tuple",_,rfl,.tup hp,by simp,_,rfl,iteF ?_⟩
   rename_i p ys
   refine⟨_,rfl,p,rfl,⟨ys,SqT.of hp⟩,Uk (xs:=ys) (fun i zs H'=>Same H H'∧zs=(ys.take i).map fun q=>V.bl (plG m q)) ⟨Same.refl _,rfl⟩ ?_ ?_ ?_⟩
   ·rintro i zs H' hi ⟨s2,rfl⟩
    refine⟨SqT.of (s2 _ _ hp),?_⟩
    rw[List.length_map,List.length_take]
    omega
   ·rintro zs H' ⟨s2,rfl⟩ l hl
    refine⟨l,ys.map (plG m),rfl,SqL.of ?_,?_⟩
    ·rw [Jb,List.take_of_length_le (Nat.le_refl _),List.map_map]
     rfl
    ·refine ⟨_,rfl,ite2 (fun h1=>?_) (fun h1=>?_)⟩
     ·have h2:ys.all (plG m)=true:=by simpa using h1
      have e:=Zq h2
      have e2:plsG m (some ys)=YA (Jt ys):=by
       show(ys.all (plG m)&&YA (Jt ys))=_
       rw[h2]
       rfl
      refine⟨_,rfl,p,Jt ys,rfl,?_,?_,fun H3 s3=>?_⟩
      ·rw [Jh (Jg (s2 _ _ hp) hl),s2 _ _ hp,← e]
      ·rw [e,List.length_map] at z
       exact z
      ·rw [← e2]
       exact k _ ((s2.trans (Same.upd hl)).trans s3)
     ·have h2:plsG m (some ys)=false:=by
       show(ys.all (plG m)&&YA (Jt ys))=_
       have:ys.all (plG m)=false:=by simpa using h1
       rw[this]
       rfl
      rw[← h2]
      exact k _ (s2.trans (Same.upd hl))
   ·rintro i x zs H' h1 hi ⟨s2,rfl⟩
    obtain⟨T,d⟩:=ty x (List.mem_of_getElem? h1)
    refine⟨_,rfl,_,rfl,a,m,y,x,T,rfl,s2 _ _ ha,d.mono s2,nx hi ⟨s2,?_⟩⟩
    rw[Ju _ _ _ h1,List.map_append]
    rfl
theorem Wc{n:Nat}(h:n≤100000):n<sizeLine:=Nat.lt_of_le_of_lt h (by decide)
def MK(kvs:List (Key×V))(l:List Int):Prop:=∀n:Int,(valV kvs (Sum.inl n)).isSome=decide (n∈l)
theorem MK.put{kvs:List (Key×V)}{l:List Int}(h:MK kvs l)(k:Int)(v:V):MK (putK kvs (Sum.inl k) v) (l++[k]):=fun n=>by
 rw[YL]
 by_cases e:n=k
 ·subst e
  simp
 ·have e':¬ (Sum.inl n:Key)=Sum.inl k:=fun z=>e (Sum.inl.inj z)
  rw[if_neg e',h n]
  simp[e]
def WY:Sp:=fun vs H Q _=>∃(p:Addr)(ns:List Int),vs=[.ref p]∧H p=some (.tup (ns.map V.int))∧ns.length≤1000∧∀(d:Addr)(kvs:List (Key×V))(H':Hp),Same H H'→H d=none→H' d=some (.dK kvs)→MK kvs ns→kvs.length≤ns.length→Q (.ref d) H'
theorem kn_marked(D:DefAt K mg "marked" We ["places"]):Kn P w K mg base 1 "marked" ["places"] WY:=by
 have sc:FnScope ["places","marks","place"] ["places"] (Jl We):=⟨rfl,rfl,rfl,by decide +kernel,rfl,by decide +kernel,by decide +kernel⟩
 refine D.kn (N:=["places","marks","place"]) sc (fun vs H Q E h=>?_) (fun f cdv A outer s H vs Q E hr h=>?_)
 ·obtain ⟨p,ns,rfl,_⟩:=h
  rfl
 ·obtain ⟨p,ns,rfl,hp,hz,k⟩:=h
  have hu:=YW hr
  refine⟨_,Jd (Jn (i:=1) sc.nd rfl (Or.inl rfl) Uf) (Jd (Yi PassesOwn.never rfl (YC (pv 0)) (Jk (i:=2) sc.nd rfl (Or.inl rfl)) (Je (YH hu (pv 1) (pv 2) JY rfl))) (Je (Jm (pv 1)))),?_⟩
  intro d hd
  have hp1:(upd H d (.dK [])) p=some (.tup (ns.map V.int)):=by rw[Jh (Jg hp hd)];exact hp
  refine ⟨_,rfl,p,rfl,⟨_,SqT.of hp1⟩,Qb (K:=K) (xs:=ns.map V.int) (fun i σ H2=>∃ (kvs:List (Key×V)) (v:Option V),σ=[some (.ref p),some (.ref d),v]∧Same H H2∧H2 d=some (.dK kvs)∧MK kvs (ns.take i)∧kvs.length≤i)
   ⟨[],none,rfl,Same.upd hd,Jb,fun n=>by simp [valV],Nat.le_refl _⟩ (fun i σ H2 _ ⟨_,_,_,s2,_⟩=>SqT.of (s2 _ _ hp)) ?_ ?_⟩
  ·rintro i y σ H2 hi ⟨kvs,v,rfl,s2,hd2,mk,hl⟩
   rw[List.getElem?_map]at hi
   obtain⟨x,e1,rfl⟩:=Option.map_eq_some_iff.mp hi
   have hil:i<ns.length:=(List.getElem?_eq_some_iff.mp e1).1
   refine⟨_,rfl,_,rfl,d,_,rfl,DPut.k (k:=Sum.inl x) hd2 (Jj (by omega)),?_⟩
   refine⟨_,_,rfl,fun b o e=>?_,Jb,?_,Nat.le_trans (JN _ _ _) (Nat.succ_le_succ hl)⟩
   ·rw [Jh (Jg e hd)]
    exact s2 _ _ e
   ·rw [Ju _ _ _ e1]
    exact mk.put x _
  ·rintro σ H2 ⟨kvs,v,rfl,s2,hd2,mk,hl⟩
   rw[List.length_map]at mk hl
   rw[List.take_of_length_le (Nat.le_refl _)]at mk
   exact⟨_,rfl,k d kvs H2 s2 hd hd2 mk hl⟩
def both(ns:List Int)(q:Int×Int):Bool:=decide (q.1∈ns)&&decide (q.2∈ns)
def spTied:Sp:=fun vs H Q _=>∃(a t:Addr)(m:Int)(us:List V)(ars:List (Int×Int))(p:Addr)(ns:List Int),vs=[.ref a,.ref p]∧Web H a t m us ars∧H p=some (.tup (ns.map V.int))∧ns.length≤1000 ∧
 ∀(l:Addr)(ws:List V)(H':Hp),Same H H'→H' l=some (.lst ws)→Ars H' ws (ars.filter (both ns))→Q (.ref l) H'
theorem JS{H:Hp}{us:List V}{ars:List (Int×Int)}(h:Ars H us ars):us.length=ars.length:=Paired.length h
theorem JH{α:Type}(f:α→Bool)(l:List α)(i:Nat)(x:α)(h:l[i]?=some x):(l.take (i+1)).filter f=(l.take i).filter f++(if f x=true then[x] else[]):=by
 rw[Ju _ _ _ h,List.filter_append,List.filter_cons,List.filter_nil]
theorem kn_tied(D:DefAt K mg "tied_arrows" Zu ["web","places"])(km:Kn P w K mg base 1 "marked" ["places"] WY):Kn P w K mg base 2 "tied_arrows" ["web","places"] spTied:=by
 have sc:FnScope ["web","places","inside"] ["web","places"] (Jl Zu):=⟨rfl,rfl,rfl,by decide +kernel,rfl,by decide +kernel,by decide +kernel⟩
 refine D.kn (N:=["web","places","inside"]) sc (fun vs H Q E h=>?_) (fun f cdv A outer s H vs Q E hr h=>?_)
 ·obtain ⟨a,t,m,us,ars,p,ns,rfl,_⟩:=h
  rfl
 ·obtain ⟨a,t,m,us,ars,p,ns,rfl,W,hp,hz,k⟩:=h
  have hu:=YW hr
  have nd:(["arrow","inside"]:List Str).Nodup:=by decide +kernel
  refine ⟨_,Jd (Jn (i:=2) sc.nd rfl (Or.inr rfl) (Jp km hr (Ja (pv 1) Jc)))
   (Je (Jm (Ye (N:=["arrow","inside"]) (src:=[none,some 2]) rfl ⟨rfl,rfl,rfl,rfl,⟨⟨rfl,rfl⟩,trivial⟩,rfl,rfl,rfl⟩ (Jw (i:=0) rfl) (YC (Jx JA (pv 0) Ji (fun _ _=>rfl)))
    (fun C s H fp=>⟨Jk (i:=0) nd rfl (Or.inl rfl),Yb (PW.pt (ZS (YU (Wr hu (Jx (r:=rIxT K) JA (pv 0) Ji (fun _ _=>rfl)) (pv 1))) (YX (YU (Wr hu (Jx (r:=rIxT K) JA (pv 0) Ji (fun _ _=>rfl)) (pv 1)))))),pv 0⟩)))),?_⟩
  refine⟨_,rfl,p,ns,rfl,hp,hz,fun d kvs H1 s1 hd hd1 mk hl=>?_⟩
  have W1:=W.mono s1
  have lu:=JS W.ars
  refine⟨_,rfl,a,_,_,_,rfl,rfl,SqT.of W1.top,rfl,t,rfl,⟨_,SqT.of W1.arr⟩,QF (xs:=us) (fun i zs H'=>Same H1 H'∧Ars H1 zs ((ars.take i).filter (both ns))) ⟨Same.refl _,.nil⟩ ?_ ?_ ?_⟩
  ·rintro i zs H' hi ⟨s2,hz'⟩
   refine⟨SqT.of (s2 _ _ W1.arr),?_⟩
   have:=JS hz'
   have h2:((ars.take i).filter (both ns)).length≤(ars.take i).length:=List.length_filter_le _ _
   rw[List.length_take]at h2
   have h3:=W.len
   exact Nat.le_of_lt (Jj (by omega))
  ·rintro zs H' ⟨s2,hz'⟩ l hl'
   rw[lu,List.take_of_length_le (Nat.le_refl _)]at hz'
   exact k l zs _ ((s1.trans s2).trans (Same.upd hl')) Jb (hz'.mono (s2.trans (Same.upd hl')))
  ·rintro i x zs H' h1 hi ⟨s2,hz'⟩
   obtain⟨q,e1,r,rfl,hr'⟩:=Paired.get' W1.ars h1
   have g1:DGet H' d (.int q.1) (valV kvs (Sum.inl q.1)):=DGet.k (k:=Sum.inl q.1) (s2 _ _ hd1)
   have g2:DGet H' d (.int q.2) (valV kvs (Sum.inl q.2)):=DGet.k (k:=Sum.inl q.2) (s2 _ _ hd1)
   refine⟨_,rfl,r,_,_,_,rfl,rfl,SqT.of (s2 _ _ hr'),rfl,_,rfl,d,_,rfl,g1,_,rfl,?_⟩
   rw[mk q.1]
   have fin:∀b:Bool,both ns q=b→if b=true then ∃m',m'<us.length-i∧Wn us.length (fun i zs H'=>Same H1 H'∧Ars H1 zs ((ars.take i).filter (both ns))) (i+1) m' (zs++[.ref r]) H' else ∃m',m'<us.length-i∧Wn us.length (fun i zs H'=>Same H1 H'∧Ars H1 zs ((ars.take i).filter (both ns))) (i+1) m' zs H':=by
    intro b hb
    cases b with
    | true =>
     refine iteT (nx hi ⟨s2,?_⟩)
     rw[JH _ _ _ _ e1,if_pos hb]
     exact Paired.snoc hz' ⟨r,rfl,hr'⟩
    | false =>
     refine iteF (nx hi ⟨s2,?_⟩)
     rw[JH _ _ _ _ e1,if_neg (by rw[hb];decide),List.append_nil]
     exact hz'
   refine ite2 (fun h2=>?_) (fun h2=>?_)
   ·refine ⟨_,rfl,r,_,_,_,rfl,rfl,SqT.of (s2 _ _ hr'),rfl,_,rfl,d,_,rfl,g2,_,rfl,?_⟩
    rw[mk q.2]
    have:=fin (decide (q.2∈ns)) (by unfold both;rw[h2];rfl)
    refine ite2 (fun h3=>?_) (fun h3=>?_)
    ·rw [if_pos h3] at this
     exact⟨_,rfl,this⟩
    ·rw [if_neg h3] at this
     exact this
   ·have:=fin false (by unfold both; rw [Bool.eq_false_iff.mpr h2]; rfl)
    exact this
def WJ(ars:List (Int×Int))(ns:List Int)(k:Int):Bool:=decide (k∈ns)||ars.any fun q=>decide (q.1=k)&&decide (q.2∈ns)
def Jf(m:Int)(ars:List (Int×Int))(ns:List Int):List Int:=((List.range m.toNat).map fun(k:Nat)=>(k:Int)).filter fun k=>!WJ ars ns k
def HK(kvs:List (Key×V))(ars:List (Int×Int))(ns:List Int):Prop:=∀n:Int,(valV kvs (Sum.inl n)).isSome=WJ ars ns n
def spLost:Sp:=fun vs H Q _=>∃(a t:Addr)(m:Int)(us:List V)(ars:List (Int×Int))(p:Addr)(ns:List Int),vs=[.ref a,.ref p]∧Web H a t m us ars∧H p=some (.tup (ns.map V.int))∧ns.length≤1000 ∧
 ∀(l:Addr)(H':Hp),Same H H'→H' l=some (.lst ((Jf m ars ns).map V.int))→Q (.ref l) H'
theorem QG(ars:List (Int×Int))(ns:List Int)(q:Int×Int)(k:Int):WJ (ars++[q]) ns k=(WJ ars ns k||(decide (q.1=k)&&decide (q.2∈ns))):=by
 unfold WJ
 rw[List.any_append,Bool.or_assoc]
 simp
theorem kn_lost(D:DefAt K mg "lost_places" Zv ["web","places"])(fr:Free mg ["dict","range"])(km:Kn P w K mg base 1 "marked" ["places"] WY):Kn P w K mg base 2 "lost_places" ["web","places"] spLost:=by
 have sc:FnScope ["web","places","inside","held","a","b"] ["web","places"] (Jl Zv):=⟨rfl,rfl,rfl,by decide +kernel,rfl,by decide +kernel,by decide +kernel⟩
 refine D.kn (N:=["web","places","inside","held","a","b"]) sc (fun vs H Q E h=>?_) (fun f cdv A outer s H vs Q E hr h=>?_)
 ·obtain ⟨a,t,m,us,ars,p,ns,rfl,_⟩:=h
  rfl
 ·obtain ⟨a,t,m,us,ars,p,ns,rfl,W,hp,hz,k⟩:=h
  have hu:=YW hr
  have m1:=fr "dict" (by simp)
  have m2:=fr "range" (by simp)
  have nd:(["place","held"]:List Str).Nodup:=by decide +kernel
  refine ⟨_,Jd (Jn (i:=2) sc.nd rfl (Or.inl rfl) (Jp km hr (Ja (pv 1) Jc)))
   (Jd (Jn (i:=3) sc.nd rfl (Or.inr rfl) (JK call_dict_of rfl m1 boot_tdict (Ja (pv 2) Jc)))
   (Jd (Yi PassesOwn.never rfl (YC (Jx JA (pv 0) Ji (fun _ _=>rfl))) (YV (n:=2) rfl (Jz (Jk (i:=4) sc.nd rfl (Or.inl rfl)) (Jz (Jk (i:=5) sc.nd rfl (Or.inl rfl)) Yr)))
    (Je (JU (YU (Wr hu (pv 5) (pv 2))) (Je (YH hu (pv 3) (pv 4) JY rfl)) Jy)))
   (Je (Jm (Ye (N:=["place","held"]) (src:=[none,some 3]) rfl ⟨rfl,rfl,rfl,rfl,⟨⟨rfl,rfl⟩,trivial⟩,rfl,rfl,rfl⟩ (Jw (i:=0) rfl) (JQ rfl m2 (Ja (Jx JA (pv 0) Ji (fun _ _=>rfl)) Jc))
    (fun C s H fp=>⟨Jk (i:=0) nd rfl (Or.inl rfl),Yb (YU (ZG hu (pv 0) (pv 1))),pv 0⟩)))))),?_⟩
  refine⟨_,rfl,p,ns,rfl,hp,hz,fun d kvs H1 s1 hd hd1 mk hl=>?_⟩
  refine⟨_,rfl,d,kvs,rfl,hd1,fun e he=>?_⟩
  have s1':Same H1 (upd H1 e (.dK kvs)):=Same.upd he
  have s0:=s1.trans s1'
  have W1:=W.mono s0
  have lu:=JS W.ars
  have ned:e≠d:=fun z=>by rw[z,hd1]at he;cases he
  refine ⟨_,rfl,a,_,_,_,rfl,rfl,SqT.of W1.top,rfl,t,rfl,⟨_,SqT.of W1.arr⟩,Qb (K:=K) (xs:=us) (fun i σ H2=>∃ (kv2:List (Key×V)) (v1 v2:Option V),σ=[some (.ref a),some (.ref p),some (.ref d),some (.ref e),v1,v2]∧Same H1 H2∧H2 e=some (.dK kv2)∧HK kv2 (ars.take i) ns∧kv2.length≤1000 + i)
   ⟨kvs,none,none,rfl,s1',Jb,fun n=>?_,?_⟩ (fun i σ H2 _ ⟨_,_,_,_,s2,_⟩=>SqT.of (s2 _ _ (s1 _ _ W.arr))) ?_ ?_⟩
  ·rw [mk n]
   unfold WJ
   simp
  ·omega
  ·rintro i y σ H2 hi ⟨kv2,v1,v2,rfl,s2,he2,hk,hl2⟩
   obtain⟨q,e1,r,rfl,hr'⟩:=Paired.get' W1.ars hi
   have hr2:H2 r=some (.tup [.int q.1,.int q.2]):=by
    obtain⟨q',e1',r',er,hr''⟩:=Paired.get' (W.mono s1).ars hi
    cases er
    rw[e1]at e1'
    cases e1'
    exact s2 _ _ hr''
   have hil:i<us.length:=(List.getElem?_eq_some_iff.mp hi).1
   have hlu:=W.len
   refine⟨r,_,rfl,SqT.of hr2,rfl,_,_,rfl,_,_,rfl,rfl,?_⟩
   have g1:DGet H2 d (.int q.2) (valV kvs (Sum.inl q.2)):=DGet.k (k:=Sum.inl q.2) (s2 _ _ hd1)
   refine⟨_,rfl,_,rfl,d,_,rfl,g1,_,rfl,?_⟩
   rw[mk q.2]
   refine ite2 (fun h2=>?_) (fun h2=>?_)
   ·refine ⟨_,rfl,_,rfl,e,_,rfl,DPut.k (k:=Sum.inl q.1) he2 (Wc (by omega)),?_⟩
    refine⟨_,_,_,rfl,fun b o eb=>?_,Jb,fun n=>?_,Nat.le_trans (JN _ _ _) (by omega)⟩
    ·rw [Jh (Jg eb he)]
     exact s2 _ _ eb
    ·rw [YL,Ju _ _ _ e1,QG,h2]
     by_cases en:n=q.1
     ·subst en
      simp
     ·have en':¬ (Sum.inl n:Key)=Sum.inl q.1:=fun z=>en (Sum.inl.inj z)
      rw[if_neg en',hk n]
      simp[Ne.symm en]
   ·refine ⟨kv2,_,_,rfl,s2,he2,fun n=>?_,by omega⟩
    rw[Ju _ _ _ e1,QG,Bool.eq_false_iff.mpr h2,hk n]
    simp
  ·rintro σ H2 ⟨kv2,v1,v2,rfl,s2,he2,hk,hl2⟩
   rw[lu,List.take_of_length_le (Nat.le_refl _)]at hk
   have hm:=W.mb
   refine⟨_,rfl,a,_,_,_,rfl,rfl,SqT.of (s2 _ _ (s1 _ _ W.top)),rfl,m,rfl,by omega,by omega,Wt (fun i zs H'=>Same H2 H'∧zs=((((List.range m.toNat).map fun(k:Nat)=>(k:Int)).take i).filter fun k=>!WJ ars ns k).map V.int) ⟨Same.refl _,rfl⟩ ?_ ?_ ?_⟩
   ·rintro i zs H' hi ⟨s3,rfl⟩
    have h2:=List.length_filter_le (fun k=>!WJ ars ns k) (((List.range m.toNat).map fun(k:Nat)=>(k:Int)).take i)
    rw[List.length_take,List.length_map,List.length_range]at h2
    rw[List.length_map]
    exact Nat.le_of_lt (Jj (by omega))
   ·rintro zs H' ⟨s3,rfl⟩ l hl'
    rw[List.take_of_length_le (by simp)]
    exact k l _ (((s1.trans s2).trans s3).trans (Same.upd hl')) Jb
   ·rintro i zs H' hi ⟨s3,rfl⟩
    have e1:((List.range m.toNat).map fun(k:Nat)=>(k:Int))[i]?=some (0+(i:Int)):=by simp[hi]
    have g1:DGet H' e (.int (0+(i:Int))) (valV kv2 (Sum.inl (0+(i:Int)))):=DGet.k (k:=Sum.inl (0+(i:Int))) (s3 _ _ he2)
    refine⟨_,rfl,_,rfl,e,_,rfl,g1,_,rfl,?_⟩
    rw[hk]
    refine ite2 (fun h2=>?_) (fun h2=>?_)
    ·refine ⟨_,rfl,nx hi ⟨s3,?_⟩⟩
     rw[JH _ _ _ _ e1,if_pos h2,List.map_append]
     rfl
    ·refine nx hi ⟨s3,?_⟩
     rw[JH _ _ _ _ e1,if_neg h2,List.append_nil]
def hgM(m:Int)(ars:List (Int×Int))(o:Option (List V)):Bool:=plsG m o&&match o with
 | none=>false
 | some ys=>(ars.filter (both (Jt ys))).isEmpty && (Jf m ars (Jt ys)).isEmpty
def spHold:Sp:=fun vs H Q _=>∃(a t:Addr)(m:Int)(us:List V)(ars:List (Int×Int))(x:V)(o:Option (List V)),vs=[.ref a,x]∧Web H a t m us ars∧Thing H x o∧(∀ys,o=some ys→ys.length≤1000)∧∀H',Same H H'→Q (.bl (hgM m ars o)) H'
theorem kn_hold(D:DefAt K mg "hold_good" Wf ["web","thing"])(kp:Kn P w K mg base 3 "places_good" ["web","thing"] Qj)(kt:Kn P w K mg base 2 "tied_arrows" ["web","places"] spTied)(kl:Kn P w K mg base 2 "lost_places" ["web","places"] spLost) :
  Kn P w K mg base 4 "hold_good" ["web","thing"] spHold:=by
 have sc:FnScope ["web","thing"] ["web","thing"] (Jl Wf):=⟨rfl,rfl,rfl,by decide +kernel,rfl,by decide +kernel,by decide +kernel⟩
 refine D.kn (N:=["web","thing"]) sc (fun vs H Q E h=>?_) (fun f cdv A outer s H vs Q E hr h=>?_)
 ·obtain ⟨a,t,m,us,ars,x,o,rfl,_⟩:=h
  rfl
 ·obtain ⟨a,t,m,us,ars,x,o,rfl,W,th,hz,k⟩:=h
  have hu:_<cLine:=hr.units0
  refine ⟨_,Je (Jm (Wq (Jp kp hr (Ja (pv 0) (Ja (pv 1) Jc))) (Wq (Yf (Qy hu) (Jp kt (hr.mono (by decide)) (Ja (pv 0) (Ja (pv 1) Jc))) (JZ Jc) (Jq _))
   (WT (Yf (Qy hu) (Jp kl (hr.mono (by decide)) (Ja (pv 0) (Ja (pv 1) Jc))) (JZ Jc) (Jq _)))))),?_⟩
  refine⟨_,rfl,_,rfl,a,m,_,x,o,rfl,W.top,th,fun H1 s1=>⟨_,rfl,ite2 (fun h1=>?_) (fun h1=>?_)⟩⟩
  ·cases th with
   | oth d n=>exact absurd h1 (by simp [plsG])
   | tup hp ty z =>
    rename_i p ys
    have h1':(ys.all (plG m)&&YA (Jt ys))=true:=h1
    rw[Bool.and_eq_true]at h1'
    have e:=Zq h1'.1
    have hz1:=hz ys rfl
    have hzz:(Jt ys).length≤1000:=by
     rw[e,List.length_map]at hz1
     exact hz1
    rw[e]at hp
    have hg:hgM m ars (some ys)=((ars.filter (both (Jt ys))).isEmpty&&(Jf m ars (Jt ys)).isEmpty):=by
     unfold hgM
     rw[h1]
     rfl
    refine⟨_,rfl,_,rfl,a,t,m,us,ars,p,Jt ys,rfl,W.mono s1,s1 _ _ hp,hzz,fun l ws H2 s2 hl ha=>?_⟩
    refine⟨Nat.zero_le _,fun l0 hl0=>?_⟩
    have n0:l≠l0:=Jg hl hl0
    have ew:ws.isEmpty=(ars.filter (both (Jt ys))).isEmpty:=by
     have:=JS ha
     cases ws with
     | nil=>cases q:ars.filter (both (Jt ys)) with
      | nil=>rfl
      | cons _ _=>rw [q] at this; cases this
     | cons _ _=>cases q:ars.filter (both (Jt ys)) with
      | nil=>rw [q] at this; cases this
      | cons _ _=>rfl
    refine⟨l,l0,ws,rfl,rfl,SqL.of (by rw[Jh n0];exact hl),SqL.of Jb,_,rfl,?_⟩
    rw[ew]
    have s3:=(s1.trans s2).trans (Same.upd (o:=HO.lst []) hl0)
    refine ite2 (fun h2=>?_) (fun h2=>?_)
    ·refine ⟨_,rfl,_,rfl,a,t,m,us,ars,p,Jt ys,rfl,W.mono s3,s3 _ _ hp,hzz,fun l' H3 s4 hl'=>?_⟩
     refine⟨Nat.zero_le _,fun l1 hl1=>?_⟩
     have n1:l'≠l1:=Jg hl' hl1
     refine⟨l',l1,_,rfl,rfl,SqL.of (by rw[Jh n1];exact hl'),SqL.of Jb,?_⟩
     have e3:hgM m ars (some ys)=((Jf m ars (Jt ys)).map V.int).isEmpty:=by
      rw[hg,h2]
      simp
     rw[← e3]
     exact k _ ((s3.trans s4).trans (Same.upd hl1))
    ·have e3:hgM m ars (some ys)=false:=by
      rw[hg,Bool.eq_false_iff.mpr h2]
      rfl
     rw[← e3]
     exact k _ s3
  ·have e3:hgM m ars o=false:=by
    unfold hgM
    rw[Bool.eq_false_iff.mpr h1]
    rfl
   rw[← e3]
   exact k _ s1
def Uu:Sp:=fun vs H Q _=>∃(p:Addr)(ns:List Int),vs=[.ref p]∧H p=some (.lst (ns.map V.int))∧ns.length≤1000∧∀(d:Addr)(kvs:List (Key×V))(H':Hp),Same H H'→H d=none→H' d=some (.dK kvs)→MK kvs ns→Q (.ref d) H'
theorem kn_markedL(D:DefAt K mg "marked" We ["places"]):Kn P w K mg base 1 "marked" ["places"] Uu:=by
 have sc:FnScope ["places","marks","place"] ["places"] (Jl We):=⟨rfl,rfl,rfl,by decide +kernel,rfl,by decide +kernel,by decide +kernel⟩
 refine D.kn (N:=["places","marks","place"]) sc (fun vs H Q E h=>?_) (fun f cdv A outer s H vs Q E hr h=>?_)
 ·obtain ⟨p,ns,rfl,_⟩:=h
  rfl
 ·obtain ⟨p,ns,rfl,hp,hz,k⟩:=h
  have hu:=YW hr
  refine⟨_,Jd (Jn (i:=1) sc.nd rfl (Or.inl rfl) Uf) (Jd (Yi PassesOwn.never rfl (JR (pv 0)) (Jk (i:=2) sc.nd rfl (Or.inl rfl)) (Je (YH hu (pv 1) (pv 2) JY rfl))) (Je (Jm (pv 1)))),?_⟩
  intro d hd
  have hp1:(upd H d (.dK [])) p=some (.lst (ns.map V.int)):=by rw[Jh (Jg hp hd)];exact hp
  refine ⟨_,rfl,p,rfl,⟨_,SqL.of hp1⟩,YO (K:=K) (xs:=ns.map V.int) (fun i σ H2=>∃ (kvs:List (Key×V)) (v:Option V),σ=[some (.ref p),some (.ref d),v]∧Same H H2∧H2 d=some (.dK kvs)∧MK kvs (ns.take i)∧kvs.length≤i)
   ⟨[],none,rfl,Same.upd hd,Jb,fun n=>by simp [valV],Nat.le_refl _⟩ (fun i σ H2 _ ⟨_,_,_,s2,_⟩=>SqL.of (s2 _ _ hp)) ?_ ?_⟩
  ·rintro i y σ H2 hi ⟨kvs,v,rfl,s2,hd2,mk,hl⟩
   rw[List.getElem?_map]at hi
   obtain⟨x,e1,rfl⟩:=Option.map_eq_some_iff.mp hi
   have hil:i<ns.length:=(List.getElem?_eq_some_iff.mp e1).1
   refine⟨_,rfl,_,rfl,d,_,rfl,DPut.k (k:=Sum.inl x) hd2 (Jj (by omega)),?_⟩
   refine⟨_,_,rfl,fun b o e=>?_,Jb,?_,Nat.le_trans (JN _ _ _) (Nat.succ_le_succ hl)⟩
   ·rw [Jh (Jg e hd)]
    exact s2 _ _ e
   ·rw [Ju _ _ _ e1]
    exact mk.put x _
  ·rintro σ H2 ⟨kvs,v,rfl,s2,hd2,mk,hl⟩
   rw[List.length_map]at mk hl
   rw[List.take_of_length_le (Nat.le_refl _)]at mk
   exact⟨_,rfl,k d kvs H2 s2 hd hd2 mk⟩
def outB(m:Int)(ars:List (Int×Int))(ns:List Int):Bool:=ars.any fun q=>decide (q.1∈ns)&&decide (q.2∈Jf m ars ns)
def hfM(m:Int)(ars:List (Int×Int))(o:Option (List V)):Bool:=plsG m o&&match o with
 | none=>false
 | some ys=>(ars.filter (both (Jt ys))).isEmpty && !outB m ars (Jt ys)
def spHalf:Sp:=fun vs H Q _=>∃(a t:Addr)(m:Int)(us:List V)(ars:List (Int×Int))(x:V)(o:Option (List V)),vs=[.ref a,x]∧Web H a t m us ars∧Thing H x o∧(∀ys,o=some ys→ys.length≤1000)∧∀H',Same H H'→Q (.bl (hfM m ars o)) H'
theorem lostL_len(m:Int)(ars:List (Int×Int))(ns:List Int):(Jf m ars ns).length≤m.toNat:=by
 unfold Jf
 refine Nat.le_trans (List.length_filter_le _ _) ?_
 simp
theorem kn_half(D:DefAt K mg "half_good" Wg ["web","thing"])(fr:Free mg ["any"])(kp:Kn P w K mg base 3 "places_good" ["web","thing"] Qj)(kt:Kn P w K mg base 2 "tied_arrows" ["web","places"] spTied)(kl:Kn P w K mg base 2 "lost_places" ["web","places"] spLost)
  (km:Kn P w K mg base 1 "marked" ["places"] WY) (kml:Kn P w K mg base 1 "marked" ["places"] Uu) :
  Kn P w K mg base 4 "half_good" ["web","thing"] spHalf:=by
 have sc:FnScope ["web","thing","inside","lost"] ["web","thing"] (Jl Wg):=⟨rfl,rfl,rfl,by decide +kernel,rfl,by decide +kernel,by decide +kernel⟩
 refine D.kn (N:=["web","thing","inside","lost"]) sc (fun vs H Q E h=>?_) (fun f cdv A outer s H vs Q E hr h=>?_)
 ·obtain ⟨a,t,m,us,ars,x,o,rfl,_⟩:=h
  rfl
 ·obtain ⟨a,t,m,us,ars,x,o,rfl,W,th,hz,k⟩:=h
  have hu1:=YW hr
  have hu:_<cLine:=hr.units0
  have m1:=fr "any" (by simp)
  have r1:=hr.mono (j:=1) (by decide)
  have r2:=hr.mono (j:=2) (by decide)
  have nd:(["a","b","inside","lost"]:List Str).Nodup:=by decide +kernel
  refine ⟨_,Jd (JU (PW.pt (Qu (Wo (Yq (Jp kp hr (Ja (pv 0) (Ja (pv 1) Jc))))) (WS (Js (Ui hu) (Jp kt r2 (Ja (pv 0) (Ja (pv 1) Jc))) (JZ Jc) (Jq _))))) (Je (Jm JY)) Jy)
   (Jd (Jn (i:=2) sc.nd rfl (Or.inr rfl) (Jp km r1 (Ja (pv 1) Jc)))
   (Jd (Jn (i:=3) sc.nd rfl (Or.inr rfl) (Jp kml r1 (Ja (Jp kl r2 (Ja (pv 0) (Ja (pv 1) Jc))) Jc)))
   (Je (Jm (pe_not (Jr (Wx rfl) rfl m1 UF (Ja (Ye (N:=["a","b","inside","lost"]) (src:=[none,none,some 2,some 3]) rfl ⟨rfl,rfl,rfl,rfl,⟨⟨rfl,rfl⟩,⟨rfl,rfl⟩,trivial⟩,rfl,rfl,rfl⟩ (YF (i:=0) (j:=1) rfl rfl) (YC (Jx JA (pv 0) Ji (fun _ _=>rfl)))
    (fun C s H fp=>⟨YV (n:=2) rfl (Jz (Jk (i:=0) nd rfl (Or.inl rfl)) (Jz (Jk (i:=1) nd rfl (Or.inl rfl)) Yr)),JG,Wq (pe_cmp (Wr hu1 (pv 0) (pv 2))) (WT (pe_cmp (Wr hu1 (pv 1) (pv 3))))⟩)) Jc))))))),?_⟩
  refine⟨_,rfl,_,rfl,a,m,_,x,o,rfl,W.top,th,fun H1 s1=>⟨_,rfl,ite2 (fun h1=>?_) (fun h1=>?_)⟩⟩
  ·refine iteT ?_
   have h1':plsG m o=false:=by simpa using h1
   have e3:hfM m ars o=false:=by
    unfold hfM
    rw[h1']
    rfl
   rw[← e3]
   exact k _ s1
  ·have h1':plsG m o=true:=by simpa using h1
   cases th with
   | oth d n=>exact absurd h1' (by simp [plsG])
   | tup hp ty z =>
    rename_i p ys
    have h1'':(ys.all (plG m)&&YA (Jt ys))=true:=h1'
    rw[Bool.and_eq_true]at h1''
    have e:=Zq h1''.1
    have hz1:=hz ys rfl
    have hzz:(Jt ys).length≤1000:=by
     rw[e,List.length_map]at hz1
     exact hz1
    rw[e]at hp
    have hg:hfM m ars (some ys)=((ars.filter (both (Jt ys))).isEmpty&&!outB m ars (Jt ys)):=by
     unfold hfM
     rw[h1']
     rfl
    generalize Jt ys=ns at hp hzz hg
    refine⟨_,rfl,_,rfl,a,t,m,us,ars,p,ns,rfl,W.mono s1,s1 _ _ hp,hzz,fun l ws H2 s2 hl ha=>?_⟩
    refine⟨Nat.zero_le _,fun l0 hl0=>?_⟩
    have n0:l≠l0:=Jg hl hl0
    have ew:ws.isEmpty=(ars.filter (both ns)).isEmpty:=by
     have:=JS ha
     cases ws with
     | nil=>cases q:ars.filter (both ns) with
      | nil=>rfl
      | cons _ _=>rw [q] at this; cases this
     | cons _ _=>cases q:ars.filter (both ns) with
      | nil=>rw [q] at this; cases this
      | cons _ _=>rfl
    refine⟨l,l0,ws,rfl,rfl,SqL.of (by rw[Jh n0];exact hl),SqL.of Jb,_,rfl,?_⟩
    rw[ew]
    have s3:=(s1.trans s2).trans (Same.upd (o:=HO.lst []) hl0)
    refine ite2 (fun h2=>?_) (fun h2=>?_)
    ·have e3:hfM m ars (some ys)=false:=by
      rw[hg,show(ars.filter (both ns)).isEmpty=false by simpa using h2]
      rfl
     rw[← e3]
     exact k _ s3
    ·have h2':(ars.filter (both ns)).isEmpty=true:=by simpa using h2
     refine⟨_,rfl,p,ns,rfl,s3 _ _ hp,hzz,fun d kvs H4 s4 hd hd4 mk hkl=>?_⟩
     refine⟨_,rfl,_,rfl,a,t,m,us,ars,p,ns,rfl,W.mono (s3.trans s4),s4 _ _ (s3 _ _ hp),hzz,fun l5 H5 s5 hl5=>?_⟩
     have lm:=W.mb
     refine⟨l5,Jf m ars ns,rfl,hl5,Nat.le_trans (lostL_len _ _ _) (by omega),fun d2 kv2 H6 s6 hd2 hd6 mk2=>?_⟩
     have s36:=((s3.trans s4).trans s5).trans s6
     have W6:=W.mono s36
     have lu:=JS W.ars
     have hd46:=s6 _ _ (s5 _ _ hd4)
     refine⟨_,rfl,a,_,_,_,rfl,rfl,SqT.of W6.top,rfl,t,rfl,⟨_,SqT.of W6.arr⟩,Uk (xs:=us) (fun i zs H'=>Same H6 H'∧zs=(ars.take i).map fun q=>V.bl (decide (q.1∈ns)&&decide (q.2∈Jf m ars ns))) ⟨Same.refl _,rfl⟩ ?_ ?_ ?_⟩
     ·rintro i zs H' hi ⟨s7,rfl⟩
      refine⟨SqT.of (s7 _ _ W6.arr),?_⟩
      rw[List.length_map,List.length_take]
      have:=W.len
      exact Nat.le_of_lt (Jj (by omega))
     ·rintro zs H' ⟨s7,rfl⟩ l8 hl8
      rw[lu,List.take_of_length_le (Nat.le_refl _)]
      refine⟨l8,ars.map fun q=>decide (q.1∈ns)&&decide (q.2∈Jf m ars ns),rfl,SqL.of ?_,_,rfl,?_⟩
      ·rw [Jb,List.map_map]
       rfl
      ·have e3:hfM m ars (some ys)=!(List.any (ars.map fun q=>decide (q.1∈ns) && decide (q.2∈Jf m ars ns)) id):=by
        rw[hg,h2',Bool.true_and]
        unfold outB
        rw[List.any_map]
        rfl
       rw[← e3]
       exact k _ ((s36.trans s7).trans (Same.upd hl8))
     ·rintro i x zs H' hx hi ⟨s7,rfl⟩
      obtain⟨q,e1,r,rfl,hr'⟩:=Paired.get' W6.ars hx
      have g1:DGet H' d (.int q.1) (valV kvs (Sum.inl q.1)):=DGet.k (k:=Sum.inl q.1) (s7 _ _ hd46)
      have g2:DGet H' d2 (.int q.2) (valV kv2 (Sum.inl q.2)):=DGet.k (k:=Sum.inl q.2) (s7 _ _ hd6)
      refine⟨r,_,rfl,SqT.of (s7 _ _ hr'),rfl,_,_,rfl,_,_,rfl,rfl,_,rfl,_,rfl,d,_,rfl,g1,_,rfl,?_⟩
      rw[mk q.1]
      refine ite2 (fun h3=>?_) (fun h3=>?_)
      ·refine ⟨_,rfl,_,rfl,d2,_,rfl,g2,nx hi ⟨s7,?_⟩⟩
       rw[mk2 q.2,Ju _ _ _ e1,List.map_append]
       show _=_++[V.bl (decide (q.1∈ns)&&decide (q.2∈Jf m ars ns))]
       rw[h3,Bool.true_and]
      ·refine nx hi ⟨s7,?_⟩
       rw[Ju _ _ _ e1,List.map_append]
       show _=_++[V.bl (decide (q.1∈ns)&&decide (q.2∈Jf m ars ns))]
       rw[Bool.eq_false_iff.mpr h3,Bool.false_and]
def spCell(K:PySem.W.Frag):Sp:=fun vs H Q _=>∃(a:Addr)(ns:List Int)(k:Nat),vs=[.ref a,.int k]∧SqL K H a (ns.map V.int)∧∀n:Int,Q (.int n) H
theorem kn_cell(D:DefAt K mg "_law_cell_at" Zw ["script","k"])(fr:Free mg ["len"]):Kn P w K mg base 1 "_law_cell_at" ["script","k"] (spCell K):=by
 have sc:FnScope ["script","k"] ["script","k"] (Jl Zw):=⟨rfl,rfl,rfl,by decide +kernel,rfl,by decide +kernel,by decide +kernel⟩
 refine D.kn (N:=["script","k"]) sc (fun vs H Q E h=>?_) (fun f cdv A outer s H vs Q E hr h=>?_)
 ·obtain ⟨a,ns,k,rfl,_⟩:=h
  rfl
 ·obtain ⟨a,ns,k,rfl,hq,kk⟩:=h
  have m1:=fr "len" (by simp)
  refine⟨_,Jd (JU (Js op_lt (pv 1) (Jr Ym rfl m1 PySem.boot_len (Ja (pv 0) Jc)) (Jq _)) (Je (Jm (Jx JL (pv 0) (pv 1) (fun _ _=>rfl)))) Jy) (Je (Jm Ji)),?_⟩
  refine⟨_,rfl,_,rfl,a,_,rfl,.inl hq,_,_,rfl,rfl,_,rfl,ite2 (fun h1=>?_) (fun h1=>?_)⟩
  ·have h2:k < ns.length:=by
    have:=of_decide_eq_true h1
    rw[List.length_map]at this
    omega
   exact⟨_,rfl,_,rfl,a,_,_,V.int ns[k],rfl,rfl,hq,Yx (by simp[h2]),kk _⟩
  ·exact kk 0
def spNext:Sp:=fun vs H Q _=>∃n:Int,vs=[.int n]∧∀r:Int,Q (.int r) H
theorem kn_next(D:DefAt K mg "_law_next" WO ["seed"]):Kn P w K mg base 1 "_law_next" ["seed"] spNext:=by
 have sc:FnScope ["seed"] ["seed"] (Jl WO):=⟨rfl,rfl,rfl,by decide +kernel,rfl,by decide +kernel,by decide +kernel⟩
 refine D.kn (N:=["seed"]) sc (fun vs H Q E h=>?_) (fun f cdv A outer s H vs Q E hr h=>?_)
 ·obtain ⟨n,rfl,_⟩:=h
  rfl
 ·obtain ⟨n,rfl,kk⟩:=h
  refine ⟨_,Jd (Jn (i:=0) sc.nd rfl (Or.inl rfl) (JM ZA (JM ZU (pv 0) Ji) Ji))
   (Je (Jm (JM ZA (JM ZU (JM ZU (JM op_mul (pv 0) (pv 0)) (JM op_mul Ji (pv 0))) Ji) Ji))),?_⟩
  refine⟨_,rfl,_,_,rfl,rfl,_,_,rfl,rfl,(by show(0:Int)<2147483647;decide),?_⟩
  have b1:0≤(n+7919)%2147483647:=Int.emod_nonneg _ (by decide)
  have b2:(n+7919)%2147483647<2147483647:=Int.emod_lt_of_pos _ (by decide)
  refine⟨_,rfl,_,rfl,_,_,rfl,rfl,.inl ⟨by omega,by omega⟩,_,rfl,_,_,rfl,rfl,.inl ⟨by decide,by decide⟩,_,_,rfl,rfl,_,_,rfl,rfl,_,_,rfl,rfl,(by show(0:Int)<2147483629;decide),kk _⟩
def PenAt(H:Hp)(p:Addr):Prop:=∃a b c:Int,H p=some (.lst [.int a,.int b,.int c])
def spPen:Sp:=fun vs H Q _=>∃n:Int,vs=[.int n]∧∀(p:Addr)(H':Hp),Same H H'→H p=none→PenAt H' p→Q (.ref p) H'
theorem kn_pen(D:DefAt K mg "_law_pen_of" ZR ["cell"])(fr:Free mg ["max","int"]):Kn P w K mg base 1 "_law_pen_of" ["cell"] spPen:=by
 have sc:FnScope ["cell","left"] ["cell"] (Jl ZR):=⟨rfl,rfl,rfl,by decide +kernel,rfl,by decide +kernel,by decide +kernel⟩
 refine D.kn (N:=["cell","left"]) sc (fun vs H Q E h=>?_) (fun f cdv A outer s H vs Q E hr h=>?_)
 ·obtain ⟨n,rfl,_⟩:=h
  rfl
 ·obtain ⟨n,rfl,kk⟩:=h
  have m1:=fr "max" (by simp)
  have m2:=fr "int" (by simp)
  refine ⟨_,Jd (Jn (i:=1) sc.nd rfl (Or.inl rfl) (Jr (call_max2 rfl) rfl m1 boot_fmax (Ja (pv 0) (Ja (JM op_sub Ji (pv 0)) Jc))))
   (Je (Jm (JZ (Ja (pv 1) (Ja (JK call_int1 rfl m2 boot_tint (Ja (Yf op_ge (pv 1) (JM op_pow Ji Ji) (Jq _)) Jc)) (Ja (JM ZA (pv 1) Ji) Jc)))))),?_⟩
  refine⟨_,rfl,_,rfl,_,_,rfl,rfl,_,_,rfl,?_⟩
  refine⟨_,rfl,_,rfl,_,_,rfl,rfl,⟨by decide,by decide,by decide⟩,_,_,rfl,rfl,.inr ⟨_,rfl,?_⟩⟩
  refine⟨_,rfl,_,_,rfl,rfl,(by show(0:Int)<1000003;decide),?_,fun p hp=>?_⟩
  ·show 3≤sizeLine
   decide
  ·exact kk p _ (Same.upd hp) hp ⟨_,_,_,Jb⟩
theorem log_small{m:Int}(h0:0<m)(h1:m≤1000000000000000000000000000000000000000000000000000000000000):m.natAbs.log2<9000:=by
 have h2:m.natAbs<2^200:=by
  have:(2:Nat)^200=1606938044258990275541962092341162602522202993782792835301376:=by decide +kernel
  rw[this]
  omega
 have:=(Nat.log2_lt (n:=m.natAbs) (k:=200) (by omega)).mpr h2
 omega
def spDraw:Sp:=fun vs H Q _=>∃(p:Addr)(m:Int),vs=[.ref p,.int m]∧PenAt H p∧0<m∧m≤1000000000000000000000000000000000000000000000000000000000000∧∀(r:Int)(H':Hp),0≤r→r<m→SameBut p H H'→PenAt H' p→Q (.int r) H'
theorem kn_draw(D:DefAt K mg "_law_draw" WQ ["pen","many"])(kx:Kn P w K mg base 1 "_law_next" ["seed"] spNext):Kn P w K mg base 2 "_law_draw" ["pen","many"] spDraw:=by
 have sc:FnScope ["pen","many","found"] ["pen","many"] (Jl WQ):=⟨rfl,rfl,rfl,by decide +kernel,rfl,by decide +kernel,by decide +kernel⟩
 refine D.kn (N:=["pen","many","found"]) sc (fun vs H Q E h=>?_) (fun f cdv A outer s H vs Q E hr h=>?_)
 ·obtain ⟨p,m,rfl,_⟩:=h
  rfl
 ·obtain ⟨p,m,rfl,⟨a,b,c,hp⟩,h0,h1,kk⟩:=h
  have lg:=log_small h0 h1
  refine ⟨_,Jd (JU (Js ZI (Jx JL (pv 0) Ji (fun _ _=>rfl)) Ji (Jq _))
    (Jd (Jn (i:=2) sc.nd rfl (Or.inl rfl) (JM ZA (Jx JL (pv 0) Ji (fun _ _=>rfl)) (pv 1)))
    (Jd (ps_asg (JM op_fdivW (Jx JL (pv 0) Ji (fun _ _=>rfl)) (pv 1)) (pg_sub (pv 0) Ji Qn)) (Je (Jm (pv 2))))) Jy)
   (Jd (ps_asg (Jp kx hr (Ja (JM ZU (Jp kx hr (Ja (Jx JL (pv 0) Ji (fun _ _=>rfl)) Jc)) Ji) Jc)) (pg_sub (pv 0) Ji Qn))
   (Je (Jm (JM ZA (JM op_fdiv (Jx JL (pv 0) Ji (fun _ _=>rfl)) Ji) (pv 1))))),?_⟩
  refine⟨_,rfl,p,_,_,_,rfl,rfl,SqL.of hp,rfl,rfl,_,rfl,ite2 (fun h2=>?_) (fun h2=>?_)⟩
  ·refine ⟨_,rfl,p,_,_,_,rfl,rfl,SqL.of hp,rfl,_,rfl,_,_,rfl,rfl,h0,?_⟩
   refine⟨_,rfl,p,_,_,_,rfl,rfl,SqL.of hp,rfl,_,rfl,_,_,rfl,rfl,⟨h0,lg⟩,?_⟩
   refine⟨_,rfl,p,_,_,0,rfl,rfl,hp,rfl,?_⟩
   refine⟨_,rfl,kk _ _ (Int.emod_nonneg _ (by omega)) (Int.emod_lt_of_pos _ h0) SameBut.upd ⟨_,_,_,Jb⟩⟩
  ·refine ⟨_,rfl,p,_,_,_,rfl,rfl,SqL.of hp,rfl,_,rfl,fun r1=>?_⟩
   refine⟨_,_,rfl,rfl,_,rfl,fun r2=>?_⟩
   refine⟨_,rfl,p,_,_,2,rfl,rfl,hp,rfl,?_⟩
   refine⟨_,rfl,p,_,_,_,rfl,rfl,SqL.of Jb,rfl,_,_,rfl,rfl,⟨by decide,by decide⟩,_,rfl,_,_,rfl,rfl,h0,?_⟩
   exact kk _ _ (Int.emod_nonneg _ (by omega)) (Int.emod_lt_of_pos _ h0) SameBut.upd ⟨_,_,_,Jb⟩
end
end Hk
namespace Hk
open PySem L2
structure Rise(ns:List Int)(m:Int):Prop where
 bd:∀n∈ns,0≤n∧n<m
 up:ns.Pairwise (·<·)
theorem rises_of:∀{ns:List Int},ns.Pairwise (·<·)→YA ns=true
 | [],_=>rfl
 | [_],_=>rfl
 | a::b::r,h=>by
  rw[List.pairwise_cons]at h
  show(decide (a<b)&&YA (b::r))=true
  rw[decide_eq_true (h.1 b (by simp)),rises_of h.2]
  rfl
theorem up_len{m:Int}:∀{ns:List Int}{lo:Int},(∀n∈ns,lo≤n∧n<m)→ns.Pairwise (·<·)→ns.length≤(m-lo).toNat
 | [],_,_,_=>Nat.zero_le _
 | a::r,lo,hb,hp=>by
  rw[List.pairwise_cons]at hp
  have h1:=hb a (by simp)
  have h2:=up_len (m:=m) (ns:=r) (lo:=a+1) (fun n hn=>⟨hp.1 n hn,(hb n (by simp[hn])).2⟩) hp.2
  rw[List.length_cons]
  omega
theorem Rise.len{ns:List Int}{m:Int}(h:Rise ns m):ns.length≤m.toNat:=by
 have:=up_len h.bd h.up
 omega
theorem Rise.pls{ns:List Int}{m:Int}(h:Rise ns m):plsG m (some (ns.map V.int))=true:=by
 show((ns.map V.int).all (plG m)&&YA (Jt (ns.map V.int)))=true
 rw[Yt,rises_of h.up,Bool.and_true,List.all_map]
 refine List.all_eq_true.mpr fun n hn=>?_
 have:=h.bd n hn
 show(decide (0≤n)&&decide (n<m))=true
 rw[decide_eq_true this.1,decide_eq_true this.2]
 rfl
def WI(m:Int)(ars:List (Int×Int))(ns:List Int):Bool:=(ars.filter (both ns)).isEmpty&&(Jf m ars ns).isEmpty
theorem UZ{m:Int}{ars:List (Int×Int)}{ns:List Int}(R:Rise ns m):hgM m ars (some (ns.map V.int))=WI m ars ns:=by
 unfold hgM WI
 rw[R.pls,Bool.true_and]
 show((ars.filter (both (Jt (ns.map V.int)))).isEmpty&&(Jf m ars (Jt (ns.map V.int))).isEmpty)=_
 rw[Yt]
theorem Wb{H:Hp}{q:Addr}{ns:List Int}(hq:H q=some (.tup (ns.map V.int)))(hl:ns.length≤1000):Thing H (.ref q) (some (ns.map V.int)):=by
 refine .tup hq (fun y hy=>?_) ?_
 ·obtain ⟨n,_,rfl⟩:=List.mem_map.mp hy
  exact⟨_,.int n⟩
 ·rw [List.length_map]
  exact Nat.le_of_lt (Jj hl)
end Hk
namespace Hk
open PySem L2
section
variable{P:Program}{w:World}{K:PySem.W.Frag}{mg:Str→Option Value}{base:Heap}
theorem PenAt.mono{H H':Hp}{p:Addr}(s:Same H H')(h:PenAt H p):PenAt H' p:=by
 obtain⟨x,y,z,e⟩:=h
 exact⟨x,y,z,s _ _ e⟩
def JE(m:Int)(prs:List (Int×Int)):Prop:=∀q∈prs,0≤q.1∧q.1<m∧0≤q.2∧q.2<m∧q.1≠q.2
def DT(H:Hp)(d:Addr)(m:Int)(n:Nat):Prop:=∃(kvs:List (List Key×V))(prs:List (Int×Int)),H d=some (.dT kvs)∧kvs.map (·.1)=prs.map JD∧JE m prs∧kvs.length≤n
theorem DT.put{H:Hp}{d b:Addr}{m:Int}{n:Nat}{x y:Int}(h:DT H d m n)(hb:H b=none)(hn:n≤1000)(g:0≤x∧x<m∧0≤y∧y<m∧x≠y)(v:V) :
  ∃H4,DPut (upd H b (.tup [.int x,.int y])) d (.ref b) v H4∧DT H4 d m (n+1)∧∀c o,c≠d→H c=some o→H4 c=some o:=by
 obtain⟨kvs,prs,e1,e2,e3,e4⟩:=h
 have ne:d≠b:=Jg e1 hb
 have ed:(upd H b (.tup [.int x,.int y])) d=some (.dT kvs):=by rw[Jh ne];exact e1
 have eb:(upd H b (.tup [.int x,.int y])) b=some (.tup ((JD (x,y)).map kV)):=Jb
 refine⟨_,DPut.t (k:=JD (x,y)) ed eb (Jj (by omega)),?_,fun c o hc e=>?_⟩
 ·by_cases hv:valV kvs (JD (x,y))=none
  ·refine ⟨_,prs++[(x,y)],Jb,?_,fun q hq=>?_,?_⟩
   ·rw [Uc v hv,List.map_append,List.map_append,e2]
    rfl
   ·rcases List.mem_append.mp hq with h | h
    ·exact e3 q h
    ·rw [List.mem_singleton] at h
     subst h
     exact g
   ·exact Nat.le_trans (JN _ _ _) (Nat.succ_le_succ e4)
  ·refine ⟨_,prs,Jb,?_,e3,Nat.le_trans (JN _ _ _) (Nat.succ_le_succ e4)⟩
   have ha:(kvs.any fun kv=>decide (kv.1=JD (x,y)))=true:=by
    rw[ZE]
    cases q:valV kvs (JD (x,y)) with
    | none=>exact absurd q hv
    | some _=>rfl
   unfold putK
   rw[if_pos ha,List.map_map,← e2]
   refine List.map_congr_left fun kv _=>?_
   show(if kv.1=JD (x,y) then(kv.1,v)else kv).1=kv.1
   split<;>rfl
 ·rw [Jh hc,Jh (Jg e hb)]
  exact e
theorem DT.keep{H H':Hp}{d p:Addr}{m:Int}{n:Nat}(h:DT H d m n)(hp:PenAt H p)(s:SameBut p H H'):DT H' d m n:=by
 obtain⟨kvs,prs,e1,r⟩:=h
 obtain⟨a,b,c,e⟩:=hp
 exact⟨kvs,prs,s _ _ (ZK e1 e (by intro z;cases z)) e1,r⟩
theorem DT.mono{H:Hp}{d:Addr}{m:Int}{n k:Nat}(h:DT H d m n)(hk:n≤k):DT H d m k:=by
 obtain⟨kvs,prs,e1,e2,e3,e4⟩:=h
 exact⟨kvs,prs,e1,e2,e3,Nat.le_trans e4 hk⟩
theorem Jo{i:Nat}{v:V}{σ:St}{H:Hp}{Q:St→Hp→Prop}(h:Q (σ.set i (some v)) H):Zr i v σ H Q:=h
theorem seq_inv{a R:TS}{D:Ends}{σ:St}{H:Hp}(Inv:St→Hp→Prop)(h:∀D':Ends,(∀σ H,Inv σ H→D'.nx σ H)→a D' σ H)(hk:∀σ H,Inv σ H→R D σ H):tSeq a R D σ H:=h _ hk
theorem turned_ne{a b t m:Int}(a0:0≤a)(a1:a<m)(b0:0≤b)(b1:b<m)(h:a≠b):(a+t)%m≠(b+t)%m:=fun z=>by
 have e:=Int.emod_emod_of_dvd
 have h1:(a+t-(b+t))%m=0:=Int.emod_eq_emod_iff_emod_sub_eq_zero.mp z
 have h2:a+t-(b+t)=a-b:=by omega
 rw[h2]at h1
 obtain⟨c,hc⟩:=Int.dvd_of_emod_eq_zero h1
 rcases Int.lt_trichotomy c 0 with hc0|hc0|hc0
 ·have:m * c≤m * (-1):=Int.mul_le_mul_of_nonneg_left (by omega) (by omega)
  omega
 ·subst hc0
  omega
 ·have:m * 1≤m * c:=Int.mul_le_mul_of_nonneg_left (by omega) (by omega)
  omega
def spWebByS:Sp:=fun vs H Q _=>∃(p:Addr)(most:Int),vs=[.ref p,.int most]∧PenAt H p∧1≤most∧most≤40 ∧
 ∀(a t:Addr)(m:Int)(us:List V)(ars:List (Int×Int))(H':Hp),SameBut p H H'→PenAt H' p→Web H' a t m us ars→1≤m→m≤most→JE m ars→us.length≤200→(ars.Pairwise fun x y=>lexB x y=true)→Q (.ref a) H'
theorem kn_webby2S(D:DefAt K mg "_law_web_by" ZQ ["pen","most"])(fr:Free mg ["range","tuple","sorted","list","min","max"])(kd:Kn P w K mg base 2 "_law_draw" ["pen","many"] spDraw):Kn P w K mg base 3 "_law_web_by" ["pen","most"] spWebByS:=by
 have sc:FnScope ["pen","most","many","way","turn","found","lap","a","b","place"] ["pen","most"] (Jl ZQ):=⟨rfl,rfl,rfl,by decide +kernel,rfl,by decide +kernel,by decide +kernel⟩
 refine D.kn (N:=["pen","most","many","way","turn","found","lap","a","b","place"]) sc (fun vs H Q E h=>?_) (fun f cdv A outer s H vs Q E hr h=>?_)
 ·obtain ⟨p,m,rfl,_⟩:=h
  rfl
 ·obtain ⟨p,most,rfl,hp,h1,h2,kk⟩:=h
  have hu:=YW hr
  have m1:=fr "range" (by simp)
  have m2:=fr "tuple" (by simp)
  have m3:=fr "sorted" (by simp)
  have m4:=fr "list" (by simp)
  have m5:=fr "min" (by simp)
  have m6:=fr "max" (by simp)
  refine ⟨_,Jd (Jn (i:=2) sc.nd rfl (Or.inl rfl) (JM ZU Ji (Jp kd hr (Ja (pv 0) (Ja (pv 1) Jc)))))
   (Jd (Jn (i:=3) sc.nd rfl (Or.inl rfl) (Jp kd hr (Ja (pv 0) (Ja Ji Jc))))
   (Jd (Jn (i:=4) sc.nd rfl (Or.inl rfl) (Jp kd hr (Ja (pv 0) (Ja (pv 2) Jc))))
   (Jd (Jn (i:=5) sc.nd rfl (Or.inl rfl) pe_dnewT)
   (Jd (Yi PassesOwn.never rfl (JQ rfl m1 (Ja (Jr (call_min2 rfl) rfl m5 UE (Ja Ji (Ja (JM op_mul (pv 2) (Jx JL (JZ (Ja Ji (Ja Ji (Ja Ji (Ja Ji Jc))))) (Jp kd hr (Ja (pv 0) (Ja Ji Jc))) (fun _ _=>rfl))) Jc))) Jc)) (Jk (i:=6) sc.nd rfl (Or.inl rfl))
    (Jd (Jn (i:=7) sc.nd rfl (Or.inl rfl) (Jp kd hr (Ja (pv 0) (Ja (pv 2) Jc))))
    (Jd (Jn (i:=8) sc.nd rfl (Or.inl rfl) (Jp kd hr (Ja (pv 0) (Ja (pv 2) Jc))))
    (Jd (JU (Js ZI (pv 3) Ji (Jq _)) (Je (ps_par (i:=7) (j:=8) rfl sc.nd rfl rfl (by decide) rfl rfl (Ja (Jr (call_max2 rfl) rfl m6 boot_fmax (Ja (pv 7) (Ja (pv 8) Jc))) (Ja (Jr (call_min2 rfl) rfl m5 UE (Ja (pv 7) (Ja (pv 8) Jc))) Jc)) rfl)) Jy)
    (Je (JU (PW.pt (ZS (Js UL (pv 7) (pv 8) (Jq _)) (YX (PW.pt (Qu (Js UL (pv 3) Ji (Jq _)) (WS (Js ZI (JM ZA (JM ZU (pv 7) (pv 8)) Ji) Ji (Jq _))))))))
     (Je (YH hu (pv 5) (Yj (Ja (JM ZA (JM ZU (pv 7) (pv 4)) (pv 2)) (Ja (JM ZA (JM ZU (pv 8) (pv 4)) (pv 2)) Jc))) JY rfl)) Jy))))))
   (Jd (JU (PW.pt (ZS (Js ZI (pv 3) Ji (Jq _)) (YX (Js op_gt (pv 2) Ji (Jq _))))) (Je (Yi PassesOwn.never rfl (JQ rfl m1 (Ja (pv 2) Jc)) (Jk (i:=9) sc.nd rfl (Or.inl rfl))
     (Je (YH hu (pv 5) (Yj (Ja (pv 9) (Ja (JM ZA (JM ZU (pv 9) Ji) (pv 2)) Jc))) JY rfl)))) Jy)
   (Je (Jm (Yj (Ja (pv 2) (Ja (JK JC rfl m2 JB (Ja (Jr UC rfl m3 Yn (Ja (JK (QN rfl) rfl m4 boot_tlist (Ja (pv 5) Jc)) Jc)) Jc)) Jc)))))))))),?_⟩
  refine⟨_,rfl,_,rfl,p,most,rfl,hp,by omega,by omega,fun r H1 r0 r1 s1 hp1=>?_⟩
  refine⟨_,_,rfl,rfl,?_⟩
  refine⟨_,rfl,p,4,rfl,hp1,by decide,by decide,fun way H2 w0 w1 s2 hp2=>?_⟩
  have hm1:1≤1+r∧1+r≤40∧1+r≤most:=by omega
  generalize hm:1+r=m at hm1
  refine Jo ?_
  dsimp only
  refine⟨_,rfl,_,rfl,p,m,by rw[← hm];rfl,hp2,by omega,by omega,fun tn H2' t0 t1 s2' hp2'=>?_⟩
  intro d hd
  have pd:p≠d:=by
   obtain⟨_,_,_,e⟩:=hp2'
   exact Jg e hd
  have z0:SameBut p H2 (upd H2' d (.dT [])):=s2'.trans (Same.upd hd).but
  have hd2:H2 d=none:=by
   cases q:H2 d with
   | none=>rfl
   | some o =>
    rw[s2' d o (Ne.symm pd) q]at hd
    cases hd
  have z1:PenAt (upd H2' d (.dT [])) p:=by
   obtain⟨a,b,c,e⟩:=hp2'
   exact⟨a,b,c,by rw[Jh pd];exact e⟩
  have z2:DT (upd H2' d (.dT [])) d m 0:=⟨[],[],Jb,rfl,fun q hq=>(nomatch hq),Nat.le_refl _⟩
  refine Jo ?_
  dsimp only
  rw[hm]
  refine seq_inv (a:=tFor _ _ _) (fun σ H3=>∃(v6 v7 v8:Option V),σ=[some (.ref p),some (.int most),some (.int m),some (.int way),some (.int tn),some (.ref d),v6,v7,v8,none]∧SameBut p H2 H3∧PenAt H3 p∧DT H3 d m 160) (fun D' hk=>?_) ?_
  ·refine ⟨_,rfl,(by show 4≤sizeLine; decide),fun l hl=>?_⟩
   have zz1:PenAt (upd (upd H2' d (.dT [])) l (.lst [.int 1,.int 2,.int 3,.int 6])) p:=z1.mono (Same.upd hl)
   refine⟨_,rfl,p,4,rfl,zz1,by decide,by decide,fun q H3 q0 q1 s3 hp3=>?_⟩
   have nl:l≠p:=by
    obtain⟨_,_,_,e⟩:=z1
    exact Ne.symm (Jg e hl)
   have ix:∃k:Int,atI [V.int 1,V.int 2,V.int 3,V.int 6] q=some (V.int k)∧0≤k∧k≤6:=by
    have hw:q=0∨q=1∨q=2∨q=3:=by omega
    rcases hw with rfl|rfl|rfl|rfl
    ·exact ⟨1,rfl,by decide,by decide⟩
    ·exact ⟨2,rfl,by decide,by decide⟩
    ·exact ⟨3,rfl,by decide,by decide⟩
    ·exact ⟨6,rfl,by decide,by decide⟩
   obtain⟨k,hk1,hk2,hk3⟩:=ix
   have dk:DT H3 d m 0:=(z2.keep z1 (Same.upd hl).but).keep zz1 s3
   have mk:0≤m*k:=Int.mul_nonneg (by omega) hk2
   refine⟨l,_,q,_,rfl,rfl,SqL.of (s3 _ _ nl Jb),hk1,_,_,rfl,rfl,.inl ⟨by omega,by omega⟩,_,_,rfl,?_⟩
   refine⟨_,rfl,by split<;>omega,by split<;>omega,?_⟩
   have lb:(if m*k<160 then m*k else 160).toNat≤160:=by split<;>omega
   generalize (if m*k<160 then m*k else 160)=laps at lb
   have sk:SameBut p H2 H3:=z0.trans ((Same.upd hl).but.trans s3)
   refine UB (fun i σ H4=>∃v6 v7 v8:Option V,σ=[some (.ref p),some (.int most),some (.int m),some (.int way),some (.int tn),some (.ref d),v6,v7,v8,none]∧SameBut p H2 H4∧PenAt H4 p∧DT H4 d m i) ⟨none,none,none,rfl,sk,hp3,dk⟩ ?_ ?_
   ·rintro i σ H4 hi ⟨v6,v7,v8,rfl,s4,hp4,hd4⟩
    refine⟨_,rfl,_,rfl,p,m,rfl,hp4,by omega,by omega,fun a H5 a0 a1 s5 hp5=>?_⟩
    refine⟨_,rfl,_,rfl,p,m,rfl,hp5,by omega,by omega,fun b H6 b0 b1 s6 hp6=>?_⟩
    refine Jo ?_
    dsimp only
    have s46:=s5.trans s6
    refine seq_inv (a:=tIfS _ _ _) (fun σ H7=>H7=H6∧∃(x y:Int),σ=[some (.ref p),some (.int most),some (.int m),some (.int way),some (.int tn),some (.ref d),some (.int (0+i)),some (.int x),some (.int y),none]∧0≤x∧x<m∧0≤y∧y<m) (fun D' hk=>?_) ?_
    ·refine ⟨_,rfl,rfl,_,rfl,ite2 (fun hg=>?_) (fun hg=>?_)⟩
     ·refine ⟨_,rfl,_,rfl,_,_,rfl,_,rfl,_,rfl,_,_,rfl,_,_,rfl,hk _ _ ⟨rfl,_,_,rfl,?_⟩⟩
      refine⟨?_,?_,?_,?_⟩<;>split<;>omega
     ·exact hk _ _ ⟨rfl,a,b,rfl,a0,a1,b0,b1⟩
    ·rintro σ H7 ⟨rfl,x,y,rfl,x0,x1,y0,y1⟩
     have hd6:=hd4.keep hp4 s46
     have nope:∃v6 v7 v8:Option V,[some (V.ref p),some (.int most),some (.int m),some (.int way),some (.int tn),some (.ref d),some (.int (0+i)),some (.int x),some (.int y),none]=[some (.ref p),some (.int most),some (.int m),some (.int way),some (.int tn),some (.ref d),v6,v7,v8,none]∧SameBut p H2 H7∧PenAt H7 p∧DT H7 d m (i+1):=⟨_,_,_,rfl,s4.trans s46,hp6,hd6.mono (Nat.le_succ _)⟩
     have go:x≠y→∀c,H7 c=none→∃H8,DPut (upd H7 c (.tup [.int ((x+tn)%m),.int ((y+tn)%m)])) d (.ref c) (.bl true) H8∧SameBut p H2 H8∧PenAt H8 p∧DT H8 d m (i+1):=fun hxy c hc=>by
      have b1:(x+tn)%m<m:=Int.emod_lt_of_pos _ (by omega)
      have b2:0≤(x+tn)%m:=Int.emod_nonneg _ (by omega)
      have b3:(y+tn)%m<m:=Int.emod_lt_of_pos _ (by omega)
      have b4:0≤(y+tn)%m:=Int.emod_nonneg _ (by omega)
      obtain⟨H8,g1,g2,g3⟩:=hd6.put hc (by omega) (x:=(x+tn)%m) (y:=(y+tn)%m) ⟨b2,b1,b4,b3,turned_ne x0 x1 y0 y1 hxy⟩ (.bl true)
      refine⟨H8,g1,?_,?_,g2⟩
      ·intro e o he ee
       by_cases hed:e=d
       ·subst hed
        rw[hd2]at ee
        cases ee
       ·exact g3 e o hed ((s4.trans s46) e o he ee)
      ·obtain ⟨x,y,z,e⟩:=hp6
       exact⟨x,y,z,g3 _ _ pd e⟩
     refine⟨_,rfl,_,rfl,rfl,_,rfl,ite2 (fun hg=>?_) (fun hg=>?_)⟩
     ·have hxy:x≠y:=by
       intro z
       subst z
       simp at hg
      refine⟨_,rfl,rfl,_,rfl,ite2 (fun hw=>?_) (fun hw=>?_)⟩
      ·refine ⟨_,rfl,_,rfl,_,rfl,_,_,rfl,rfl,_,rfl,_,_,rfl,rfl,(by show (0:Int) < m; omega),_,rfl,_,rfl,_,_,rfl,rfl,_,rfl,_,_,rfl,rfl,(by show (0:Int) < m; omega),(by show 2≤sizeLine; decide),fun c hc=>?_⟩
       obtain⟨H8,g1,g2,g3,g4⟩:=go hxy c hc
       exact⟨d,H8,rfl,g1,_,_,_,rfl,g2,g3,g4⟩
      ·refine ⟨_,rfl,_,rfl,_,_,rfl,rfl,_,_,rfl,rfl,(by show (0:Int) < 2; decide),rfl,_,rfl,ite2 (fun hv=>?_) (fun hv=>?_)⟩
       ·refine ⟨_,rfl,_,rfl,_,rfl,_,_,rfl,rfl,_,rfl,_,_,rfl,rfl,(by show (0:Int) < m; omega),_,rfl,_,rfl,_,_,rfl,rfl,_,rfl,_,_,rfl,rfl,(by show (0:Int) < m; omega),(by show 2≤sizeLine; decide),fun c hc=>?_⟩
        obtain⟨H8,g1,g2,g3,g4⟩:=go hxy c hc
        exact⟨d,H8,rfl,g1,_,_,_,rfl,g2,g3,g4⟩
       ·exact nope
     ·exact nope
   ·rintro σ H4 ⟨v6,v7,v8,rfl,s4,hp4,hd4⟩
    exact hk _ _ ⟨v6,v7,v8,rfl,s4,hp4,hd4.mono lb⟩
  ·rintro σ H3 ⟨v6,v7,v8,rfl,s3,hp3,hd3⟩
   refine seq_inv (a:=tIfS _ _ _) (fun σ H4=>∃(v9:Option V),σ=[some (.ref p),some (.int most),some (.int m),some (.int way),some (.int tn),some (.ref d),v6,v7,v8,v9]∧SameBut p H2 H4∧PenAt H4 p∧DT H4 d m 200) (fun D' hk=>?_) ?_
   ·have stay:D'.nx [some (.ref p),some (.int most),some (.int m),some (.int way),some (.int tn),some (.ref d),v6,v7,v8,none] H3:=hk _ _ ⟨none,rfl,s3,hp3,hd3.mono (by decide)⟩
    refine⟨_,rfl,rfl,_,rfl,ite2 (fun hg=>?_) (fun hg=>stay)⟩
    refine⟨_,rfl,_,_,rfl,rfl,_,rfl,ite2 (fun hh=>?_) (fun hh=>stay)⟩
    have hh':1<m:=of_decide_eq_true hh
    refine⟨_,rfl,m,rfl,by omega,by omega,UB (fun i σ H4=>∃(v9:Option V),σ=[some (.ref p),some (.int most),some (.int m),some (.int way),some (.int tn),some (.ref d),v6,v7,v8,v9]∧SameBut p H2 H4∧PenAt H4 p∧DT H4 d m (160+i)) ⟨none,rfl,s3,hp3,hd3⟩ ?_ ?_⟩
    ·rintro i σ H4 hi ⟨v9,rfl,s4,hp4,hd4⟩
     refine⟨_,rfl,_,rfl,_,rfl,_,_,rfl,rfl,_,rfl,_,_,rfl,rfl,(by show(0:Int)<m;omega),(by show 2≤sizeLine;decide),fun b hb=>?_⟩
     have b1:(0+(i:Int)+1)%m<m:=Int.emod_lt_of_pos _ (by omega)
     have b2:0≤(0+(i:Int)+1)%m:=Int.emod_nonneg _ (by omega)
     have b3:(0+(i:Int))≠(0+(i:Int)+1)%m:=by
      by_cases h:(i:Int)+1<m
      ·rw [Int.emod_eq_of_lt (by omega) (by omega)]
       omega
      ·have:(0 + (i:Int) + 1)=m:=by omega
       rw[this,Int.emod_self]
       omega
     obtain⟨H5,g1,g2,g3⟩:=hd4.put hb (by omega) (x:=0+i) (y:=(0+i+1)%m) ⟨by omega,by omega,b2,b1,b3⟩ (.bl true)
     refine⟨d,H5,rfl,g1,_,rfl,?_,?_,g2⟩
     ·intro c o hc e
      by_cases hcd:c=d
      ·subst hcd
       rw[hd2]at e
       cases e
      ·exact g3 c o hcd (s4 c o hc e)
     ·obtain ⟨x,y,z,e⟩:=hp4
      exact⟨x,y,z,g3 _ _ pd e⟩
    ·rintro σ H4 ⟨v9,rfl,s4,hp4,hd4⟩
     exact hk _ _ ⟨v9,rfl,s4,hp4,hd4.mono (by omega)⟩
   ·rintro σ H4 ⟨v9,rfl,s4,hp4,hd4⟩
    obtain⟨kvs,prs,e1,e2,e3,e4⟩:=hd4
    have q3:kvs.length=prs.length:=by
     have:=congrArg List.length e2
     rwa [List.length_map,List.length_map]at this
    refine⟨_,rfl,_,rfl,d,kvs,prs,rfl,e1,e2,by omega,fun L0 ws0 H5 s5 hL0 ha0 ndp=>?_⟩
    have l0:=JS ha0
    refine⟨L0,ws0,prs,rfl,hL0,ha0,by omega,fun L ws prs' H6 s6 hL ha hpm ris=>?_⟩
    have lw:ws.length≤200:=by
     have q1:=JS ha
     have q2:=hpm.length_eq
     omega
    refine⟨L,ws,rfl,.inl ⟨SqL.of hL,fun t ht=>⟨(by show 2≤sizeLine;decide),fun g hg=>?_⟩⟩⟩
    have s7:Same H6 _:=(Same.upd (o:=.tup ws) ht).trans (Same.upd (o:=.tup [.int m,.ref t]) hg)
    refine kk g t m ws prs' _ (((s1.trans s2).trans s4).trans (s5.trans (s6.trans s7)).but) ?_ ⟨Jb,?_,ha.mono s7,by omega,by omega,by omega⟩ (by omega) (by omega) (fun z hz=>e3 z (hpm.mem_iff.mp hz)) lw (Qq ris (hpm.symm.nodup ndp))
    ·exact hp4.mono (s5.trans (s6.trans s7))
    ·exact Same.upd hg _ _ Jb
end
end Hk
namespace Hk
open PySem L2
theorem newp{H:Hp}{p q:Addr}(hp:PenAt H p)(hq:H q=none):q≠p:=fun e=>by
 obtain⟨_,_,_,z⟩:=hp
 rw[e,z]at hq
 cases hq
end Hk
namespace Hk
open PySem L2
section
variable{P:Program}{w:World}{K:PySem.W.Frag}{mg:Str→Option Value}{base:Heap}
theorem flat_ints(ns:List Int):(ns.map V.int).all ZY=true:=by
 rw[List.all_map]
 exact List.all_eq_true.mpr fun _ _=>rfl
def ldI(ars:List (Int×Int))(p:Int):List Int:=(ars.filter fun q=>decide (q.1=p)).map (·.2)
theorem ldI_len(ars:List (Int×Int))(p:Int):(ldI ars p).length≤ars.length:=by
 unfold ldI
 rw[List.length_map]
 exact List.length_filter_le _ _
structure LL(H:Hp)(l:Addr)(rows:List Addr)(f:Nat→List Int):Prop where
 top:H l=some (.lst (rows.map V.ref))
 row:∀i r,rows[i]?=some r→H r=some (.lst ((f i).map V.int))
theorem LL.mono{H H':Hp}{l:Addr}{rows:List Addr}{f:Nat→List Int}(h:LL H l rows f)(s:Same H H'):LL H' l rows f:=⟨s _ _ h.top,fun i r e=>s _ _ (h.row i r e)⟩
def Zf:Sp:=fun vs H Q _=>∃(a t:Addr)(m:Int)(us:List V)(ars:List (Int×Int)),vs=[.ref a]∧Web H a t m us ars∧JE m ars ∧
 ∀(l:Addr)(rows:List Addr)(H':Hp),Same H H'→rows.length=m.toNat→LL H' l rows (fun i=>ldI ars i)→Q (.ref l) H'
theorem kn_allleads(D:DefAt K mg "all_leads" Wj ["web"])(fr:Free mg ["range"]):Kn P w K mg base 1 "all_leads" ["web"] Zf:=by
 have sc:FnScope ["web","leads","a","b"] ["web"] (Jl Wj):=⟨rfl,rfl,rfl,by decide +kernel,rfl,by decide +kernel,by decide +kernel⟩
 refine D.kn (N:=["web","leads","a","b"]) sc (fun vs H Q E h=>?_) (fun f cdv A outer s H vs Q E hr h=>?_)
 ·obtain ⟨a,t,m,us,ars,rfl,_⟩:=h
  rfl
 ·obtain ⟨a,t,m,us,ars,rfl,W,ga,kk⟩:=h
  have m1:=fr "range" (by simp)
  have nd:(["place"]:List Str).Nodup:=by decide +kernel
  refine ⟨_,Jd (YN (i:=1) (N:=["place"]) (src:=[none]) sc.nd rfl rfl rfl rfl ⟨rfl,rfl,rfl,rfl,trivial,rfl,rfl,rfl⟩ (Jw (i:=0) rfl) (JQ rfl m1 (Ja (Jx JA (pv 0) Ji (fun _ _=>rfl)) Jc)) (fun C s H fp=>⟨Jk (i:=0) nd rfl (Or.inl rfl),JG,JZ Jc⟩))
   (Jd (Yi PassesOwn.never rfl (YC (Jx JA (pv 0) Ji (fun _ _=>rfl))) (YV (n:=2) rfl (Jz (Jk (i:=2) sc.nd rfl (Or.inl rfl)) (Jz (Jk (i:=3) sc.nd rfl (Or.inl rfl)) Yr)))
    (Je (Zo (UJ PySem.F.plainAttrs_list PySem.F.slot_list_append PySem.F.type_list_append YE (Jx JL (pv 1) (pv 2) (fun _ _=>rfl)) (Ja (pv 3) Jc)))))
   (Je (Jm (pv 1)))),?_⟩
  have hm:=W.mb
  have c0:0≤sizeLine:=by decide
  refine⟨_,rfl,a,_,_,_,rfl,rfl,SqT.of W.top,rfl,m,rfl,by omega,by omega,Zd (fun i zs H'=>∃rows:List Addr,zs=rows.map V.ref∧rows.length=i∧Same H H'∧(∀r∈rows,H r=none∧H' r=some (.lst []))∧rows.Nodup) ⟨[],rfl,rfl,Same.refl _,fun r hr=>(nomatch hr),List.nodup_nil⟩ ?_ ?_ ?_⟩
  ·rintro i zs H' hi ⟨rows,rfl,rfl,_⟩
   rw[List.length_map]
   exact Nat.le_of_lt (Jj (by omega))
  ·rintro zs H' ⟨rows,rfl,hl,s1,fresh,nodup⟩ l hl1
   have s2:=s1.trans (Same.upd (o:=.lst (rows.map V.ref)) hl1)
   have fresh2:∀r∈rows,H r=none∧(upd H' l (.lst (rows.map V.ref))) r=some (.lst []):=fun r hr=>⟨(fresh r hr).1,Same.upd hl1 _ _ (fresh r hr).2⟩
   have hl2:(upd H' l (.lst (rows.map V.ref))) l=some (.lst (rows.map V.ref)):=Jb
   have lr:∀r∈rows,r≠l:=fun r hr=>Jg (fresh r hr).2 hl1
   have hl0:H l=none:=by
    cases e:H l with
    | none=>rfl
    | some o=>rw [s1 _ _ e] at hl1; cases hl1
   generalize upd H' l (.lst (rows.map V.ref))=H2 at s2 fresh2 hl2
   have W2:=W.mono s2
   refine ⟨_,rfl,a,_,_,_,rfl,rfl,SqT.of W2.top,rfl,t,rfl,⟨_,SqT.of W2.arr⟩,Qb (K:=K) (xs:=us) (fun k σ H3=>∃ (v2 v3:Option V),σ=[some (.ref a),some (.ref l),v2,v3]∧Same H H3∧LL H3 l rows (fun i=>ldI (ars.take k) i))
    ⟨none,none,rfl,s2,hl2,fun i r e=>(fresh2 r (List.mem_of_getElem? e)).2⟩ (fun i σ H3 _ ⟨_,_,_,s3,_⟩=>SqT.of (s3 _ _ W.arr)) ?_ ?_⟩
   ·rintro k y σ H3 hk ⟨v2,v3,rfl,s3,L⟩
    obtain⟨q,e1,r,rfl,hr'⟩:=Paired.get' (W.mono s3).ars hk
    have g:=ga q (List.mem_of_getElem? e1)
    have hkl:k<us.length:=(List.getElem?_eq_some_iff.mp hk).1
    have hlu:=W.len
    obtain⟨x,b⟩:=q
    obtain⟨j,rfl⟩:∃j:Nat,x=(j:Int):=⟨x.toNat,by have:=g.1;omega⟩
    have hj:j<rows.length:=by have:=g.2.1;show j<rows.length;rw[hl];omega
    have er:rows[j]?=some rows[j]:=by simp[hj]
    have lj:=ldI_len (ars.take k) j
    rw[List.length_take]at lj
    refine⟨r,_,rfl,SqT.of hr',rfl,_,_,rfl,_,_,rfl,rfl,?_⟩
    refine⟨_,rfl,_,rfl,l,_,_,V.ref rows[j],rfl,rfl,SqL.of L.top,Yx (by rw[List.getElem?_map,er];rfl),.inl ⟨rfl,_,SqL.of (L.row j _ er)⟩,_,rfl,rows[j],_,_,rfl,rfl,L.row j _ er,?_,?_⟩
    ·rw [List.length_map]
     exact Jj (by omega)
    ·refine ⟨_,_,rfl,fun c o e=>?_,?_,fun i r' e'=>?_⟩
     ·rw [Jh (Jg e (fresh _ (List.mem_of_getElem? er)).1)]
      exact s3 _ _ e
     ·rw [Jh (Ne.symm (lr _ (List.mem_of_getElem? er)))]
      exact L.top
     ·have ee:=Ju ars k _ e1
      by_cases hij:i=j
      ·subst hij
       rw[er]at e'
       cases e'
       rw[Jb]
       unfold ldI
       rw[ee,List.filter_append,List.map_append,List.map_append]
       simp
      ·have ne:r'≠rows[j]:=by
        intro z
        have hi:i<rows.length:=(List.getElem?_eq_some_iff.mp e').1
        have:rows[i]=rows[j]:=by
         have:=(List.getElem?_eq_some_iff.mp e').2
         rw[this,z]
        have pw:=List.pairwise_iff_getElem.mp nodup
        rcases Nat.lt_or_gt_of_ne hij with lt|lt
        ·exact pw i j hi hj lt this
        ·exact pw j i hj hi lt this.symm
       rw[Jh ne,L.row i r' e']
       unfold ldI
       rw[ee,List.filter_append,List.map_append]
       have:¬ ((j:Int)=(i:Int)):=by omega
       simp[this]
   ·rintro σ H3 ⟨v2,v3,rfl,s3,L⟩
    refine⟨_,rfl,kk l rows H3 s3 hl ?_⟩
    rw[JS W.ars,List.take_of_length_le (Nat.le_refl _)]at L
    exact L
  ·rintro i zs H' hi ⟨rows,rfl,hl,s1,fresh,nodup⟩
   refine⟨c0,fun q hq=>nx hi ⟨rows++[q],?_,?_,s1.trans (Same.upd hq),fun r hr=>?_,?_⟩⟩
   ·rw [List.map_append]
    rfl
   ·rw [List.length_append]
    show rows.length+1=i+1
    omega
   ·rcases List.mem_append.mp hr with z | z
    ·exact ⟨(fresh r z).1,Same.upd hq _ _ (fresh r z).2⟩
    ·rw [List.mem_singleton] at z
     subst z
     refine⟨?_,Jb⟩
     cases e:H r with
     | none=>rfl
     | some o=>rw [s1 _ _ e] at hq; cases hq
   ·rw [List.nodup_append]
    refine⟨nodup,by simp,fun x hx y hy=>?_⟩
    rw[List.mem_singleton]at hy
    subst hy
    exact Jg (fresh x hx).2 hq
end
end Hk
namespace Hk
open PySem L2
def plI(n:Nat):List Int:=(List.range n).map fun(k:Nat)=>(k:Int)
theorem JO{n:Nat}{p:Int}:p∈plI n↔0≤p∧p<n:=by
 unfold plI
 rw[List.mem_map]
 constructor
 ·rintro ⟨k,hk,rfl⟩
  rw[List.mem_range]at hk
  omega
 ·rintro ⟨h0,h1⟩
  exact⟨p.toNat,List.mem_range.mpr (by omega),by omega⟩
theorem YY(n:Nat):(plI n).length=n:=by
 unfold plI
 rw[List.length_map,List.length_range]
theorem plI_at{n i:Nat}(h:i<n):(plI n)[i]?=some (i:Int):=by
 unfold plI
 rw[List.getElem?_map,List.getElem?_range h]
 rfl
theorem Yw{n:Nat}{D:List Int}(h1:D.Nodup)(h2:∀p∈D,0≤p∧p<n):D.length≤n:=by
 have:D ⊆ plI n:=fun p hp=>JO.mpr (h2 p hp)
 have:=List.Nodup.length_le_of_subset h1 this
 rwa [YY]at this
def RingG(f:Nat→List Int)(R:List Int):Prop:=2≤R.length∧R.Nodup∧∀k,k<R.length→∀x y,R[k]?=some x→R[(k+1)%R.length]?=some y→y∈f x.toNat
def WayG(f:Nat→List Int)(way:List Int):Prop:=∀k x y,way[k]?=some x→way[k+1]?=some y→y∈f x.toNat
theorem way_snoc{f:Nat→List Int}{way:List Int}{p:Int}(h:WayG f way)(hp:∀x,way.getLast?=some x→p∈f x.toNat):WayG f (way++[p]):=fun k x y h1 h2=>by
 by_cases c:k+1<way.length
 ·rw [List.getElem?_append_left (by omega)] at h1
  rw[List.getElem?_append_left c]at h2
  exact h k x y h1 h2
 ·have hk:k + 1=way.length:=by
   have:=(List.getElem?_eq_some_iff.mp h2).1
   rw[List.length_append,List.length_singleton]at this
   omega
  rw[List.getElem?_append_right (by omega),hk,Nat.sub_self]at h2
  have:y=p:=by simpa using h2.symm
  subst this
  refine hp x ?_
  rw[List.getLast?_eq_getElem?,← h1,List.getElem?_append_left (by omega)]
  congr 1
  omega
def RingA(ars:List (Int×Int))(R:List Int):Prop:=2≤R.length∧R.Nodup∧R.length≤40∧∀k,k<R.length→∀x y,R[k]?=some x→R[(k+1)%R.length]?=some y→(x,y)∈ars
end Hk
namespace Hk
open PySem L2 PySem.W
def mkv(ns:List Int):List (Key×V):=ns.map fun n=>(Sum.inl n,V.bl true)
theorem mkv_val(ns:List Int)(x:Int):valV (mkv ns) (Sum.inl x)=if x∈ns then some (.bl true)else none:=by
 induction ns with
 | nil=>simp [mkv,valV]
 | cons n r ih =>
  show valV ((Sum.inl n,V.bl true)::mkv r) (Sum.inl x)=_
  unfold valV at ih ⊢
  rw[List.find?_cons]
  by_cases e:n=x
  ·subst e
   simp
  ·rw [decide_eq_false (show ¬ (Sum.inl n:Key)=Sum.inl x from fun z=>e (Sum.inl.inj z)),ih]
   by_cases z:x∈r
   ·rw [if_pos z,if_pos (List.mem_cons_of_mem _ z)]
   ·rw [if_neg z,if_neg (fun w=>(List.mem_cons.mp w).elim (fun h=>e h.symm) z)]
theorem mkv_some(ns:List Int)(x:Int):(valV (mkv ns) (Sum.inl x)).isSome=decide (x∈ns):=by
 rw[mkv_val]
 by_cases h:x∈ns<;>simp[h]
theorem mkv_put{ns:List Int}{x:Int}(h:x∉ns):putK (mkv ns) (Sum.inl x) (V.bl true)=mkv (ns++[x]):=by
 rw[Uc _ (by rw[mkv_val,if_neg h])]
 unfold mkv
 rw[List.map_append]
 rfl
theorem mkv_len(ns:List Int):(mkv ns).length=ns.length:=by
 unfold mkv
 rw[List.length_map]
theorem mkv_keys(ns:List Int):(mkv ns).map (·.1)=ns.map Sum.inl:=by
 unfold mkv
 rw[List.map_map]
 rfl
theorem Ya{H H':Hp}{l:Addr}(s:Same H H')(h:H' l=none):H l=none:=by
 cases e:H l with
 | none=>rfl
 | some o=>rw [s _ _ e] at h; cases h
theorem cut_from{xs:List V}{i:Nat}(h:i≤xs.length):cutV xs (some (i:Int)) none=xs.drop i:=by
 have e:HT.sIx xs.length 0 (some (i:Int))=i:=by
  unfold HT.sIx
  simp only
  first|omega|(split<;>omega)|simp[h]
 unfold cutV
 rw[e,show HT.sIx xs.length xs.length none=xs.length from rfl,List.take_of_length_le (by rw[List.length_drop];omega)]
def ldF(ars:List (Int×Int)):Nat→List Int:=fun i=>ldI ars i
theorem ZM{m:Int}{ars:List (Int×Int)}(g:JE m ars):∀p:Nat,∀b∈ldF ars p,(0≤b∧b<(m.toNat:Nat))∧b≠(p:Int):=fun p b hb=>by
 unfold ldF ldI at hb
 obtain⟨q,hq,rfl⟩:=List.mem_map.mp hb
 have h:=List.mem_filter.mp hq
 have e:=of_decide_eq_true h.2
 have gq:=g q h.1
 refine⟨⟨gq.2.2.1,by omega⟩,fun z=>gq.2.2.2.2 ?_⟩
 rw[e,z]
theorem JW{ars:List (Int×Int)}{x y:Int}:y∈ldI ars x↔(x,y)∈ars:=by
 unfold ldI
 rw[List.mem_map]
 constructor
 ·rintro ⟨q,hq,rfl⟩
  have h:=List.mem_filter.mp hq
  have e:=of_decide_eq_true h.2
  have:q=(x,q.2):=Prod.ext e rfl
  rw[← this]
  exact h.1
 ·intro h
  exact⟨(x,y),List.mem_filter.mpr ⟨h,decide_eq_true rfl⟩,rfl⟩
theorem huN{k j:Nat}{A:Around}(hr:Room k A)(h:j≤200):A.units+j<cLine:=by
 have:=hr.un
 omega
theorem ixN_lt'{n j:Nat}(h:j<n):ixN n (j:Int)=some j:=by
 unfold ixN
 rw[if_pos (by omega),if_pos (by omega),Int.toNat_natCast]
end Hk
namespace Hk
open PySem L2
inductive Rch(f:Nat→List Int)(p:Int):Int→Prop where
 | refl:Rch f p p
 | step {q b:Int}:Rch f p q→b∈f q.toNat→Rch f p b
theorem Rch.trans{f:Nat→List Int}{p q r:Int}(h:Rch f p q)(g:Rch f q r):Rch f p r:=by
 induction g with
 | refl=>exact h
 | step _ e ih=>exact .step ih e
theorem Rch.head{f:Nat→List Int}{p b r:Int}(h:b∈f p.toNat)(g:Rch f b r):Rch f p r:=(Rch.step .refl h).trans g
structure IsCm(f:Nat→List Int)(p:Int)(R:List Int):Prop where
 rise:R.Pairwise (·<·)
 mem:∀x,x∈R↔Rch f p x
structure IsGr(f:Nat→List Int)(p:Int)(R:List Int):Prop where
 rise:R.Pairwise (·<·)
 mem:∀x,x∈R↔Rch f p x∧Rch f x p
theorem YB{f:Nat→List Int}{n:Nat}(hf:∀p:Nat,∀b∈f p,0≤b∧b<n){p x:Int}(hp:0≤p∧p<n)(h:Rch f p x):0≤x∧x<n:=by
 induction h with
 | refl=>exact hp
 | step _ e _=>exact hf _ _ e
theorem JP (n:Nat) (c:Int→Bool):((plI n).filter c).Pairwise (· < ·):=List.Pairwise.filter _ (by
 unfold plI
 rw[List.pairwise_map]
 exact List.pairwise_lt_range.imp fun {a b} h=>by omega)
theorem cm_ex{f:Nat→List Int}{n:Nat}(hf:∀p:Nat,∀b∈f p,0≤b∧b<n):∃Cm:Nat→List Int,∀p:Nat,p<n→IsCm f (p:Int) (Cm p):=by
 classical
 refine⟨fun p=>(plI n).filter fun x=>decide (Rch f (p:Int) x),fun p hp=>⟨JP n _,fun x=>?_⟩⟩
 rw[List.mem_filter,JO,decide_eq_true_eq]
 exact⟨fun h=>h.2,fun h=>⟨YB hf (by omega) h,h⟩⟩
theorem gr_ex{f:Nat→List Int}{n:Nat}(hf:∀p:Nat,∀b∈f p,0≤b∧b<n):∃Gr:Nat→List Int,∀p:Nat,p<n→IsGr f (p:Int) (Gr p):=by
 classical
 refine⟨fun p=>(plI n).filter fun x=>decide (Rch f (p:Int) x∧Rch f x p),fun p hp=>⟨JP n _,fun x=>?_⟩⟩
 rw[List.mem_filter,JO,decide_eq_true_eq]
 exact⟨fun h=>h.2,fun h=>⟨YB hf (by omega) h.1,h⟩⟩
theorem Zn:∀{l r:List Int},l.Pairwise (·<·)→r.Pairwise (·<·)→(∀x,x∈l↔x∈r)→l=r
 | [],[],_,_,_=>rfl
 | [],y::r,_,_,h=>absurd ((h y).mpr List.mem_cons_self) (by simp)
 | x::l,[],_,_,h=>absurd ((h x).mp List.mem_cons_self) (by simp)
 | x::l,y::r,h1,h2,h=>by
  have a:=List.pairwise_cons.mp h1
  have b:=List.pairwise_cons.mp h2
  have e:x=y:=by
   rcases List.mem_cons.mp ((h x).mp List.mem_cons_self)with z|z
   ·exact z
   ·rcases List.mem_cons.mp ((h y).mpr List.mem_cons_self) with w | w
    ·exact w.symm
    ·have:=a.1 y w
     have:=b.1 x z
     omega
  subst e
  rw[Zn a.2 b.2 fun z=>?_]
  constructor
  ·intro hz
   rcases List.mem_cons.mp ((h z).mp (List.mem_cons_of_mem _ hz))with w|w
   ·subst w
    have:=a.1 z hz
    omega
   ·exact w
  ·intro hz
   rcases List.mem_cons.mp ((h z).mpr (List.mem_cons_of_mem _ hz))with w|w
   ·subst w
    have:=b.1 z hz
    omega
   ·exact w
theorem closed_rch{f:Nat→List Int}{p:Int}{F:List Int}(h1:p∈F)(h2:∀x∈F,Rch f p x)(h3:∀x∈F,∀b∈f x.toNat,b∈F):∀x,x∈F↔Rch f p x:=fun x=>by
 refine⟨h2 x,fun h=>?_⟩
 induction h with
 | refl=>exact h1
 | step _ e ih=>exact h3 _ ih _ e
def grL(Gr:Nat→List Int):Nat→List (List Int)
 | 0=>[]
 | k + 1=>grL Gr k++(if (Gr k).head?=some (k:Int) then [Gr k] else [])
theorem mem_grL{Gr:Nat→List Int}{R:List Int}:∀{k:Nat},R∈grL Gr k↔∃j,j<k∧R=Gr j∧(Gr j).head?=some (j:Int)
 | 0=>⟨(fun h=>nomatch h),fun ⟨_,h,_⟩=>by omega⟩
 | k + 1=>by
  show R∈grL Gr k++_↔_
  rw[List.mem_append,mem_grL (k:=k)]
  constructor
  ·rintro (⟨j,h1,h2,h3⟩ | h)
   ·exact ⟨j,by omega,h2,h3⟩
   ·by_cases c:(Gr k).head?=some (k:Int)
    ·rw [if_pos c,List.mem_singleton] at h
     exact⟨k,by omega,h,c⟩
    ·rw [if_neg c] at h
     cases h
  ·rintro ⟨j,h1,h2,h3⟩
   by_cases e:j=k
   ·subst e
    rw[if_pos h3]
    exact .inr (by rw[h2];exact List.mem_singleton.mpr rfl)
   ·exact .inl ⟨j,by omega,h2,h3⟩
theorem WU{R:List Int}(h:R.Pairwise (·<·)){x:Int}(hx:x∈R):∃y,R.head?=some y∧y∈R∧y≤x:=by
 cases R with
 | nil=>cases hx
 | cons y r =>
  refine⟨y,rfl,List.mem_cons_self,?_⟩
  rcases List.mem_cons.mp hx with z|z
  ·omega
  ·have:=(List.pairwise_cons.mp h).1 x z
   omega
theorem Qa(Gr:Nat→List Int):∀k,(grL Gr k).length≤k
 | 0=>Nat.le_refl _
 | k + 1=>by
  show(grL Gr k++_).length≤_
  have:=Qa Gr k
  rw[List.length_append]
  split
  ·rw [List.length_singleton]
   omega
  ·rw [List.length_nil]
   omega
end Hk
namespace Hk
open PySem L2 PySem.W
section
variable{P:Program}{w:World}{K:Frag}{mg:Str→Option Value}{base:Heap}
def spCome:Sp:=fun vs H Q _=>∃(l:Addr)(rows:List Addr)(f:Nat→List Int)(p:Nat),vs=[.ref l,.int (p:Int)]∧LL H l rows f∧p<rows.length∧rows.length≤40∧(∀i,(f i).length≤1000)∧(∀q:Nat,∀b∈f q,0≤b∧b<rows.length) ∧
 ∀(d:Addr)(F:List Int)(H':Hp),Same H H'→H d=none→F.Nodup→(∀x,x∈F↔Rch f p x)→H' d=some (.dK (mkv F))→Q (.ref d) H'
theorem kn_come(D:DefAt K mg "come_places" Zy ["leads","place"]) :Kn P w K mg base 1 "come_places" ["leads","place"] spCome:=by
 have sc:FnScope ["leads","place","found","waiting","here","b"] ["leads","place"] (Jl Zy):=⟨rfl,rfl,rfl,by decide +kernel,rfl,by decide +kernel,by decide +kernel⟩
 refine D.kn (N:=["leads","place","found","waiting","here","b"]) sc (fun vs H Q E h=>?_) (fun fa cdv A outer s H vs Q E hr h=>?_)
 ·obtain ⟨l,rows,f,p,rfl,_⟩:=h
  rfl
 ·obtain ⟨l,rows,f,p,rfl,L,hp,l40,lf,hf,kk⟩:=h
  have hu:=YW hr
  refine⟨_,(Jd (Jn (i:=2) sc.nd rfl (Or.inl rfl) (pe_disp (pps_cons (pv 1) JY pps_nil) rfl rfl (by simp) (by decide))) (Jd (Jn (i:=3) sc.nd rfl (Or.inl rfl) (JZ (Ja (pv 1) Jc))) (Jd (Wp PassesOwn.never (Js (Ui (Nat.lt_of_succ_lt hu)) (pv 3) (JZ Jc) (Jq _)) (Jd (Jn (i:=4) sc.nd rfl (Or.inl rfl) (pe_bm0 PySem.F.plainAttrs_list PySem.F.slot_list_pop PySem.F.type_list_pop mt_pop (pv 3))) (Je (Yi PassesOwn.never rfl (JR (Jx JL (pv 0) (pv 4) (fun _ _=>rfl))) (Jk (i:=5) sc.nd rfl (Or.inl rfl)) (Je (JU (YU (ZG hu (pv 5) (pv 2))) (Jd (YH hu (pv 2) (pv 5) JY rfl) (Je (Zo (UJ PySem.F.plainAttrs_list PySem.F.slot_list_append PySem.F.type_list_append YE (pv 3) (Ja (pv 5) Jc))))) Jy)))))) (Je (Jm (pv 2)))))),?_⟩
  have c0:0≤sizeLine:=by decide
  have c1:1≤sizeLine:=by decide
  refine fun d hd=>⟨_,rfl,Jb,[(Sum.inl (p:Int),.bl true)],rfl,by simp,?_⟩
  rw[upd_upd]
  have s1:=Same.upd (o:=.dK (mkv [(p:Int)])) hd
  have hd1:(upd H d (.dK (mkv [(p:Int)]))) d=some (.dK (mkv [(p:Int)])):=Jb
  show Zr 2 (.ref d) _ (upd H d (.dK (mkv [(p:Int)]))) _
  generalize upd H d (.dK (mkv [(p:Int)]))=H1 at s1 hd1
  refine Jo ?_
  dsimp only[List.set]
  refine⟨_,rfl,c1,fun y hy=>?_⟩
  have hyN:=Ya s1 hy
  have s2:=s1.trans (Same.upd (o:=.lst [.int (p:Int)]) hy)
  refine Jo ?_
  dsimp only[List.set]
  have ndy:d≠y:=fun z=>by
   rw[← z,hd1]at hy
   cases hy
  have keep:∀{H3:Hp}{o1 o2:HO},Same H H3→Same H (upd (upd H3 d o1) y o2):=fun {H3 o1 o2} s3 b o e=>by
   rw[Jh (Jg e hyN),Jh (Jg e hd)]
   exact s3 _ _ e
  have bd:∀x,Rch f (p:Int) x→0≤x∧x<rows.length:=fun x hx=>YB hf (by omega) hx
  refine⟨fun μ σ H3=>∃(F W:List Int)(v4 v5:Option V),σ=[some (.ref l),some (.int (p:Int)),some (.ref d),some (.ref y),v4,v5]∧Same H H3∧H3 d=some (.dK (mkv F))∧H3 y=some (.lst (W.map V.int))∧F.Nodup∧(p:Int)∈F∧(∀x∈F,Rch f p x)∧(∀x∈W,x∈F)∧(∀x∈F,x∉W→∀b∈f x.toNat,b∈F)∧2*(rows.length-F.length)+W.length≤100∧μ=2*(rows.length-F.length)+W.length,⟨_,[(p:Int)],[(p:Int)],_,_,rfl,s2,Same.upd hy _ _ hd1,Jb,List.pairwise_singleton _ _,List.mem_cons_self,fun x hx=>?_,fun x hx=>hx,fun x hx hn=>absurd hx hn,?_,rfl⟩,?_⟩
  ·rw [List.mem_singleton.mp hx]
   exact .refl
  ·rw [List.length_singleton]
   omega
  rintro μ σ H3 ⟨F,W,v4,v5,rfl,s3,hd3,hy3,nd,pF,rF,wF,cl,hm,rfl⟩
  have lF:=Yw (n:=rows.length) nd fun x hx=>bd x (rF x hx)
  refine⟨_,rfl,c0,fun z hz=>?_⟩
  have sz:=Same.upd (o:=.lst []) hz
  have s3z:=s3.trans sz
  have hd3z:=sz _ _ hd3
  have hy3z:=sz _ _ hy3
  refine⟨y,z,_,rfl,rfl,SqL.of hy3z,SqL.of Jb,_,rfl,?_⟩
  generalize upd H3 z (.lst [])=H4 at s3z hd3z hy3z
  refine ite2 (fun c=>?_) (fun c=>?_)
  ·have wne:W≠[]:=fun e=>by
    rw[e]at c
    exact absurd c (by decide)
   obtain⟨W',h,rfl⟩:∃W' h,W=W'++[h]:=⟨W.dropLast,W.getLast wne,(List.dropLast_concat_getLast wne).symm⟩
   have hF:h∈F:=wF h (List.mem_append_right _ (List.mem_singleton.mpr rfl))
   have hb:=bd h (rF h hF)
   obtain⟨j,rfl⟩:∃j:Nat,h=(j:Int):=⟨h.toNat,by omega⟩
   refine⟨fun σ' H'=>∃μ',μ'<2*(rows.length-F.length)+(W'++[(j:Int)]).length∧∃(F W:List Int)(v4 v5:Option V),σ'=[some (.ref l),some (.int (p:Int)),some (.ref d),some (.ref y),v4,v5]∧Same H H'∧H' d=some (.dK (mkv F))∧H' y=some (.lst (W.map V.int))∧F.Nodup∧(p:Int)∈F∧(∀x∈F,Rch f p x)∧(∀x∈W,x∈F)∧(∀x∈F,x∉W→∀b∈f x.toNat,b∈F)∧2*(rows.length-F.length)+W.length≤100∧μ'=2*(rows.length-F.length)+W.length,fun _ _ z=>z,?_⟩
   rw[List.length_append,List.length_singleton]at hm
   have lW:((W'++[(j:Int)]).map V.int).length=W'.length+1:=by rw[List.length_map,List.length_append,List.length_singleton]
   refine⟨_,rfl,.inl ⟨rfl,_,SqL.of hy3z⟩,y,_,.int (j:Int),rfl,rfl,hy3z,?_,?_⟩
   ·rw [lW,List.map_append,List.getElem?_append_right (by rw [List.length_map]; omega),List.length_map]
    simp
   have dl:((W'++[(j:Int)]).map V.int).dropLast=W'.map V.int:=by
    rw[List.map_append]
    exact List.dropLast_concat
   rw[dl]
   have s5:Same H (upd H4 y (.lst (W'.map V.int))):=fun b o e=>by
    rw[Jh (Jg e hyN)]
    exact s3z _ _ e
   have hd5:(upd H4 y (.lst (W'.map V.int))) d=some (.dK (mkv F)):=by
    rw[Jh ndy]
    exact hd3z
   have hy5:(upd H4 y (.lst (W'.map V.int))) y=some (.lst (W'.map V.int)):=Jb
   generalize upd H4 y (.lst (W'.map V.int))=H5 at s5 hd5 hy5
   refine Jo ?_
   dsimp only[List.set]
   have hj:j<rows.length:=by omega
   have er:rows[j]?=some rows[j]:=by simp[hj]
   have lfj:=lf j
   refine⟨_,rfl,_,rfl,l,_,_,.ref rows[j],rfl,rfl,SqL.of (L.mono s5).top,Yx (by rw[List.getElem?_map,er];rfl),rows[j],rfl,⟨_,SqL.of ((L.mono s5).row j _ er)⟩,YO (K:=K) (xs:=(f j).map V.int) (fun i σ H6=>∃(F2 W2:List Int)(v5:Option V),σ=[some (.ref l),some (.int (p:Int)),some (.ref d),some (.ref y),some (.int (j:Int)),v5]∧Same H H6∧H6 d=some (.dK (mkv F2))∧H6 y=some (.lst (W2.map V.int))∧F2.Nodup∧(∀x∈F,x∈F2)∧(∀x∈F2,Rch f p x)∧(∀x∈W2,x∈F2)∧(∀x∈F2,x∉W2→x≠(j:Int)→∀b∈f x.toNat,b∈F2)∧(∀b∈(f j).take i,b∈F2)∧2*(rows.length-F2.length)+W2.length≤2*(rows.length-F.length)+W'.length) ⟨F,W',_,rfl,s5,hd5,hy5,nd,fun x hx=>hx,rF,fun x hx=>wF x (List.mem_append_left _ hx),fun x hx hn hne=>cl x hx (fun z=>?_),fun b hb=>(by simp at hb),Nat.le_refl _⟩ (fun i σ H6 _ ⟨_,_,_,_,s6,_⟩=>SqL.of ((L.mono s6).row j _ er)) ?_ ?_⟩
   ·rcases List.mem_append.mp z with z | z
    ·exact hn z
    ·exact hne (List.mem_singleton.mp z)
   ·rintro i x σ H6 hx ⟨F2,W2,v5,rfl,s6,hd6,hy6,nd2,sub,r2,w2,cl2,tk,me⟩
    rw[List.getElem?_map]at hx
    obtain⟨b,hb',rfl⟩:=Option.map_eq_some_iff.mp hx
    have hi:=(List.getElem?_eq_some_iff.mp hb').1
    have g1:DGet H6 d (.int b) (valV (mkv F2) (Sum.inl b)):=DGet.k (k:=Sum.inl b) hd6
    refine⟨_,rfl,_,rfl,d,_,rfl,g1,_,rfl,?_⟩
    rw[mkv_some]
    have ts:=Ju _ _ _ hb'
    refine ite2 (fun c2=>?_) (fun c2=>?_)
    ·have c2:b ∉ F2:=by simpa using c2
     have rb:Rch f (p:Int) b:=.step (q:=(j:Int)) (rF _ hF) (List.mem_of_getElem? hb')
     have nd3:(F2++[b]).Nodup:=List.nodup_append.mpr ⟨nd2,List.pairwise_singleton _ _,fun a ha b' hb2 e=>by
      rw[List.mem_singleton]at hb2
      subst hb2 e
      exact c2 ha⟩
     have r3:∀x∈F2++[b],Rch f (p:Int) x:=fun x hx=>by
      rcases List.mem_append.mp hx with z|z
      ·exact r2 x z
      ·rw [List.mem_singleton.mp z]
       exact rb
     have l3:=Yw (n:=rows.length) nd3 fun x hx=>bd x (r3 x hx)
     rw[List.length_append,List.length_singleton]at l3
     refine⟨_,rfl,_,rfl,d,_,rfl,DPut.k (k:=Sum.inl b) hd6 (by rw[mkv_len];exact Jj (by omega)),?_⟩
     rw[mkv_put c2]
     have hy7:(upd H6 d (.dK (mkv (F2++[b])))) y=some (.lst (W2.map V.int)):=by
      rw[Jh (Ne.symm ndy)]
      exact hy6
     refine⟨_,rfl,.inl ⟨rfl,_,SqL.of hy7⟩,_,rfl,y,_,_,rfl,rfl,hy7,by rw[List.length_map];exact Wc (by omega),?_⟩
     refine⟨F2++[b],W2++[b],_,rfl,keep s6,?_,?_,nd3,fun x hx=>List.mem_append_left _ (sub x hx),r3,fun x hx=>?_,fun x hx hn hne b2 hb2=>?_,fun b2 hb2=>?_,?_⟩
     ·rw [Jh ndy]
      exact Jb
     ·rw [Jb,List.map_append]
      rfl
     ·rcases List.mem_append.mp hx with z | z
      ·exact List.mem_append_left _ (w2 x z)
      ·exact List.mem_append_right _ z
     ·rcases List.mem_append.mp hx with z | z
      ·exact List.mem_append_left _ (cl2 x z (fun q=>hn (List.mem_append_left _ q)) hne b2 hb2)
      ·exact absurd (List.mem_append_right _ z) hn
     ·rw [ts] at hb2
      rcases List.mem_append.mp hb2 with z|z
      ·exact List.mem_append_left _ (tk b2 z)
      ·rw [List.mem_singleton.mp z]
       exact List.mem_append_right _ (List.mem_singleton.mpr rfl)
     ·rw [List.length_append,List.length_append,List.length_singleton]
      omega
    ·have c2:b∈F2:=by simpa using c2
     refine⟨F2,W2,_,rfl,s6,hd6,hy6,nd2,sub,r2,w2,cl2,fun b2 hb2=>?_,me⟩
     rw[ts]at hb2
     rcases List.mem_append.mp hb2 with z|z
     ·exact tk b2 z
     ·rw [List.mem_singleton.mp z]
      exact c2
   ·rintro σ H6 ⟨F2,W2,v5,rfl,s6,hd6,hy6,nd2,sub,r2,w2,cl2,tk,me⟩
    rw[List.length_map,List.take_of_length_le (Nat.le_refl _)]at tk
    refine⟨_,?_,F2,W2,_,_,rfl,s6,hd6,hy6,nd2,sub _ pF,r2,w2,fun x hx hn b hb2=>?_,?_,rfl⟩
    ·rw [List.length_append,List.length_singleton]
     omega
    ·by_cases e:x=(j:Int)
     ·subst e
      exact tk b hb2
     ·exact cl2 x hx hn e b hb2
    ·omega
  ·have we:W=[]:=by
    cases W with
    | nil=>rfl
    | cons x r=>exact absurd rfl c
   subst we
   refine⟨_,rfl,kk d F H4 s3z hd nd ?_ hd3z⟩
   exact closed_rch pF rF fun x hx b hb2=>cl x hx (by simp) b hb2
theorem sorted_cm{f:Nat→List Int}{p:Int}{F ns:List Int}(nd:F.Nodup)(hF:∀x,x∈F↔Rch f p x)(pm:ns.Perm F)(pw:ns.Pairwise (·≤·)):IsCm f p ns :=
 ⟨(List.Pairwise.and pw (pm.nodup_iff.mpr nd)).imp fun {a b} ⟨x,y⟩=>by
  have:a≠b:=y
  omega,fun x=>(pm.mem_iff).trans (hF x)⟩
theorem ldF_len{H:Hp}{a t:Addr}{m:Int}{us:List V}{ars:List (Int×Int)}(W:Web H a t m us ars):∀i,(ldF ars i).length≤1000:=fun i=>by
 have:=ldI_len ars (i:Int)
 have:=JS W.ars
 have:=W.len
 show(ldI ars i).length≤1000
 omega
def WZ:Sp:=fun vs H Q _=>∃(a t:Addr)(m:Int)(us:List V)(ars:List (Int×Int))(Gr:Nat→List Int),vs=[.ref a]∧Web H a t m us ars∧JE m ars∧m≤40∧(∀p:Nat,p<m.toNat→IsGr (ldF ars) (p:Int) (Gr p)) ∧
 ∀(l:Addr)(zs:List V)(H':Hp),Same H H'→H l=none→H' l=some (.lst zs)→Tpi H' zs (grL Gr m.toNat)→Q (.ref l) H'
theorem tpi_mono{H H':Hp}{zs:List V}{L:List (List Int)}(h:Tpi H zs L)(s:Same H H'):Tpi H' zs L:=Paired.mapP h fun _ _ ⟨p,e,z⟩=>⟨p,e,s _ _ z⟩
theorem tpi_put{H:Hp}{zs:List V}{L:List (List Int)}{d:Addr}{xs ys:List V}(h:Tpi H zs L)(hd:H d=some (.lst xs)):Tpi (upd H d (.lst ys)) zs L:=Paired.mapP h fun _ _ ⟨p,e,z⟩=>⟨p,e,by rw[Jh (ZK z hd (fun q=>nomatch q))];exact z⟩
theorem kn_groups(D:DefAt K mg "groups_of" Wh ["web"])(fr:Free mg ["enumerate","range","sorted","tuple"])(ka:Kn P w K mg base 1 "all_leads" ["web"] Zf)(kc:Kn P w K mg base 1 "come_places" ["leads","place"] spCome):Kn P w K mg base 2 "groups_of" ["web"] WZ:=by
 have sc:FnScope ["web","leads","comes","groups","place","found","group"] ["web"] (Jl Wh):=⟨rfl,rfl,rfl,by decide +kernel,rfl,by decide +kernel,by decide +kernel⟩
 refine D.kn (N:=["web","leads","comes","groups","place","found","group"]) sc (fun vs H Q E h=>?_) (fun fa cdv A outer s H vs Q E hr h=>?_)
 ·obtain ⟨a,t,m,us,ars,Gr,rfl,_⟩:=h
  rfl
 ·obtain ⟨a,t,m,us,ars,Gr,rfl,W,ga,m40,hG,kk⟩:=h
  have hu:=YW hr
  have r1:=hr.mono (j:=1) (by decide)
  have m_enumerate:=fr "enumerate" (by simp)
  have m_range:=fr "range" (by simp)
  have m_sorted:=fr "sorted" (by simp)
  have m_tuple:=fr "tuple" (by simp)
  have nd0:(["place","leads"]:List Str).Nodup:=by decide +kernel
  have nd1:(["other","place","comes"]:List Str).Nodup:=by decide +kernel
  have nd2:(["other","place","comes"]:List Str).Nodup:=by decide +kernel
  refine⟨_,(Jd (Jn (i:=1) sc.nd rfl (Or.inr rfl) (Jp ka r1 (Ja (pv 0) Jc))) (Jd (Jn (i:=2) sc.nd rfl (Or.inr rfl) (Ye (N:=["place","leads"]) (src:=[none,some 1]) rfl ⟨rfl,rfl,rfl,rfl,⟨⟨rfl,rfl⟩,trivial⟩,rfl,rfl,rfl⟩ (Jw (i:=0) rfl) (JQ rfl m_range (Ja (Jx JA (pv 0) Ji (fun _ _=>rfl)) Jc)) (fun C s H fp=>⟨(Jk (i:=0) nd0 rfl (Or.inl rfl)),JG,(Jp kc r1 (Ja (pv 1) (Ja (pv 0) Jc)))⟩))) (Jd (Jn (i:=3) sc.nd rfl (Or.inl rfl) (JZ Jc)) (Jd (Yi PassesOwn.never rfl (pi_enumL rfl m_enumerate (Ja (pv 2) Jc)) (YV (n:=2) rfl (Jz (Jk (i:=4) sc.nd rfl (Or.inr rfl)) (Jz (Jk (i:=5) sc.nd rfl (Or.inl rfl)) Yr))) (Jd (Jn (i:=6) sc.nd rfl (Or.inl rfl) (JK JC rfl m_tuple JB (Ja (Ye (N:=["other","place","comes"]) (src:=[none,some 4,some 2]) rfl ⟨rfl,rfl,rfl,rfl,⟨⟨rfl,rfl⟩,⟨⟨rfl,rfl⟩,trivial⟩⟩,rfl,rfl,rfl⟩ (Jw (i:=0) rfl) (JR (Jr (Up rfl) rfl m_sorted Yn (Ja (pv 5) Jc))) (fun C s H fp=>⟨(Jk (i:=0) nd2 rfl (Or.inl rfl)),(Yb (YU (Wr hu (pv 1) (Jx (r:=rIxL K) JL (pv 2) (pv 0) (fun _ _=>rfl))))),(pv 0)⟩)) Jc))) (Je (JU (Js ZI (Jx JA (pv 6) Ji (fun _ _=>rfl)) (pv 4) (Jq _)) (Je (Zo (UJ PySem.F.plainAttrs_list PySem.F.slot_list_append PySem.F.type_list_append YE (pv 3) (Ja (pv 6) Jc)))) Jy)))) (Je (Jm (pv 3))))))),?_⟩
  have c0:0≤sizeLine:=by decide
  have lf:=ldF_len W
  have mb:=W.mb
  have hf:∀q:Nat,∀b∈ldF ars q,0≤b∧b<(m.toNat:Nat):=fun q b hb=>(ZM ga q b hb).1
  refine⟨_,rfl,a,t,m,us,ars,rfl,W,ga,fun l rows H1 s1 lr L=>?_⟩
  have L:LL H1 l rows (ldF ars):=L
  refine Jo ?_
  dsimp only[List.set]
  refine⟨_,rfl,a,_,_,_,rfl,rfl,SqT.of (s1 _ _ W.top),rfl,m,rfl,by omega,by omega,Zd (n:=m.toNat) (fun i zs H'=>∃(ds:List Addr)(Fs:List (List Int)),zs=ds.map V.ref∧ds.length=i∧Fs.length=i∧Same H1 H'∧∀(j:Nat) d F,ds[j]?=some d→Fs[j]?=some F→F.Nodup∧(∀x,x∈F↔Rch (ldF ars) (j:Int) x)∧H' d=some (.dK (mkv F))) ⟨[],[],rfl,rfl,rfl,Same.refl _,fun j d F e=>(nomatch e)⟩ ?_ ?_ ?_⟩
  ·rintro i zs H' hi ⟨ds,Fs,rfl,rfl,_⟩
   rw[List.length_map]
   exact Nat.le_of_lt (Jj (by omega))
  rotate_left
  ·rintro i zs H' hi ⟨ds,Fs,rfl,ld,lF,s2,hds⟩
   rw[Int.zero_add]
   refine⟨_,rfl,_,rfl,l,rows,ldF ars,i,rfl,L.mono s2,by omega,by omega,lf,fun q b hb=>by rw[lr];exact hf q b hb,fun d F H3 s3 hn nd hF hd=>nx hi ⟨ds++[d],Fs++[F],by rw[List.map_append];rfl,by rw[List.length_append,ld];rfl,by rw[List.length_append,lF];rfl,s2.trans s3,fun j d' F' e1 e2=>?_⟩⟩
   by_cases c:j<i
   ·rw [List.getElem?_append_left (by omega)] at e1 e2
    obtain⟨h1,h2,h3⟩:=hds j d' F' e1 e2
    exact⟨h1,h2,s3 _ _ h3⟩
   ·have ej:j=i:=by
     have:=(List.getElem?_eq_some_iff.mp e1).1
     rw[List.length_append,List.length_singleton]at this
     omega
    subst ej
    rw[List.getElem?_append_right (by omega),ld,Nat.sub_self]at e1
    rw[List.getElem?_append_right (by omega),lF,Nat.sub_self]at e2
    have e1:d'=d:=by simpa using e1.symm
    have e2:F'=F:=by simpa using e2.symm
    subst e1 e2
    exact⟨nd,hF,hd⟩
  rintro zs H2 ⟨ds,Fs,rfl,ld,lF,s2,hds⟩ cl hcl
  have s3:=s1.trans (s2.trans (Same.upd (o:=.lst (ds.map V.ref)) hcl))
  have hds3:∀(j:Nat) d F,ds[j]?=some d→Fs[j]?=some F→F.Nodup∧(∀x,x∈F↔Rch (ldF ars) (j:Int) x)∧(upd H2 cl (.lst (ds.map V.ref))) d=some (.dK (mkv F)):=fun j d F e1 e2=>⟨(hds j d F e1 e2).1,(hds j d F e1 e2).2.1,Same.upd hcl _ _ (hds j d F e1 e2).2.2⟩
  have hcl3:(upd H2 cl (.lst (ds.map V.ref))) cl=some (.lst (ds.map V.ref)):=Jb
  generalize upd H2 cl (.lst (ds.map V.ref))=H3 at s3 hds3 hcl3
  refine Jo ?_
  dsimp only[List.set]
  refine⟨c0,fun g hg=>?_⟩
  have hgN:=Ya s3 hg
  have s4:=Same.upd (o:=.lst []) hg
  refine Jo ?_
  dsimp only[List.set]
  have ldm:(ds.map V.ref).length=m.toNat:=by rw[List.length_map,ld]
  have cut:∀p:Nat,p<m.toNat→∀{ns:List Int},IsCm (ldF ars) (p:Int) ns→(ns.filter fun x=>decide ((p:Int)∈Fs.getD x.toNat []))=Gr p:=fun p hp {ns} cm=>by
   refine Zn (List.Pairwise.filter _ cm.rise) (hG p hp).rise fun x=>?_
   rw[List.mem_filter,cm.mem,(hG p hp).mem,decide_eq_true_eq]
   refine and_congr_right fun hx=>?_
   have xb:=YB hf (by omega) hx
   obtain⟨j,rfl⟩:∃j:Nat,x=(j:Int):=⟨x.toNat,by omega⟩
   have hj1:j<ds.length:=by omega
   have hj2:j<Fs.length:=by omega
   have:=(hds3 j ds[j] Fs[j] (by simp[hj1]) (by simp[hj2])).2.1 p
   rw[← this,Int.toNat_natCast,List.getD_eq_getElem?_getD,List.getElem?_eq_getElem hj2]
   rfl
  refine⟨_,rfl,cl,_,rfl,s4 _ _ hcl3,for_enumL (xs:=ds.map V.ref) (fun i σ H5=>∃(zs:List V)(v4 v5 v6:Option V),σ=[some (.ref a),some (.ref l),some (.ref cl),some (.ref g),v4,v5,v6]∧Same H3 H5∧H5 g=some (.lst zs)∧Tpi H5 zs (grL Gr i)) ⟨[],_,_,_,rfl,s4,Jb,.nil⟩ (fun i σ H5 _ ⟨_,_,_,_,_,s5,_⟩=>s5 _ _ hcl3) ?_ ?_⟩
  ·rintro i v σ H5 pr hv ⟨zs,v4,v5,v6,rfl,s5,hg5,tz⟩ hpr
   rw[List.getElem?_map]at hv
   obtain⟨d,hd,rfl⟩:=Option.map_eq_some_iff.mp hv
   have hi:i<ds.length:=(List.getElem?_eq_some_iff.mp hd).1
   have hi2:i<Fs.length:=by omega
   have hFi:Fs[i]?=some Fs[i]:=by simp[hi2]
   obtain⟨nd,hF,hd3⟩:=hds3 i d _ hd hFi
   generalize Fs[i]=F at hFi nd hF hd3
   have s6:=s5.trans (Same.upd (o:=.tup [.int (i:Int),.ref d]) hpr)
   have hg6:=Same.upd (o:=.tup [.int (i:Int),.ref d]) hpr _ _ hg5
   have tz6:=tpi_mono tz (Same.upd (o:=.tup [.int (i:Int),.ref d]) hpr)
   refine⟨pr,_,rfl,SqT.of Jb,rfl,_,_,rfl,_,_,rfl,rfl,?_⟩
   generalize upd H5 pr (.tup [.int (i:Int),.ref d])=H6 at s6 hg6 tz6
   have lFb:=Yw (n:=m.toNat) nd fun x hx=>YB hf (by omega) ((hF x).mp hx)
   refine⟨_,rfl,d,_,F,rfl,s6 _ _ hd3,mkv_keys F,by omega,fun D' ns H7 s7 hD pm pw=>?_⟩
   have cm:=sorted_cm nd hF pm pw
   have s37:=s6.trans s7
   have lns:ns.length=F.length:=pm.length_eq
   refine⟨D',rfl,⟨_,SqL.of hD⟩,UY (xs:=ns.map V.int) (fun k zs H8=>Same H7 H8∧zs=((ns.take k).filter fun x=>decide ((i:Int)∈Fs.getD x.toNat [])).map V.int) ⟨Same.refl _,rfl⟩ ?_ ?_ ?_⟩
   ·rintro k zs H8 hk ⟨s8,rfl⟩
    refine⟨SqL.of (s8 _ _ hD),?_⟩
    have:=List.length_filter_le (fun x=>decide ((i:Int)∈Fs.getD x.toNat [])) (ns.take k)
    rw[List.length_take]at this
    rw[List.length_map]
    exact Nat.le_of_lt (Jj (by omega))
   ·rintro zs' H8 ⟨s8,rfl⟩ y hy
    rw[List.length_map,List.take_of_length_le (Nat.le_refl _),cut i (by omega) cm]
    refine⟨y,_,rfl,.inl ⟨SqL.of Jb,fun u hu'=>?_⟩⟩
    have s9:=s7.trans (s8.trans ((Same.upd (o:=.lst ((Gr i).map V.int)) hy).trans (Same.upd (o:=.tup ((Gr i).map V.int)) hu')))
    have hu9:(upd (upd H8 y (.lst ((Gr i).map V.int))) u (.tup ((Gr i).map V.int))) u=some (.tup ((Gr i).map V.int)):=Jb
    have hg9:=s9 _ _ hg6
    have tz9:=tpi_mono tz6 s9
    have s39:=s6.trans s9
    generalize upd (upd H8 y (.lst ((Gr i).map V.int))) u (.tup ((Gr i).map V.int))=H9 at hu9 hg9 tz9 s39
    refine Jo ?_
    dsimp only[List.set]
    have gi:=hG i (by omega)
    obtain⟨hd0,e1,e2,e3⟩:=WU gi.rise ((gi.mem (i:Int)).mpr ⟨.refl,.refl⟩)
    have lgr:=Qa Gr i
    have lz:zs.length=(grL Gr i).length:=Paired.length tz9
    refine⟨_,rfl,u,_,_,.int hd0,rfl,rfl,SqT.of hu9,?_,_,rfl,rfl,_,rfl,ite2 (fun c=>?_) (fun c=>?_)⟩
    ·refine Yx (j:=0) ?_
     rw[List.getElem?_map,← List.head?_eq_getElem?,e1]
     rfl
    ·have c:=of_decide_eq_true c
     have c:hd0=(i:Int):=by injection c
     subst c
     refine⟨_,rfl,.inl ⟨rfl,_,SqL.of hg9⟩,_,rfl,g,_,_,rfl,rfl,hg9,Wc (by omega),?_⟩
     refine⟨zs++[.ref u],_,_,_,rfl,fun b o e=>?_,Jb,?_⟩
     ·rw [Jh (Jg e hg)]
      exact s39 _ _ e
     ·show Tpi _ _ (grL Gr i++_)
      rw[if_pos e1]
      exact Paired.snoc (tpi_put tz9 hg9) ⟨u,rfl,by rw[Jh (ZK hu9 hg9 (fun q=>nomatch q))];exact hu9⟩
    ·have c:(Gr i).head?≠some (i:Int):=fun z=>c (decide_eq_true (by rw [e1] at z; rw [Option.some.inj z]))
     refine⟨zs,_,_,_,rfl,s39,hg9,?_⟩
     show Tpi _ _ (grL Gr i++_)
     rw[if_neg c,List.append_nil]
     exact tz9
   ·rintro k x zs H8 hx hk ⟨s8,rfl⟩
    rw[List.getElem?_map]at hx
    obtain⟨q,hq,rfl⟩:=Option.map_eq_some_iff.mp hx
    have qb:=YB hf (by omega) ((cm.mem q).mp (List.mem_of_getElem? hq))
    obtain⟨j,rfl⟩:∃j:Nat,q=(j:Int):=⟨q.toNat,by omega⟩
    have hj1:j<ds.length:=by omega
    have hj2:j<Fs.length:=by omega
    have e1:ds[j]?=some ds[j]:=by simp[hj1]
    have e2:Fs[j]?=some Fs[j]:=by simp[hj2]
    have hdj:=(hds3 j _ _ e1 e2).2.2
    have s38:=s37.trans s8
    have fs:=JH (fun x=>decide ((i:Int)∈Fs.getD x.toNat [])) ns k _ hq
    have eg:Fs.getD ((j:Nat):Int).toNat []=Fs[j]:=by rw[Int.toNat_natCast,List.getD_eq_getElem?_getD,e2];rfl
    have g1:DGet H8 ds[j] (.int (i:Int)) (valV (mkv Fs[j]) (Sum.inl (i:Int))):=DGet.k (k:=Sum.inl (i:Int)) (s38 _ _ hdj)
    refine⟨_,rfl,_,rfl,_,rfl,cl,_,_,.ref ds[j],rfl,rfl,SqL.of (s38 _ _ hcl3),Yx (by rw[List.getElem?_map,e1];rfl),ds[j],_,rfl,g1,_,rfl,?_⟩
    rw[mkv_some]
    rw[eg]at fs
    refine ite2 (fun c=>?_) (fun c=>?_)
    ·rw [if_pos c] at fs
     refine⟨_,rfl,nx hk ⟨s8,?_⟩⟩
     rw[fs,List.map_append]
     rfl
    ·rw [if_neg c,List.append_nil] at fs
     refine nx hk ⟨s8,?_⟩
     rw[fs]
  ·rintro σ H5 ⟨zs,v4,v5,v6,rfl,s5,hg5,tz⟩
   rw[ldm]at tz
   exact⟨_,rfl,kk g zs H5 (s3.trans s5) hgN hg5 tz⟩
end
end Hk
namespace L2
open PySem PySem.Spec PyProof.Rows
theorem for_enumT{a:Addr}{xs:List V}{g:TG}{tb:TS}{D:Ends}{σ:St}{H:Hp}(Pv:Nat→St→Hp→Prop)(h0:Pv 0 σ H)(hl:∀i σ H,i≤xs.length→Pv i σ H→H a=some (.tup xs))
  (hs:∀(i:Nat) v σ H p,xs[i]?=some v→Pv i σ H→H p=none→g (.ref p) σ (upd H p (.tup [.int i,v])) fun σ2 H2=>tb { D with nx:=Pv (i+1),ct:=Pv (i+1),bk:=D.nx } σ2 H2) (hd:∀σ H,Pv xs.length σ H→D.nx σ H) :
  ∃W:Nat→Nat→St→Hp→Prop,(∃m,W 0 m σ H)∧∀i m σ H,W i m σ H →
   ((Ite a).stop i H∧D.nx σ H)∨((Ite a).go i H∧∃N:St→Hp→Prop,(∀σ' H',N σ' H'→∃m',m'<m∧W (i+1) m' σ' H')∧∀x H',(Ite a).yld i H x H'→g x σ H' fun σ2 H2=>tb { D with nx:=N,ct:=N,bk:=D.nx } σ2 H2):=by
 refine⟨fun i m σ H=>m=xs.length-i∧i≤xs.length∧Pv i σ H,⟨xs.length,by simp,Nat.zero_le _,h0⟩,?_⟩
 rintro i m σ H ⟨rfl,hi,p⟩
 have q:=hl i σ H hi p
 by_cases hlt:i<xs.length
 ·refine .inr ⟨⟨xs,q,hlt⟩,Pv (i + 1),fun σ' H' p'=>⟨xs.length - (i + 1),by omega,rfl,hlt,p'⟩,fun x H' y=>?_⟩
  obtain⟨p',v,e1,e2,e3,y⟩:=y
  subst e1 e3
  exact hs i v σ H p' (y xs q) p e2
 ·have e:i=xs.length:=by omega
  subst e
  exact .inl ⟨⟨xs,q,rfl⟩,hd σ H p⟩
end L2
namespace Hk
open PySem L2
abbrev Stc(l:List (Int×Int)):Prop:=l.Pairwise fun x y=>lexB x y=true
theorem lexB_irr(x:Int×Int):lexB x x=false:=ZL.mpr (by omega)
theorem lexB_asy{x y:Int×Int}(h:lexB x y=true):lexB y x=false:=by
 rw[Ws]at h
 rw[ZL]
 omega
theorem Stc.uniq:∀{l r:List (Int×Int)},Stc l→Stc r→(∀x,x∈l↔x∈r)→l=r
 | [],[],_,_,_=>rfl
 | [],b::r,_,_,h=>nomatch (h b).mpr List.mem_cons_self
 | a::l,[],_,_,h=>nomatch (h a).mp List.mem_cons_self
 | a::l,b::r,s1,s2,h=>by
  obtain⟨a1,a2⟩:=List.pairwise_cons.mp s1
  obtain⟨b1,b2⟩:=List.pairwise_cons.mp s2
  have e:a=b:=by
   rcases List.mem_cons.mp ((h a).mp List.mem_cons_self)with z|z
   ·exact z
   ·rcases List.mem_cons.mp ((h b).mpr List.mem_cons_self) with y | y
    ·exact y.symm
    ·have:=lexB_asy (b1 a z)
     rw[a1 b y]at this
     cases this
  subst e
  rw[Stc.uniq a2 b2 fun x=>⟨fun hx=>?_,fun hx=>?_⟩]
  ·rcases List.mem_cons.mp ((h x).mp (List.mem_cons_of_mem _ hx)) with z | z
   ·have:=a1 x hx
    rw[z,lexB_irr]at this
    cases this
   ·exact z
  ·rcases List.mem_cons.mp ((h x).mpr (List.mem_cons_of_mem _ hx)) with z | z
   ·have:=b1 x hx
    rw[z,lexB_irr]at this
    cases this
   ·exact z
structure AM(pl:List Int)(ars L:List (Int×Int)):Prop where
 st:Stc L
 mem:∀x,x∈L↔∃a b:Nat,x=((a:Int),(b:Int))∧∃p q,pl[a]?=some p∧pl[b]?=some q∧(p,q)∈ars
theorem AM.uniq{pl:List Int}{ars L M:List (Int×Int)}(x:AM pl ars L)(y:AM pl ars M):L=M:=x.st.uniq y.st fun z=>(x.mem z).trans (y.mem z).symm
def am(pl:List Int)(ars:List (Int×Int)):List (Int×Int):=(ars.filter fun q=>decide (q.1∈pl)&&decide (q.2∈pl)).map fun q=>((pl.idxOf q.1:Nat),(pl.idxOf q.2:Nat))
theorem Za{pl:List Int}{x:Int}(h:x∈pl):pl[pl.idxOf x]?=some x:=by
 rw[List.getElem?_eq_getElem (List.idxOf_lt_length_of_mem h),List.getElem_idxOf]
theorem Yv{pl:List Int}(h:pl.Pairwise (·<·)){i j:Nat}{x y:Int}(hx:pl[i]?=some x)(hy:pl[j]?=some y):(i<j↔x<y)∧(x=y→i=j):=by
 obtain⟨h1,e1⟩:=List.getElem?_eq_some_iff.mp hx
 obtain⟨h2,e2⟩:=List.getElem?_eq_some_iff.mp hy
 have P:=List.pairwise_iff_getElem.mp h
 have lt:∀i j (a:i<pl.length) (b:j<pl.length),i<j→pl[i]<pl[j]:=fun i j a b c=>P i j a b c
 rcases Nat.lt_trichotomy i j with z|z|z
 ·have:=lt i j h1 h2 z
  rw[e1,e2]at this
  exact⟨⟨fun _=>this,fun _=>z⟩,fun e=>by omega⟩
 ·subst z
  rw[e1]at e2
  exact⟨⟨fun q=>by omega,fun q=>by omega⟩,fun _=>rfl⟩
 ·have:=lt j i h2 h1 z
  rw[e1,e2]at this
  exact⟨⟨fun q=>by omega,fun q=>by omega⟩,fun e=>by omega⟩
theorem UO{pl:List Int}{ars:List (Int×Int)}(hp:pl.Pairwise (·<·))(st:Stc ars):AM pl ars (am pl ars):=by
 constructor
 ·unfold am
  refine List.pairwise_map.mpr (List.Pairwise.imp_of_mem (fun {x y} hx hy h=>?_) (st.filter _))
  have mx:=(List.mem_filter.mp hx).2
  have my:=(List.mem_filter.mp hy).2
  rw[Bool.and_eq_true,decide_eq_true_eq,decide_eq_true_eq]at mx my
  have c1:=Yv hp (Za mx.1) (Za my.1)
  have c2:=Yv hp (Za mx.2) (Za my.2)
  rw[Ws]at h ⊢
  dsimp only
  rcases h with z|⟨z1,z2⟩
  ·have:=c1.1.mpr z
   omega
  ·have:=c1.2 z1
   have:=c2.1.mpr z2
   omega
 ·intro x
  unfold am
  rw[List.mem_map]
  constructor
  ·rintro ⟨q,hq,rfl⟩
   obtain⟨h1,h2⟩:=List.mem_filter.mp hq
   rw[Bool.and_eq_true,decide_eq_true_eq,decide_eq_true_eq]at h2
   exact⟨_,_,rfl,q.1,q.2,Za h2.1,Za h2.2,h1⟩
  ·rintro ⟨a,b,rfl,p,q,ha,hb,h⟩
   have m1:=List.mem_of_getElem? ha
   have m2:=List.mem_of_getElem? hb
   refine⟨(p,q),List.mem_filter.mpr ⟨h,by rw[Bool.and_eq_true,decide_eq_true_eq,decide_eq_true_eq];exact⟨m1,m2⟩⟩,?_⟩
   have e1:=(Yv hp (Za m1) ha).2 rfl
   have e2:=(Yv hp (Za m2) hb).2 rfl
   show(((pl.idxOf p:Nat):Int),((pl.idxOf q:Nat):Int))=_
   rw[e1,e2]
theorem am_len(pl:List Int)(ars:List (Int×Int)):(am pl ars).length≤ars.length:=by
 unfold am
 rw[List.length_map]
 exact List.length_filter_le _ _
theorem AM.good{pl:List Int}{ars L:List (Int×Int)}{m:Int}(x:AM pl ars L)(g:JE m ars):JE (pl.length:Int) L:=by
 intro z hz
 obtain⟨a,b,rfl,p,q,ha,hb,h⟩:=(x.mem z).mp hz
 have h1:=(List.getElem?_eq_some_iff.mp ha).1
 have h2:=(List.getElem?_eq_some_iff.mp hb).1
 have ne:=(g _ h).2.2.2.2
 dsimp only at ne ⊢
 refine⟨by omega,by omega,by omega,by omega,fun e=>?_⟩
 have e:a=b:=by omega
 subst e
 rw[ha]at hb
 cases hb
 exact ne rfl
end Hk
namespace Hk
open PySem L2
section
variable{P:Program}{w:World}{K:PySem.W.Frag}{mg:Str→Option Value}{base:Heap}
def spAmong:Sp:=fun vs H Q _=>∃(a t:Addr)(m:Int)(us:List V)(ars:List (Int×Int))(c:Addr)(pl:List Int),vs=[.ref a,.ref c]∧Web H a t m us ars∧us.length≤200∧Stc ars∧H c=some (.tup (pl.map V.int))∧pl.Pairwise (·<·)∧pl.length≤40 ∧
 ∀(a' t':Addr)(us':List V)(L:List (Int×Int))(H':Hp),Same H H'→Web H' a' t' (pl.length:Int) us' L→AM pl ars L→us'.length≤200→Q (.ref a') H'
theorem kn_among(D:DefAt K mg "among_web" Wi ["web","places"])(fr:Free mg ["enumerate","len","tuple"]):Kn P w K mg base 1 "among_web" ["web","places"] spAmong:=by
 have sc:FnScope ["web","places","numbers","number","place","arrows"] ["web","places"] (Jl Wi):=⟨rfl,rfl,rfl,by decide +kernel,rfl,by decide +kernel,by decide +kernel⟩
 refine D.kn (N:=["web","places","numbers","number","place","arrows"]) sc (fun vs H Q E h=>?_) (fun f cdv A outer s H vs Q E hr h=>?_)
 ·obtain ⟨a,t,m,us,ars,c,pl,rfl,_⟩:=h
  rfl
 ·obtain ⟨a,t,m,us,ars,c,pl,rfl,W,h200,st,hc,up,l40,kk⟩:=h
  have hu:=YW hr
  have m1:=fr "enumerate" (by simp)
  have m2:=fr "len" (by simp)
  have m3:=fr "tuple" (by simp)
  have nd:(["a","b","numbers"]:List Str).Nodup:=by decide +kernel
  have lu:=JS W.ars
  refine⟨_,(Jd (Jn (i:=2) sc.nd rfl (Or.inr rfl) Uf) (Jd (Yi PassesOwn.never rfl (pi_enum rfl m1 (Ja (pv 1) Jc)) (YV (n:=2) rfl (Jz (Jk (i:=3) sc.nd rfl (Or.inl rfl)) (Jz (Jk (i:=4) sc.nd rfl (Or.inl rfl)) Yr))) (Je (YH hu (pv 2) (pv 4) (pv 3) rfl))) (Jd (YN (i:=5) (N:=["a","b","numbers"]) (src:=[none,none,some 2]) sc.nd rfl rfl rfl rfl ⟨rfl,rfl,rfl,rfl,⟨⟨rfl,rfl⟩,trivial⟩,rfl,rfl,rfl⟩ (YF (i:=0) (j:=1) rfl rfl) (YC (Jx JA (pv 0) Ji (fun _ _=>rfl))) (fun C s H fp=>⟨(YV (n:=2) rfl (Jz (Jk (i:=0) nd rfl (Or.inl rfl)) (Jz (Jk (i:=1) nd rfl (Or.inl rfl)) Yr))),(Yb (PW.pt (ZS (YU (Wr hu (pv 0) (pv 2))) (YX (YU (Wr hu (pv 1) (pv 2))))))),(Yj (Ja (UU hu (pv 2) (pv 0) (fun _ _=>rfl)) (Ja (UU hu (pv 2) (pv 1) (fun _ _=>rfl)) Jc)))⟩)) (Je (Jm (Yj (Ja (Jr Ym rfl m2 PySem.boot_len (Ja (pv 1) Jc)) (Ja (JK JC rfl m3 JB (Ja (pv 5) Jc)) Jc)))))))),?_⟩
  intro d hd
  have s1:=Same.upd (o:=.dK []) hd
  refine⟨_,rfl,c,_,rfl,s1 _ _ hc,for_enumT (xs:=pl.map V.int) (fun i σ H2=>∃(kvs:List (Key×V))(v3 v4:Option V),σ=[some (.ref a),some (.ref c),some (.ref d),v3,v4,none]∧Same H H2∧H2 d=some (.dK kvs)∧kvs.length≤i∧∀x:Int,valV kvs (Sum.inl x)=if x∈pl.take i then some (.int (pl.idxOf x:Nat))else none) ⟨[],none,none,rfl,s1,Jb,Nat.le_refl _,fun x=>by simp[valV]⟩ (fun i σ H2 _ ⟨_,_,_,_,s2,_⟩=>s2 _ _ hc) ?_ ?_⟩
  ·rintro i v σ H2 p hv ⟨kvs,v3,v4,rfl,s2,hd2,hl,mk⟩ hp
   rw[List.getElem?_map]at hv
   obtain⟨x,e1,rfl⟩:=Option.map_eq_some_iff.mp hv
   have hi:i<pl.length:=(List.getElem?_eq_some_iff.mp e1).1
   have s3:=Same.upd (o:=.tup [.int i,.int x]) hp
   refine⟨p,_,rfl,SqT.of Jb,rfl,_,_,rfl,_,_,rfl,rfl,?_⟩
   refine⟨_,rfl,_,rfl,_,rfl,d,_,rfl,DPut.k (k:=Sum.inl x) (s3 _ _ hd2) (Jj (by omega)),_,_,_,rfl,fun b o e=>?_,Jb,Nat.le_trans (JN _ _ _) (Nat.succ_le_succ hl),fun y=>?_⟩
   ·rw [Jh (Jg e hd)]
    exact s3 _ _ (s2 _ _ e)
   ·rw [YL,mk y,Ju _ _ _ e1]
    have hix:pl.idxOf x=i:=(Yv up (Za (List.mem_of_getElem? e1)) e1).2 rfl
    by_cases e:y=x
    ·subst e
     rw[if_pos rfl,if_pos (List.mem_append_right _ (List.mem_singleton.mpr rfl)),hix]
    ·rw [if_neg (fun z=>e (Sum.inl.inj z))]
     by_cases z:y∈pl.take i
     ·rw [if_pos z,if_pos (List.mem_append_left _ z)]
     ·rw [if_neg z,if_neg (fun w=>z ((List.mem_append.mp w).resolve_right fun w=>e (List.mem_singleton.mp w)))]
  ·rintro σ H2 ⟨kvs,v3,v4,rfl,s2,hd2,hl,mk⟩
   rw[List.length_map,List.take_of_length_le (Nat.le_refl _)]at mk
   have W2:=W.mono s2
   refine⟨_,rfl,a,_,_,_,rfl,rfl,SqT.of W2.top,rfl,t,rfl,⟨_,SqT.of W2.arr⟩,QF (xs:=us) (fun i zs H'=>Same H2 H'∧Ars H' zs (am pl (ars.take i))) ⟨Same.refl _,.nil⟩ ?_ ?_ ?_⟩
   ·rintro i zs H' hi ⟨s3,hz⟩
    have h1:=JS hz
    have h2:=am_len pl (ars.take i)
    rw[List.length_take]at h2
    exact⟨SqT.of (s3 _ _ W2.arr),Nat.le_of_lt (Jj (by omega))⟩
   ·rintro zs H' ⟨s3,hz⟩ l hl'
    rw[List.take_of_length_le (by omega)]at hz
    have h1:=JS hz
    have h2:=am_len pl ars
    have s4:=s3.trans (Same.upd (o:=.lst zs) hl')
    refine Jo ?_
    dsimp only
    refine⟨_,rfl,c,_,rfl,.inr (SqT.of (s4 _ _ (s2 _ _ hc))),_,rfl,l,_,rfl,.inl ⟨SqL.of Jb,fun t' ht'=>⟨(by show 2≤sizeLine;decide),fun a' ha'=>?_⟩⟩⟩
    have s5:=(Same.upd (o:=.tup zs) ht').trans (Same.upd (o:=.tup [.int ((pl.map V.int).length:Nat),.ref t']) ha')
    refine kk a' t' zs (am pl ars) _ (s2.trans (s4.trans s5)) ⟨?_,Same.upd ha' _ _ Jb,hz.mono ((Same.upd hl').trans s5),by omega,by omega⟩ (UO up st) (by omega)
    rw[Jb,List.length_map]
   ·rintro i x zs H' h1 hi ⟨s3,hz⟩
    obtain⟨q,e1,r,rfl,hr'⟩:=Paired.get' W2.ars h1
    have g1:DGet H' d (.int q.1) (valV kvs (Sum.inl q.1)):=DGet.k (k:=Sum.inl q.1) (s3 _ _ hd2)
    have g2:DGet H' d (.int q.2) (valV kvs (Sum.inl q.2)):=DGet.k (k:=Sum.inl q.2) (s3 _ _ hd2)
    have fs:=JH (fun q=>decide (q.1∈pl)&&decide (q.2∈pl)) ars i q e1
    have no:(decide (q.1∈pl)&&decide (q.2∈pl))=false→am pl (ars.take (i+1))=am pl (ars.take i):=fun z=>by
     unfold am
     rw[fs,if_neg (by rw[z];decide),List.append_nil]
    refine⟨r,_,rfl,SqT.of (s3 _ _ hr'),rfl,_,_,rfl,_,_,rfl,rfl,?_⟩
    refine⟨_,rfl,_,rfl,d,_,rfl,g1,_,rfl,?_⟩
    rw[mk q.1]at g1 ⊢
    by_cases c1:q.1∈pl
    ·rw [if_pos c1] at g1 ⊢
     refine iteT ⟨_,rfl,_,rfl,d,_,rfl,g2,_,rfl,?_⟩
     rw[mk q.2]at g2 ⊢
     by_cases c2:q.2∈pl
     ·rw [if_pos c2] at g2 ⊢
      refine iteT ⟨_,rfl,_,rfl,d,_,rfl,g1,_,rfl,_,rfl,d,_,rfl,g2,(by show 2≤sizeLine;decide),fun g hg=>nx hi ⟨s3.trans (Same.upd hg),?_⟩⟩
      have:am pl (ars.take (i+1))=am pl (ars.take i)++[(((pl.idxOf q.1:Nat):Int),((pl.idxOf q.2:Nat):Int))]:=by
       unfold am
       rw[fs,if_pos (by rw[decide_eq_true c1,decide_eq_true c2];rfl),List.map_append]
       rfl
      rw[this]
      exact Paired.snoc (hz.mono (Same.upd hg)) ⟨g,rfl,Jb⟩
     ·rw [if_neg c2] at g2 ⊢
      refine iteF (nx hi ⟨s3,?_⟩)
      rw[no (by rw[decide_eq_false c2,Bool.and_false])]
      exact hz
    ·rw [if_neg c1] at g1 ⊢
     refine iteF (nx hi ⟨s3,?_⟩)
     rw[no (by rw[decide_eq_false c1,Bool.false_and])]
     exact hz
end
end Hk
namespace Hk
open PySem L2
def lstF(Gr:Nat→List Int)(p:Int):Int:=(Gr p.toNat).headD 0
structure GrOk(f:Nat→List Int)(n:Nat)(Gr:Nat→List Int):Prop where
 hf:∀p:Nat,∀b∈f p,0≤b∧b<n
 gr:∀p:Nat,p<n→IsGr f (p:Int) (Gr p)
namespace GrOk
variable{f:Nat→List Int}{n:Nat}{Gr:Nat→List Int}
theorem lst(h:GrOk f n Gr){p:Nat}(hp:p<n):(Gr p).head?=some (lstF Gr (p:Int))∧lstF Gr (p:Int)∈Gr p∧∀x∈Gr p,lstF Gr (p:Int)≤x:=by
 have g:=h.gr p hp
 have self:(p:Int)∈Gr p:=(g.mem _).mpr ⟨.refl,.refl⟩
 unfold lstF
 rw[Int.toNat_natCast]
 obtain⟨y,h1,h2,h3⟩:=WU g.rise self
 have e:(Gr p).headD 0=y:=by
  cases hc:Gr p with
  | nil=>rw [hc] at h1; cases h1
  | cons z r=>rw [hc] at h1; cases h1; rfl
 rw[e]
 refine⟨h1,h2,fun x hx=>?_⟩
 obtain⟨y',e1,_,e3⟩:=WU g.rise hx
 rw[h1]at e1
 cases e1
 exact e3
theorem bd(h:GrOk f n Gr){p:Nat}(hp:p<n){x:Int}(hx:x∈Gr p):0≤x∧x<n:=YB h.hf (by omega) (((h.gr p hp).mem x).mp hx).1
theorem same(h:GrOk f n Gr){p q:Nat}(hp:p<n)(hq:q<n)(hx:(q:Int)∈Gr p):Gr q=Gr p:=by
 obtain⟨a,b⟩:=((h.gr p hp).mem _).mp hx
 refine Zn (h.gr q hq).rise (h.gr p hp).rise fun x=>?_
 rw[(h.gr q hq).mem,(h.gr p hp).mem]
 exact⟨fun⟨c,d⟩=>⟨a.trans c,d.trans b⟩,fun⟨c,d⟩=>⟨b.trans c,d.trans a⟩⟩
theorem lst_eq(h:GrOk f n Gr){p q:Nat}(hp:p<n)(hq:q<n):lstF Gr (p:Int)=lstF Gr (q:Int)↔(q:Int)∈Gr p:=by
 constructor
 ·intro e
  obtain⟨_,a1,_⟩:=h.lst hp
  obtain⟨_,b1,_⟩:=h.lst hq
  rw[e]at a1
  obtain⟨c1,c2⟩:=((h.gr p hp).mem _).mp a1
  obtain⟨d1,d2⟩:=((h.gr q hq).mem _).mp b1
  exact((h.gr p hp).mem _).mpr ⟨c1.trans d2,d1.trans c2⟩
 ·intro e
  have:=h.same hp hq e
  unfold lstF
  rw[Int.toNat_natCast,Int.toNat_natCast,this]
theorem mem(h:GrOk f n Gr){p:Nat}(hp:p<n):Gr p∈grL Gr n:=by
 obtain⟨a1,a2,_⟩:=h.lst hp
 obtain⟨b0,b1⟩:=h.bd hp a2
 obtain⟨j,ej⟩:∃j:Nat,lstF Gr (p:Int)=(j:Int):=⟨(lstF Gr (p:Int)).toNat,by omega⟩
 rw[ej]at a1 a2 b1
 have e:=h.same hp (by omega) a2
 exact mem_grL.mpr ⟨j,by omega,e.symm,by rw[e];exact a1⟩
theorem of(h:GrOk f n Gr){R:List Int}(hR:R∈grL Gr n):∃j:Nat,j<n∧R=Gr j∧lstF Gr (j:Int)=(j:Int):=by
 obtain⟨j,hj,e,hh⟩:=mem_grL.mp hR
 obtain⟨a1,_⟩:=h.lst hj
 rw[hh]at a1
 exact⟨j,hj,e,(Option.some.inj a1).symm⟩
theorem lst_idem(h:GrOk f n Gr){p:Nat}(hp:p<n):∃j:Nat,j<n∧lstF Gr (p:Int)=(j:Int)∧lstF Gr (j:Int)=(j:Int):=by
 obtain⟨a1,a2,_⟩:=h.lst hp
 obtain⟨b0,b1⟩:=h.bd hp a2
 obtain⟨j,ej⟩:∃j:Nat,lstF Gr (p:Int)=(j:Int):=⟨(lstF Gr (p:Int)).toNat,by omega⟩
 refine⟨j,by omega,ej,?_⟩
 rw[ej]at a2
 have:=(h.lst_eq hp (q:=j) (by omega)).mpr a2
 rw[← this,ej]
end GrOk
def gaF(Gr:Nat→List Int)(ars:List (Int×Int)):List (Int×Int):=ars.filter fun q=>decide (lstF Gr q.1=lstF Gr q.2)
theorem gaF_good{Gr:Nat→List Int}{m:Int}{ars:List (Int×Int)}(ga:JE m ars):JE m (gaF Gr ars):=fun q hq=>ga q (List.mem_filter.mp hq).1
theorem rch_ga{Gr:Nat→List Int}{m:Int}{ars:List (Int×Int)}(ga:JE m ars)(h:GrOk (ldF ars) m.toNat Gr){s x:Int}(hs:0≤s∧s<m)(g:Rch (ldF ars) s x):Rch (ldF ars) x s→Rch (ldF (gaF Gr ars)) s x:=by
 induction g with
 | refl=>exact fun _=>.refl
 | @step q b hq e ih =>
  intro back
  have hqb:(q,b)∈ars:=by
   have qb:=YB h.hf (by omega) hq
   have e:b∈ldI ars ((q.toNat:Nat):Int):=e
   rw[show((q.toNat:Nat):Int)=q by omega]at e
   exact JW.mp e
  obtain⟨g1,g2,g3,g4,_⟩:=ga _ hqb
  dsimp only at g1 g2 g3 g4
  have qs:=Rch.head e back
  refine .step (ih qs) ?_
  obtain⟨i,rfl⟩:∃i:Nat,q=(i:Int):=⟨q.toNat,by omega⟩
  obtain⟨j,rfl⟩:∃j:Nat,b=(j:Int):=⟨b.toNat,by omega⟩
  have eg:(j:Int)∈Gr i:=((h.gr i (by omega)).mem _).mpr ⟨.step .refl e,back.trans hq⟩
  have el:=(h.lst_eq (p:=i) (q:=j) (by omega) (by omega)).mpr eg
  show(j:Int)∈ldI (gaF Gr ars) (i:Int)
  exact JW.mpr (List.mem_filter.mpr ⟨hqb,decide_eq_true el⟩)
structure SideP(Gr:Nat→List Int)(n:Nat)(ars:List (Int×Int))(ns:List Int):Prop where
 r01:∀x∈ns,0≤x∧x≤1
 zero:∀p:Nat,p<n→ns.getD (lstF Gr (p:Int)).toNat 0=0
 dif:∀q∈ars,lstF Gr q.1=lstF Gr q.2→ns.getD q.1.toNat 0≠ns.getD q.2.toNat 0
def SdG(Gr:Nat→List Int)(m:Int)(ars:List (Int×Int))(o:Option (List V)):Prop:=∃ys,o=some ys∧(ys.length:Int)=m∧ys.all isI=true∧SideP Gr m.toNat ars (Jt ys)
theorem UN:∀{ys:List V},ys.all isI=true→ys=(Jt ys).map V.int
 | [],_=>rfl
 | y::r,h=>by
  rw[List.all_cons,Bool.and_eq_true]at h
  cases y with
  | int n =>
   show V.int n::r=V.int n::(Jt r).map V.int
   rw[← UN h.2]
  | _=>exact absurd h.1 (by simp [isI])
theorem UH{ns:List Int}{x:Int}(h0:0≤x)(h1:x<ns.length):atI (ns.map V.int) x=some (V.int (ns.getD x.toNat 0)):=by
 obtain⟨k,rfl⟩:∃k:Nat,x=(k:Int):=⟨x.toNat,by omega⟩
 refine Yx ?_
 have hk:k<ns.length:=by omega
 rw[List.getElem?_map,List.getElem?_eq_getElem hk,Int.toNat_natCast,List.getD_eq_getElem?_getD,List.getElem?_eq_getElem hk]
 rfl
def Uz(Gr:Nat→List Int)(n:Nat):List Int:=(List.range n).map fun(p:Nat)=>lstF Gr (p:Int)
theorem Zc{Gr:Nat→List Int}{n:Nat}{x:Int}(h0:0≤x)(h1:x<n):atI ((Uz Gr n).map V.int) x=some (.int (lstF Gr x)):=by
 obtain⟨k,rfl⟩:∃k:Nat,x=(k:Int):=⟨x.toNat,by omega⟩
 refine Yx ?_
 unfold Uz
 rw[List.getElem?_map,List.getElem?_map,List.getElem?_range (by omega)]
 rfl
end Hk
namespace Hk
open PySem L2 PySem.W
theorem at0{R:List Int}{x:Int}(h:R.head?=some x):atI (R.map V.int) 0=some (.int x):=by
 cases R with
 | nil=>cases h
 | cons y r =>
  cases h
  exact Yx (xs:=(x::r).map V.int) (j:=0) rfl
section
variable{P:Program}{w:World}{K:Frag}{mg:Str→Option Value}{base:Heap}
def Qk:Sp:=fun vs H Q _=>∃(a t:Addr)(m:Int)(us:List V)(ars:List (Int×Int))(Gr:Nat→List Int),vs=[.ref a]∧Web H a t m us ars∧JE m ars∧m≤40∧GrOk (ldF ars) m.toNat Gr ∧
 ∀(l:Addr)(H':Hp),Same H H'→H l=none→H' l=some (.lst ((Uz Gr m.toNat).map V.int))→Q (.ref l) H'
theorem kn_leastp(D:DefAt K mg "least_places" Zi ["web"])(fr:Free mg ["range"])(kg:Kn P w K mg base 2 "groups_of" ["web"] WZ):Kn P w K mg base 3 "least_places" ["web"] Qk:=by
 have sc:FnScope ["web","least","group","place"] ["web"] (Jl Zi):=⟨rfl,rfl,rfl,by decide +kernel,rfl,by decide +kernel,by decide +kernel⟩
 refine D.kn (N:=["web","least","group","place"]) sc (fun vs H Q E h=>?_) (fun fa cdv A outer s H vs Q E hr h=>?_)
 ·obtain ⟨a,t,m,us,ars,Gr,rfl,_⟩:=h
  rfl
 ·obtain ⟨a,t,m,us,ars,Gr,rfl,W,ga,m40,ok,kk⟩:=h
  have hm:=W.mb
  have m_range:=fr "range" (by simp)
  have nd0:(["place"]:List Str).Nodup:=by decide +kernel
  refine⟨_,(Jd (YN (i:=1) (N:=["place"]) (src:=[none]) (cl:=[]) sc.nd rfl rfl rfl rfl ⟨rfl,rfl,rfl,rfl,trivial,rfl,rfl,rfl⟩ (Jw (i:=0) rfl) (JQ rfl m_range (Ja (Jx JA (pv 0) Ji (fun _ _=>rfl)) Jc)) (fun C s H fp=>⟨(Jk (i:=0) nd0 rfl (Or.inl rfl)),JG,(pv 0)⟩)) (Jd (Yi PassesOwn.never rfl (JR (Jp kg hr (Ja (pv 0) Jc))) (Jk (i:=2) sc.nd rfl (Or.inl rfl)) (Je (Yi PassesOwn.never rfl (YC (pv 2)) (Jk (i:=3) sc.nd rfl (Or.inl rfl)) (Je (ps_asg (Jx JA (pv 2) Ji (fun _ _=>rfl)) (pg_sub (pv 1) (pv 3) Qn)))))) (Je (Jm (pv 1))))),?_⟩
  refine⟨_,rfl,a,_,_,_,rfl,rfl,SqT.of W.top,rfl,m,rfl,by omega,by omega,Zd (n:=m.toNat) (fun i zs H'=>Same H H'∧zs=((List.range i).map fun(p:Nat)=>(p:Int)).map V.int) ⟨Same.refl _,rfl⟩ ?_ ?_ ?_⟩
  ·rintro i zs H' hi ⟨s1,rfl⟩
   rw[List.length_map,List.length_map,List.length_range]
   exact Nat.le_of_lt (Jj (by omega))
  ·rintro zs H1 ⟨s1,rfl⟩ l hl
   have hlN:=Ya s1 hl
   have s2:=s1.trans (Same.upd (o:=.lst (((List.range m.toNat).map fun(p:Nat)=>(p:Int)).map V.int)) hl)
   have hl2:(upd H1 l (.lst (((List.range m.toNat).map fun(p:Nat)=>(p:Int)).map V.int))) l=some (.lst (((List.range m.toNat).map fun(p:Nat)=>(p:Int)).map V.int)):=Jb
   have lL:((List.range m.toNat).map fun(p:Nat)=>(p:Int)).length=m.toNat:=by rw[List.length_map,List.length_range]
   generalize upd H1 l (.lst (((List.range m.toNat).map fun(p:Nat)=>(p:Int)).map V.int))=H2 at s2 hl2
   generalize ((List.range m.toNat).map fun(p:Nat)=>(p:Int))=L0 at hl2 lL
   refine⟨_,rfl,a,t,m,us,ars,Gr,rfl,W.mono s2,ga,m40,ok.gr,fun g zs H3 s3 hgn hg tz=>?_⟩
   have ngl:g≠l:=fun z=>by rw[z,hl2]at hgn;cases hgn
   refine⟨g,rfl,⟨_,SqL.of hg⟩,YO (K:=K) (xs:=zs) (fun i σ H4=>∃(Lv:List Int)(v2 v3:Option V),σ=[some (.ref a),some (.ref l),v2,v3]∧SameBut l H3 H4∧H4 l=some (.lst (Lv.map V.int))∧Lv.length=m.toNat∧∀R∈(grL Gr m.toNat).take i,∀p∈R,Lv[p.toNat]?=R.head?) ⟨L0,_,_,rfl,SameBut.refl _ _,s3 _ _ hl2,lL,fun R hR=>by simp at hR⟩ (fun i σ H4 _ ⟨_,_,_,_,s4,_⟩=>SqL.of (s4 _ _ ngl hg)) ?_ ?_⟩
   ·rintro i y σ H4 hi ⟨Lv,v2,v3,rfl,s4,hl4,ll,inv⟩
    obtain⟨R,eR,p,rfl,hp⟩:=Paired.get' tz hi
    have hRm:R∈grL Gr m.toNat:=List.mem_of_getElem? eR
    obtain⟨j,hj,rfl,hself⟩:=ok.of hRm
    obtain⟨hd,_,_⟩:=ok.lst hj
    have npl:p≠l:=ZK hp (s3 _ _ hl2) (fun z=>nomatch z)
    have ts:(grL Gr m.toNat).take (i+1)=(grL Gr m.toNat).take i++[Gr j]:=Ju _ _ _ eR
    refine⟨_,rfl,p,rfl,⟨_,SqT.of (s4 _ _ npl hp)⟩,Qb (K:=K) (xs:=(Gr j).map V.int) (fun k σ H5=>∃(Lv:List Int)(v3:Option V),σ=[some (.ref a),some (.ref l),some (.ref p),v3]∧SameBut l H3 H5∧H5 l=some (.lst (Lv.map V.int))∧Lv.length=m.toNat∧(∀R∈(grL Gr m.toNat).take i,∀p∈R,Lv[p.toNat]?=R.head?)∧∀q∈(Gr j).take k,Lv[q.toNat]?=(Gr j).head?) ⟨Lv,_,rfl,s4,hl4,ll,inv,fun q hq=>by simp at hq⟩ (fun k σ H5 _ ⟨_,_,_,s5,_⟩=>SqT.of (s5 _ _ npl hp)) ?_ ?_⟩
    ·rintro k x σ H5 hk ⟨Lv,v3,rfl,s5,hl5,ll,inv,inv2⟩
     rw[List.getElem?_map]at hk
     obtain⟨q,eq,rfl⟩:=Option.map_eq_some_iff.mp hk
     have hq:q∈Gr j:=List.mem_of_getElem? eq
     obtain⟨q0,qn⟩:=ok.bd hj hq
     obtain⟨qn',rfl⟩:∃i:Nat,q=(i:Int):=⟨q.toNat,by omega⟩
     refine⟨_,rfl,p,_,_,_,rfl,rfl,SqT.of (s5 _ _ npl hp),at0 hd,_,rfl,_,rfl,l,_,_,qn',rfl,rfl,hl5,ixN_lt' (by rw[List.length_map];omega),?_⟩
     have set1:∀x:Int,x∈Gr j→(Lv.set qn' (lstF Gr (j:Int)))[x.toNat]?=(Gr j).head?∨(Lv.set qn' (lstF Gr (j:Int)))[x.toNat]?=Lv[x.toNat]?:=fun x _=>by
      by_cases e:x.toNat=qn'
      ·left
       rw[e,List.getElem?_set_self (by omega),hd]
      ·right
       rw[List.getElem?_set_ne (Ne.symm e)]
     refine⟨Lv.set qn' (lstF Gr (j:Int)),_,rfl,fun b o nb e=>?_,?_,by rw[List.length_set];exact ll,fun R hR x hx=>?_,fun x hx=>?_⟩
     ·rw [Jh nb]
      exact s5 _ _ nb e
     ·rw [Jb,List.map_set]
     ·by_cases e:x.toNat=qn'
      ·obtain ⟨j',hj',rfl,_⟩:=ok.of (List.mem_of_mem_take hR)
       obtain⟨x0,_⟩:=ok.bd hj' hx
       have ex:x=(qn':Int):=by omega
       subst ex
       have e1:=ok.same hj' (q:=qn') (by omega) hx
       have e2:=ok.same hj (q:=qn') (by omega) hq
       rw[e,List.getElem?_set_self (by omega),← e1,e2,hd]
      ·rw [List.getElem?_set_ne (Ne.symm e)]
       exact inv R hR x hx
     ·rw [Ju _ _ _ eq] at hx
      rcases List.mem_append.mp hx with z|z
      ·rcases set1 x (List.mem_of_mem_take z) with e | e
       ·exact e
       ·rw [e]
        exact inv2 x z
      ·rw [List.mem_singleton.mp z,Int.toNat_natCast,List.getElem?_set_self (by omega),hd]
    ·rintro σ H5 ⟨Lv,v3,rfl,s5,hl5,ll,inv,inv2⟩
     rw[List.length_map,List.take_of_length_le (Nat.le_refl _)]at inv2
     refine⟨Lv,_,_,rfl,s5,hl5,ll,fun R hR=>?_⟩
     rw[ts]at hR
     rcases List.mem_append.mp hR with z|z
     ·exact inv R z
     ·rw [List.mem_singleton.mp z]
      exact inv2
   ·rintro σ H4 ⟨Lv,v2,v3,rfl,s4,hl4,ll,inv⟩
    have lz:zs.length=(grL Gr m.toNat).length:=Paired.length tz
    rw[lz,List.take_of_length_le (Nat.le_refl _)]at inv
    have eL:Lv=Uz Gr m.toNat:=by
     refine List.ext_getElem? fun p=>?_
     by_cases hp:p<m.toNat
     ·have self:((p:Nat):Int)∈Gr p:=((ok.gr p hp).mem _).mpr ⟨.refl,.refl⟩
      have:=inv _ (ok.mem hp) _ self
      rw[Int.toNat_natCast]at this
      rw[this,(ok.lst hp).1]
      unfold Uz
      rw[List.getElem?_map,List.getElem?_range hp]
      rfl
     ·rw [List.getElem?_eq_none (by omega),List.getElem?_eq_none (by unfold Uz; rw [List.length_map,List.length_range]; omega)]
    subst eL
    refine⟨_,rfl,kk l H4 (fun b o e=>?_) hlN hl4⟩
    exact s4 _ _ (Jg e hlN) (s3 _ _ (s2 _ _ e))
  ·rintro i zs H' hi ⟨s1,rfl⟩
   refine⟨_,rfl,nx hi ⟨s1,?_⟩⟩
   rw[List.range_succ,List.map_append,List.map_append,Int.zero_add]
   rfl
def spGA:Sp:=fun vs H Q _=>∃(a t:Addr)(m:Int)(us:List V)(ars:List (Int×Int))(Gr:Nat→List Int),vs=[.ref a]∧Web H a t m us ars∧JE m ars∧m≤40∧GrOk (ldF ars) m.toNat Gr ∧
 ∀(l:Addr)(ws:List V)(H':Hp),Same H H'→H l=none→H' l=some (.lst ws)→Ars H' ws (gaF Gr ars)→Q (.ref l) H'
theorem kn_garr(D:DefAt K mg "group_arrows" Zl ["web"])(kl:Kn P w K mg base 3 "least_places" ["web"] Qk):Kn P w K mg base 4 "group_arrows" ["web"] spGA:=by
 have sc:FnScope ["web","least"] ["web"] (Jl Zl):=⟨rfl,rfl,rfl,by decide +kernel,rfl,by decide +kernel,by decide +kernel⟩
 refine D.kn (N:=["web","least"]) sc (fun vs H Q E h=>?_) (fun fa cdv A outer s H vs Q E hr h=>?_)
 ·obtain ⟨a,t,m,us,ars,Gr,rfl,_⟩:=h
  rfl
 ·obtain ⟨a,t,m,us,ars,Gr,rfl,W,ga,m40,ok,kk⟩:=h
  have nd0:(["a","b","least"]:List Str).Nodup:=by decide +kernel
  refine⟨_,(Jd (Jn (i:=1) sc.nd rfl (Or.inr rfl) (Jp kl hr (Ja (pv 0) Jc))) (Je (Jm (Ye (N:=["a","b","least"]) (src:=[none,none,some 1]) rfl ⟨rfl,rfl,rfl,rfl,⟨⟨rfl,rfl⟩,trivial⟩,rfl,rfl,rfl⟩ (YF (i:=0) (j:=1) rfl rfl) (YC (Jx JA (pv 0) Ji (fun _ _=>rfl))) (fun C s H fp=>⟨(YV (n:=2) rfl (Jz (Jk (i:=0) nd0 rfl (Or.inl rfl)) (Jz (Jk (i:=1) nd0 rfl (Or.inl rfl)) Yr))),(Yb (Js ZI (Jx (r:=rIxL K) JL (pv 2) (pv 0) (fun _ _=>rfl)) (Jx (r:=rIxL K) JL (pv 2) (pv 1) (fun _ _=>rfl)) (Jq _))),(Yj (Ja (pv 0) (Ja (pv 1) Jc)))⟩))))),?_⟩
  have c2:2≤sizeLine:=by decide
  refine⟨_,rfl,a,t,m,us,ars,Gr,rfl,W,ga,m40,ok,fun l H1 s1 hlN hl=>?_⟩
  refine Jo ?_
  dsimp only[List.set]
  have lu:=JS W.ars
  have wl:=W.len
  have W1:=W.mono s1
  refine⟨_,rfl,a,_,_,_,rfl,rfl,SqT.of W1.top,rfl,t,rfl,⟨_,SqT.of W1.arr⟩,QF (xs:=us) (fun i zs H'=>Same H1 H'∧Ars H' zs (gaF Gr (ars.take i))) ⟨Same.refl _,.nil⟩ ?_ ?_ ?_⟩
  ·rintro i zs H' hi ⟨s2,az⟩
   refine⟨SqT.of (s2 _ _ W1.arr),?_⟩
   have e1:=JS az
   have e2:=List.length_filter_le (fun(q:Int×Int)=>decide (lstF Gr q.1=lstF Gr q.2)) (ars.take i)
   rw[List.length_take]at e2
   have e1:zs.length=((ars.take i).filter fun(q:Int×Int)=>decide (lstF Gr q.1=lstF Gr q.2)).length:=e1
   exact Nat.le_of_lt (Jj (by omega))
  ·rintro zs H' ⟨s2,az⟩ y hy
   rw[List.take_of_length_le (by omega)]at az
   exact kk y zs _ (s1.trans (s2.trans (Same.upd hy))) (Ya (s1.trans s2) hy) Jb (az.mono (Same.upd hy))
  ·rintro i x zs H' hx hi ⟨s2,az⟩
   obtain⟨q,e1,r,rfl,hr'⟩:=Paired.get' W1.ars hx
   obtain⟨g1,g2,g3,g4,_⟩:=ga q (List.mem_of_getElem? e1)
   have fs:=JH (fun(q:Int×Int)=>decide (lstF Gr q.1=lstF Gr q.2)) ars i q e1
   have fs:gaF Gr (ars.take (i+1))=gaF Gr (ars.take i)++(if decide (lstF Gr q.1=lstF Gr q.2)=true then[q] else[]):=fs
   have hl2:=s2 _ _ hl
   refine⟨r,_,rfl,SqT.of (s2 _ _ hr'),rfl,_,_,rfl,_,_,rfl,rfl,_,rfl,_,rfl,l,_,_,_,rfl,rfl,SqL.of hl2,Zc g1 (by omega),_,rfl,_,rfl,l,_,_,_,rfl,rfl,SqL.of hl2,Zc g3 (by omega),rfl,_,rfl,?_⟩
   have hq:decide (V.int (lstF Gr q.1)=V.int (lstF Gr q.2))=decide (lstF Gr q.1=lstF Gr q.2):=by simp
   rw[hq]
   refine ite2 (fun h2=>?_) (fun h2=>?_)
   ·refine ⟨_,rfl,_,rfl,c2,fun r2 hr2=>nx hi ⟨s2.trans (Same.upd hr2),?_⟩⟩
    rw[fs,if_pos h2]
    exact Paired.snoc (az.mono (Same.upd hr2)) ⟨r2,rfl,Jb⟩
   ·refine nx hi ⟨s2,?_⟩
    rw[fs,if_neg h2,List.append_nil]
    exact az
end
end Hk
namespace L2
open PySem PySem.Spec PyProof.Rows
def tDispT(tk tv:TE):TE:=fun σ H Q=>∀p,H p=none→tPairs [(tk,tv)] σ (upd H p (.dT [])) fun ps H2=>∃x y,ps=[(x,y)]∧H2 p=some (.dT [])∧∃(b:Addr)(k:List Key),x=.ref b∧H2 b=some (.tup (k.map kV))∧Q (.ref p) (upd H2 p (.dT [(k,y)]))
theorem pe_dispT{X:Cx}{pos:Pos}{k v:Expr}{tk tv:TE}(hu:X.A.units+1<cLine)(hk:PE X k tk)(hv:PE X v tv):PE X (.Dict [some k] [v] pos) (tDispT tk tv):=by
 intro pins s σ H Q I q
 have hn:=I.hok.fresh (Nat.le_refl s.heap.objs.size)
 have I1:=I.laid (a:=s.heap.objs.size) (o:=.dT []) (h':=s.heap.push { cls:=.type "dict",data:=.dict #[] }) (t':=s.toks) (fun _ _ q=>Heap.get?_push_of_some _ q) (Nat.le_refl _) (dt_empty s.heap I.big)
 have P2:PPs X pos [some k] [v] [(tk,tv)]:=pps_cons hk hv pps_nil
 refine wpAny_Dict_any rfl rfl (by simp) (by show 1≤15;decide) (thn (P2 pins _ σ _ _ I1 (q _ hn)) fun vs s1 z=>?_)
 obtain⟨ps,H2,I2,rel,x,y,rfl,e,b,ks,rfl,eb,q2⟩:=z
 ·cases rel with
  | cons hr t =>
   cases t
   rename_i r
   obtain⟨r1,r2⟩:=r
   obtain⟨h1,h2⟩:=hr
   cases (show r1=Value.ref b from h1)
   obtain⟨z,hd,xs,rel,dd⟩:=dt_of I2.hok e
   have hz:xs.length≤sizeLine:=by rw[← Paired.length rel];exact z
   unfold storeAll
   rw[List.forIn_cons]
   refine wpAny_bind (wpAny_bind (wpAny_dictSet_heap (hsz:=hz) (knd:=tupleKind (JV X.prog X.w)) (Nat.lt_of_succ_lt hu) (UA I2.hok eb) dd fun h' dd' hs=>wpAny_pure ?_))
   dsimp only
   rw[List.forIn_nil]
   refine wpAny_pure ⟨.ref s.heap.objs.size,_,?_,rfl,q2⟩
   obtain⟨q,es,ep,hq,h2',h3,h4,_,h5⟩:=dd'
   cases rel
   refine Qd I2 (by rw[e];exact True.intro) hs ⟨q,hq⟩ ⟨by rw[sizeLine_eq];show 1≤_;omega,hd,_,KT.keeps (KT.put (H:=H2) (kvs:=[]) (xs:=[]) .nil ks eb h2) fun c ys ec=>?_,q,es,ep,hq,h2',h3,h4,h5⟩
   rw[Jh (ZK ec e (fun z=>nomatch z))]
   exact ec
end L2
namespace Hk
open PySem L2
def flp(k j:Int):Int:=if k=j then 0 else 1
inductive Rc2(f:Nat→List Int)(p:Int):Int→Int→Prop where
 | refl:Rc2 f p p 0
 | step {q b k:Int}:Rc2 f p q k→b∈f q.toNat→Rc2 f p b (1 - k)
theorem Rc2.par{f:Nat→List Int}{p x k:Int}(h:Rc2 f p x k):k=0∨k=1:=by
 induction h with
 | refl=>exact .inl rfl
 | step _ _ ih =>
  rcases ih with rfl|rfl
  ·exact .inr rfl
  ·exact .inl rfl
theorem Rc2.rch{f:Nat→List Int}{p x k:Int}(h:Rc2 f p x k):Rch f p x:=by
 induction h with
 | refl=>exact .refl
 | step _ e ih=>exact .step ih e
theorem Rch.rc2{f:Nat→List Int}{p x:Int}(h:Rch f p x):∃k,Rc2 f p x k:=by
 induction h with
 | refl=>exact ⟨0,.refl⟩
 | step _ e ih =>
  obtain⟨k,hk⟩:=ih
  exact⟨_,.step hk e⟩
theorem Rc2.trans{f:Nat→List Int}{p q r k j:Int}(h:Rc2 f p q k)(g:Rc2 f q r j):Rc2 f p r (flp k j):=by
 induction g with
 | refl =>
  have e:flp k 0=k:=by
   unfold flp
   rcases h.par with rfl|rfl<;>rfl
  rw[e]
  exact h
 | @step u v l hu e ih =>
  have e2:flp k (1-l)=1-flp k l:=by
   unfold flp
   rcases h.par with rfl|rfl<;>rcases hu.par with rfl|rfl<;>rfl
  rw[e2]
  exact .step ih e
section
variable{Gr:Nat→List Int}{m:Int}{ars:List (Int×Int)}{ns:List Int}
theorem Qm(ga:JE m ars)(ok:GrOk (ldF ars) m.toNat Gr)(sp:SideP Gr m.toNat ars ns)(ln:(ns.length:Int)=m){s x k:Int}(hs:0≤s∧s<m)(h:Rc2 (ldF ars) s x k):Rch (ldF ars) x s→ns.getD x.toNat 0=flp (ns.getD s.toNat 0) k:=by
 have b01:∀y:Int,0≤y→y<m→ns.getD y.toNat 0=0∨ns.getD y.toNat 0=1:=fun y h0 h1=>by
  have hm:ns.getD y.toNat 0∈ns:=by
   rw[List.getD_eq_getElem?_getD,List.getElem?_eq_getElem (by omega)]
   exact List.getElem_mem _
  obtain⟨g0,g1⟩:=sp.r01 _ hm
  omega
 induction h with
 | refl =>
  intro _
  unfold flp
  rcases b01 s hs.1 hs.2 with e|e<;>rw[e]<;>rfl
 | @step q b k hq e ih =>
  intro back
  have qs:=Rch.head e back
  have qb:=YB ok.hf (by omega) hq.rch
  have hqb:(q,b)∈ars:=by
   have e:b∈ldI ars ((q.toNat:Nat):Int):=e
   rw[show((q.toNat:Nat):Int)=q by omega]at e
   exact JW.mp e
  obtain⟨g1,g2,g3,g4,_⟩:=ga _ hqb
  dsimp only at g1 g2 g3 g4
  have el:lstF Gr q=lstF Gr b:=by
   obtain⟨i,rfl⟩:∃i:Nat,q=(i:Int):=⟨q.toNat,by omega⟩
   obtain⟨j,rfl⟩:∃j:Nat,b=(j:Int):=⟨b.toNat,by omega⟩
   exact(ok.lst_eq (p:=i) (q:=j) (by omega) (by omega)).mpr (((ok.gr i (by omega)).mem _).mpr ⟨.step .refl e,back.trans hq.rch⟩)
  have df:=sp.dif _ hqb el
  dsimp only at df
  have i1:=ih qs
  have p1:=hq.par
  rcases b01 q g1 g2 with eq|eq<;>rcases b01 b g3 g4 with eb|eb<;>rcases b01 s hs.1 hs.2 with es|es<;>rcases p1 with rfl|rfl<;>rw[eq]at df i1<;>rw[eb]at df ⊢<;>rw[es]at i1 ⊢<;>unfold flp at i1 ⊢<;>simp at df i1 ⊢
theorem side_even(ga:JE m ars)(ok:GrOk (ldF ars) m.toNat Gr)(sp:SideP Gr m.toNat ars ns)(ln:(ns.length:Int)=m){s:Int}(hs:0≤s∧s<m):¬ Rc2 (ldF ars) s s 1:=fun h=>by
 have e:=Qm ga ok sp ln hs h .refl
 unfold flp at e
 split at e
 ·rename_i c
  omega
 ·rename_i c
  have:=c e
  exact this
theorem side_uniq(ga:JE m ars)(ok:GrOk (ldF ars) m.toNat Gr){ns':List Int}(sp:SideP Gr m.toNat ars ns)(ln:(ns.length:Int)=m)(sp':SideP Gr m.toNat ars ns')(ln':(ns'.length:Int)=m):ns=ns':=by
 refine List.ext_getElem (by omega) fun i h1 h2=>?_
 have hi:i<m.toNat:=by omega
 obtain⟨_,l2,_⟩:=ok.lst hi
 obtain⟨b0,b1⟩:=ok.bd hi l2
 obtain⟨r1,r2⟩:=((ok.gr i hi).mem _).mp l2
 obtain⟨k,hk⟩:=r2.rc2
 have e1:=Qm ga ok sp ln (s:=lstF Gr (i:Int)) (by omega) hk r1
 have e2:=Qm ga ok sp' ln' (s:=lstF Gr (i:Int)) (by omega) hk r1
 rw[sp.zero i hi]at e1
 rw[sp'.zero i hi]at e2
 rw[Int.toNat_natCast,List.getD_eq_getElem?_getD,List.getElem?_eq_getElem h1]at e1
 rw[Int.toNat_natCast,List.getD_eq_getElem?_getD,List.getElem?_eq_getElem h2]at e2
 exact e1.trans e2.symm
theorem walk_side(ga:JE m ars)(ok:GrOk (ldF ars) m.toNat Gr)(ln:(ns.length:Int)=m)(hw:∀p:Nat,p<m.toNat→Rc2 (ldF ars) (lstF Gr (p:Int)) (p:Int) (ns.getD p 0))(no:¬ SideP Gr m.toNat ars ns):∃s:Int,0≤s∧s<m∧Rc2 (ldF ars) s s 1:=by
 refine Classical.byContradiction fun z=>no ?_
 have z:∀s:Int,0≤s→s<m→¬ Rc2 (ldF ars) s s 1:=fun s h0 h1 h=>z ⟨s,h0,h1,h⟩
 refine⟨fun x hx=>?_,fun p hp=>?_,fun q hq el e=>?_⟩
 ·obtain ⟨i,hi,rfl⟩:=List.mem_iff_getElem.mp hx
  have:=(hw i (by omega)).par
  rw[List.getD_eq_getElem?_getD,List.getElem?_eq_getElem hi]at this
  have this:ns[i]=0∨ns[i]=1:=this
  omega
 ·obtain ⟨j,hj,e1,e2⟩:=ok.lst_idem hp
  rw[e1,Int.toNat_natCast]
  have w:=hw j hj
  rw[e2]at w
  rcases w.par with e|e
  ·exact e
  ·rw [e] at w
   exact absurd w (z _ (by omega) (by omega))
 ·obtain ⟨g1,g2,g3,g4,_⟩:=ga q hq
  obtain⟨x1,x2⟩:=q
  dsimp only at g1 g2 g3 g4 el e
  obtain⟨i,rfl⟩:∃i:Nat,x1=(i:Int):=⟨x1.toNat,by omega⟩
  obtain⟨j,rfl⟩:∃j:Nat,x2=(j:Int):=⟨x2.toNat,by omega⟩
  rw[Int.toNat_natCast,Int.toNat_natCast]at e
  have wi:=hw i (by omega)
  have wj:=hw j (by omega)
  rw[← el,← e]at wj
  obtain⟨_,l2,_⟩:=ok.lst (p:=i) (by omega)
  obtain⟨b0,b1⟩:=ok.bd (p:=i) (by omega) l2
  have st:(j:Int)∈ldF ars (i:Int).toNat:=by
   show(j:Int)∈ldI ars (((i:Int).toNat:Nat):Int)
   rw[Int.toNat_natCast]
   exact JW.mpr hq
  obtain⟨_,lj,_⟩:=ok.lst (p:=j) (by omega)
  obtain⟨c1,c2⟩:=((ok.gr j (by omega)).mem _).mp lj
  rw[← el]at c1 c2
  obtain⟨l,hl⟩:=c1.rc2
  have t1:=(Rc2.step wi st).trans hl
  have t2:=wj.trans hl
  have zz:=z (lstF Gr (i:Int)) b0 (by omega)
  rcases wi.par with p1|p1<;>rcases hl.par with rfl|rfl<;>rw[p1]at t1 t2<;>first|exact zz t1|exact zz t2
end
end Hk
namespace Hk
open PySem L2 PySem.W
structure SD(n:Nat)(Pv:Int→Int→Prop)(kvs:List (Key×V))(D:List Int):Prop where
 nd:D.Nodup
 bd:∀p∈D,0≤p∧p<n
 mem:∀p:Int,(valV kvs (Sum.inl p)).isSome=decide (p∈D)
 val:∀(p:Int) v,valV kvs (Sum.inl p)=some v→∃k:Int,v=.int k∧Pv p k
theorem SD.nil{n:Nat}{Pv:Int→Int→Prop}:SD n Pv [] []:=⟨List.nodup_nil,fun p hp=>(nomatch hp),fun p=>rfl,fun p v e=>(nomatch e)⟩
theorem SD.put{n:Nat}{Pv:Int→Int→Prop}{kvs:List (Key×V)}{D:List Int}(h:SD n Pv kvs D){p:Int}(hp:0≤p∧p<n){k:Int}(hk:Pv p k):SD n Pv (putK kvs (Sum.inl p) (.int k)) (if p∈D then D else D++[p]):=by
 have hv:∀(q:Int) v,valV (putK kvs (Sum.inl p) (.int k)) (Sum.inl q)=some v→∃k:Int,v=.int k∧Pv q k:=fun q v e=>by
  rw[YL]at e
  by_cases c:(Sum.inl q:Key)=Sum.inl p
  ·rw [if_pos c] at e
   cases e
   cases c
   exact⟨k,rfl,hk⟩
  ·rw [if_neg c] at e
   exact h.val q v e
 by_cases c:p∈D
 ·rw [if_pos c]
  refine⟨h.nd,h.bd,fun q=>?_,hv⟩
  rw[YL]
  by_cases e:(Sum.inl q:Key)=Sum.inl p
  ·rw [if_pos e]
   cases e
   rw[decide_eq_true c]
   rfl
  ·rw [if_neg e]
   exact h.mem q
 ·rw [if_neg c]
  refine⟨List.nodup_append.mpr ⟨h.nd,List.pairwise_singleton _ _,fun a ha b hb e=>?_⟩,fun q hq=>?_,fun q=>?_,hv⟩
  ·rw [List.mem_singleton] at hb
   subst hb e
   exact c ha
  ·rcases List.mem_append.mp hq with z | z
   ·exact h.bd q z
   ·rw [List.mem_singleton.mp z]
    exact hp
  ·rw [YL]
   by_cases e:(Sum.inl q:Key)=Sum.inl p
   ·rw [if_pos e]
    cases e
    rw[decide_eq_true (List.mem_append_right _ (List.mem_singleton.mpr rfl))]
    rfl
   ·rw [if_neg e,h.mem q]
    refine decide_eq_decide.mpr ⟨fun z=>List.mem_append_left _ z,fun z=>?_⟩
    rcases List.mem_append.mp z with z|z
    ·exact z
    ·exact absurd (by rw [List.mem_singleton.mp z]) e
theorem SD.at{n:Nat}{Pv:Int→Int→Prop}{kvs:List (Key×V)}{D:List Int}(h:SD n Pv kvs D){p:Int}(hp:p∈D):∃k:Int,valV kvs (Sum.inl p)=some (.int k)∧Pv p k:=by
 have:=h.mem p
 rw[decide_eq_true hp]at this
 obtain⟨v,e⟩:=Option.isSome_iff_exists.mp this
 obtain⟨k,rfl,hk⟩:=h.val p v e
 exact⟨k,e,hk⟩
section
variable{P:Program}{w:World}{K:Frag}{mg:Str→Option Value}{base:Heap}
def spWalk:Sp:=fun vs H Q _=>∃(a t:Addr)(m:Int)(us:List V)(ars:List (Int×Int))(Gr:Nat→List Int),vs=[.ref a]∧Web H a t m us ars∧JE m ars∧1≤m∧m≤40∧GrOk (ldF ars) m.toNat Gr ∧
 ∀(q:Addr)(ks:List Int)(H':Hp),Same H H'→H' q=some (.tup (ks.map V.int))→(ks.length:Int)=m→(∀p:Nat,p<m.toNat→Rc2 (ldF ars) (lstF Gr (p:Int)) (p:Int) (ks.getD p 0))→Q (.ref q) H'
theorem kn_walk(D:DefAt K mg "walked_sides" Zg ["web"])(fr:Free mg ["range","tuple"])(ka:Kn P w K mg base 1 "all_leads" ["web"] Zf)(kg:Kn P w K mg base 2 "groups_of" ["web"] WZ)(kr:Kn P w K mg base 4 "group_arrows" ["web"] spGA):Kn P w K mg base 5 "walked_sides" ["web"] spWalk:=by
 have sc:FnScope ["web","leads","waiting","sides","start","place","b"] ["web"] (Jl Zg):=⟨rfl,rfl,rfl,by decide +kernel,rfl,by decide +kernel,by decide +kernel⟩
 refine D.kn (N:=["web","leads","waiting","sides","start","place","b"]) sc (fun vs H Q E h=>?_) (fun fa cdv A outer s H vs Q E hr h=>?_)
 ·obtain ⟨a,t,m,us,ars,Gr,rfl,_⟩:=h
  rfl
 ·obtain ⟨a,t,m,us,ars,Gr,rfl,W,ga,m1,m40,ok,kk⟩:=h
  have hu:=YW hr
  have r1:=hr.mono (j:=1) (by decide)
  have r2:=hr.mono (j:=2) (by decide)
  have m_range:=fr "range" (by simp)
  have m_tuple:=fr "tuple" (by simp)
  have nd0:(["group"]:List Str).Nodup:=by decide +kernel
  have nd1:(["place","sides"]:List Str).Nodup:=by decide +kernel
  have nd2:(["place","sides"]:List Str).Nodup:=by decide +kernel
  refine⟨_,(Jd (Jn (i:=1) sc.nd rfl (Or.inl rfl) (Jp ka r1 (Ja (Yj (Ja (Jx JA (pv 0) Ji (fun _ _=>rfl)) (Ja (JK JC rfl m_tuple JB (Ja (Jp kr hr (Ja (pv 0) Jc)) Jc)) Jc))) Jc))) (Jd (YN (i:=2) (N:=["group"]) (src:=[none]) (cl:=[]) sc.nd rfl rfl rfl rfl ⟨rfl,rfl,rfl,rfl,trivial,rfl,rfl,rfl⟩ (Jw (i:=0) rfl) (JR (Jp kg r2 (Ja (pv 0) Jc))) (fun C s H fp=>⟨(Jk (i:=0) nd0 rfl (Or.inl rfl)),JG,(Jx (r:=rIxT K) JA (pv 0) Ji (fun _ _=>rfl))⟩)) (Jd (Jn (i:=3) sc.nd rfl (Or.inr rfl) Uf) (Jd (Yi PassesOwn.never rfl (JR (pv 2)) (Jk (i:=4) sc.nd rfl (Or.inl rfl)) (Je (YH hu (pv 3) (pv 4) Ji rfl))) (Jd (Wp PassesOwn.never (Js (Ui (Nat.lt_of_succ_lt hu)) (pv 2) (JZ Jc) (Jq _)) (Jd (Jn (i:=5) sc.nd rfl (Or.inl rfl) (pe_bm0 PySem.F.plainAttrs_list PySem.F.slot_list_pop PySem.F.type_list_pop mt_pop (pv 2))) (Je (Yi PassesOwn.never rfl (JR (Jx JL (pv 1) (pv 5) (fun _ _=>rfl))) (Jk (i:=6) sc.nd rfl (Or.inl rfl)) (Je (JU (YU (ZG hu (pv 6) (pv 3))) (Jd (YH hu (pv 3) (pv 6) (JM op_sub Ji (UU hu (pv 3) (pv 5) (fun _ _=>rfl))) rfl) (Je (Zo (UJ PySem.F.plainAttrs_list PySem.F.slot_list_append PySem.F.type_list_append YE (pv 2) (Ja (pv 6) Jc))))) Jy)))))) (Je (Jm (JK JC rfl m_tuple JB (Ja (Ye (N:=["place","sides"]) (src:=[none,some 3]) rfl ⟨rfl,rfl,rfl,rfl,⟨⟨rfl,rfl⟩,trivial⟩,rfl,rfl,rfl⟩ (Jw (i:=0) rfl) (JQ rfl m_range (Ja (Jx JA (pv 0) Ji (fun _ _=>rfl)) Jc)) (fun C s H fp=>⟨(Jk (i:=0) nd2 rfl (Or.inl rfl)),JG,(UU hu (pv 1) (pv 0) (fun _ _=>rfl))⟩)) Jc))))))))),?_⟩
  have c0:0≤sizeLine:=by decide
  have c2:2≤sizeLine:=by decide
  have wl:=W.len
  have lu:=JS W.ars
  -- leads
  refine⟨_,rfl,a,_,_,_,rfl,rfl,SqT.of W.top,rfl,_,rfl,a,t,m,us,ars,Gr,rfl,W,ga,m40,ok,fun l ws H1 s1 hlN hl az=>⟨l,_,rfl,.inl ⟨SqL.of hl,fun t2 ht2=>⟨c2,fun a2 ha2=>?_⟩⟩⟩⟩
  have s2:=s1.trans ((Same.upd (o:=.tup ws) ht2).trans (Same.upd (o:=.tup [.int m,.ref t2]) ha2))
  have lws:=JS az
  have lga:=List.length_filter_le (fun(q:Int×Int)=>decide (lstF Gr q.1=lstF Gr q.2)) ars
  have W2:Web (upd (upd H1 t2 (.tup ws)) a2 (.tup [.int m,.ref t2])) a2 t2 m ws (gaF Gr ars):=⟨Jb,Same.upd ha2 _ _ Jb,az.mono ((Same.upd ht2).trans (Same.upd ha2)),(by unfold gaF at lws;omega),W.mb⟩
  generalize upd (upd H1 t2 (.tup ws)) a2 (.tup [.int m,.ref t2])=H2 at s2 W2
  have ga2:=gaF_good (Gr:=Gr) ga
  have hf2:∀q:Nat,∀b∈ldF (gaF Gr ars) q,0≤b∧b<(m.toNat:Nat):=fun q b hb=>(ZM ga2 q b hb).1
  refine⟨a2,t2,m,ws,gaF Gr ars,rfl,W2,ga2,fun L rows H3 s3 lr LR=>?_⟩
  have LR:LL H3 L rows (ldF (gaF Gr ars)):=LR
  have s23:=s2.trans s3
  have lf:=fun i=>ldF_len W2 i
  have reach:∀(F:List Int),(∀p:Nat,p<m.toNat→lstF Gr (p:Int)∈F)→(∀x∈F,∀b∈ldF (gaF Gr ars) x.toNat,b∈F)→∀p:Nat,p<m.toNat→(p:Int)∈F:=fun F h1 h2 p hp=>by
   obtain⟨e1,e2,_⟩:=ok.lst hp
   obtain⟨r1',r2'⟩:=((ok.gr p hp).mem _).mp e2
   obtain⟨b0,b1⟩:=ok.bd hp e2
   have rr:=rch_ga ga ok (s:=lstF Gr (p:Int)) (x:=(p:Int)) (by omega) r2' r1'
   have go:∀x,Rch (ldF (gaF Gr ars)) (lstF Gr (p:Int)) x→x∈F:=fun x hx=>by
    induction hx with
    | refl=>exact h1 p hp
    | step _ e ih=>exact h2 _ ih _ e
   exact go _ rr
  have stp:∀(j:Nat)(b k:Int),b∈ldF (gaF Gr ars) j→Rc2 (ldF ars) (lstF Gr (j:Int)) (j:Int) k→Rc2 (ldF ars) (lstF Gr b) b (1-k):=fun j b k hb w=>by
   have hb:b∈ldI (gaF Gr ars) (j:Int):=hb
   obtain⟨h1,h2⟩:=List.mem_filter.mp (JW.mp hb)
   have h2:lstF Gr (j:Int)=lstF Gr b:=of_decide_eq_true h2
   rw[← h2]
   refine .step w ?_
   show b∈ldI ars (((j:Int).toNat:Nat):Int)
   rw[Int.toNat_natCast]
   exact JW.mpr h1
  generalize ldF (gaF Gr ars)=g at hf2 LR lf reach stp
  -- waiting
  refine⟨_,rfl,a,t,m,us,ars,Gr,rfl,W.mono s23,ga,m40,ok.gr,fun gl zs H4 s4 hgn hg tz=>?_⟩
  have lz:zs.length=(grL Gr m.toNat).length:=Paired.length tz
  have lg:=Qa Gr m.toNat
  refine⟨gl,rfl,⟨_,SqL.of hg⟩,Zm (xs:=zs) (fun i vs H'=>Same H4 H'∧vs=(((grL Gr m.toNat).take i).map fun R=>R.headD 0).map V.int) ⟨Same.refl _,rfl⟩ ?_ ?_ ?_⟩
  ·rintro i vs H' hi ⟨s5,rfl⟩
   refine⟨SqL.of (s5 _ _ hg),?_⟩
   rw[List.length_map,List.length_map,List.length_take]
   exact Nat.le_of_lt (Jj (by omega))
  rotate_left
  ·rintro i y vs H' hy hi ⟨s5,rfl⟩
   obtain⟨R,eR,p,rfl,hp⟩:=Paired.get' tz hy
   obtain⟨j,hj,rfl,hself⟩:=ok.of (List.mem_of_getElem? eR)
   obtain⟨hd,_,_⟩:=ok.lst hj
   refine⟨_,rfl,p,_,_,_,rfl,rfl,SqT.of (s5 _ _ hp),at0 hd,nx hi ⟨s5,?_⟩⟩
   rw[Ju _ _ _ eR,List.map_append,List.map_append]
   congr 1
  rintro vs H5 ⟨s5,rfl⟩ y hy
  rw[lz,List.take_of_length_le (Nat.le_refl _)]at *
  have Sb:∀x:Int,x∈(grL Gr m.toNat).map (fun R=>R.headD 0)→0≤x∧x<(m.toNat:Nat):=fun x hx=>by
   obtain⟨R,hR,rfl⟩:=List.mem_map.mp hx
   obtain⟨j,hj,rfl,hself⟩:=ok.of hR
   have e:(Gr j).headD 0=(j:Int):=by
    rw[← hself]
    unfold lstF
    rw[Int.toNat_natCast]
   show 0≤(Gr j).headD 0∧(Gr j).headD 0<_
   rw[e]
   omega
  have Sl:∀x:Int,x∈(grL Gr m.toNat).map (fun R=>R.headD 0)→lstF Gr x=x:=fun x hx=>by
   obtain⟨R,hR,rfl⟩:=List.mem_map.mp hx
   obtain⟨j,hj,rfl,hself⟩:=ok.of hR
   have e:(Gr j).headD 0=(j:Int):=by
    rw[← hself]
    unfold lstF
    rw[Int.toNat_natCast]
   show lstF Gr ((Gr j).headD 0)=(Gr j).headD 0
   rw[e]
   exact hself
  have Sm:∀p:Nat,p<m.toNat→lstF Gr (p:Int)∈(grL Gr m.toNat).map (fun R=>R.headD 0):=fun p hp=>List.mem_map.mpr ⟨Gr p,ok.mem hp,by unfold lstF;rw[Int.toNat_natCast]⟩
  have lS:((grL Gr m.toNat).map (fun R=>R.headD 0)).length≤40:=by rw[List.length_map];omega
  have s6:=s23.trans (s4.trans (s5.trans (Same.upd (o:=.lst (((grL Gr m.toNat).map fun R=>R.headD 0).map V.int)) hy)))
  have hyN:=Ya (s23.trans (s4.trans s5)) hy
  have hy6:(upd H5 y (.lst (((grL Gr m.toNat).map fun R=>R.headD 0).map V.int))) y=some (.lst (((grL Gr m.toNat).map fun R=>R.headD 0).map V.int)):=Jb
  have LR6:=LR.mono (s4.trans (s5.trans (Same.upd (o:=.lst (((grL Gr m.toNat).map fun R=>R.headD 0).map V.int)) hy)))
  have nly:∀b o,H5 b=some o→b≠y:=fun b o e=>Jg e hy
  have LR5:=LR.mono (s4.trans s5)
  generalize upd H5 y (.lst (((grL Gr m.toNat).map fun R=>R.headD 0).map V.int))=H6 at s6 hy6 LR6
  generalize (grL Gr m.toNat).map (fun R=>R.headD 0)=S at hy6 Sb Sm lS Sl
  -- sides
  refine fun d hd=>?_
  refine Jo ?_
  dsimp only[List.set]
  have hdN:=Ya s6 hd
  have s7:=s6.trans (Same.upd (o:=.dK []) hd)
  have hd7:(upd H6 d (.dK [])) d=some (.dK []):=Jb
  have hy7:=Same.upd (o:=.dK []) hd _ _ hy6
  have LR7:=LR6.mono (Same.upd (o:=.dK []) hd)
  have ndy:d≠y:=fun z=>by
   rw[z,hy6]at hd
   cases hd
  have LRr:∀ j r,rows[j]?=some r→r≠y∧r≠d:=fun j r e=>⟨nly _ _ (LR5.row j r e),fun z=>by
   have:=LR6.row j r e
   rw[z,hd]at this
   cases this⟩
  have LRt:L≠y∧L≠d:=⟨nly _ _ LR5.top,fun z=>by
   have:=LR6.top
   rw[z,hd]at this
   cases this⟩
  generalize upd H6 d (.dK [])=H7 at s7 hd7 hy7 LR7
  refine⟨_,rfl,y,rfl,⟨_,SqL.of hy7⟩,YO (K:=K) (xs:=S.map V.int) (fun i σ H8=>∃(kvs:List (Key×V))(D:List Int)(v4 v5 v6:Option V),σ=[some (.ref a),some (.ref L),some (.ref y),some (.ref d),v4,v5,v6]∧SameBut d H7 H8∧H8 d=some (.dK kvs)∧SD m.toNat (fun p k=>Rc2 (ldF ars) (lstF Gr p) p k) kvs D∧(∀x∈S.take i,x∈D)∧(∀x∈D,x∈S)∧kvs.length≤i) ⟨[],[],_,_,_,rfl,SameBut.refl _ _,hd7,SD.nil,fun x hx=>by simp at hx,fun x hx=>(nomatch hx),Nat.le_refl _⟩ (fun i σ H8 _ ⟨_,_,_,_,_,_,s8,_⟩=>SqL.of (s8 _ _ (Ne.symm ndy) hy7)) ?_ ?_⟩
  ·rintro i x σ H8 hx ⟨kvs,D,v4,v5,v6,rfl,s8,hd8,sd,tk,sub,lk⟩
   rw[List.getElem?_map]at hx
   obtain⟨p,hxp,rfl⟩:=Option.map_eq_some_iff.mp hx
   have hpS:=List.mem_of_getElem? hxp
   have pb:=Sb p hpS
   have li:i<S.length:=(List.getElem?_eq_some_iff.mp hxp).1
   have lp:=JN kvs (Sum.inl p) (V.int 0)
   refine⟨_,rfl,_,rfl,d,_,rfl,DPut.k (k:=Sum.inl p) hd8 (Jj (by omega)),putK kvs (Sum.inl p) (.int 0),_,_,_,_,rfl,fun b o nb e=>?_,Jb,sd.put pb (by show Rc2 _ (lstF Gr p) p 0;rw[Sl p hpS];exact .refl),fun x hx=>?_,fun x hx=>?_,by omega⟩
   ·rw [Jh nb]
    exact s8 _ _ nb e
   ·rw [Ju _ _ _ hxp] at hx
    by_cases c:p∈D
    ·rw [if_pos c]
     rcases List.mem_append.mp hx with z|z
     ·exact tk x z
     ·rw [List.mem_singleton.mp z]
      exact c
    ·rw [if_neg c]
     rcases List.mem_append.mp hx with z|z
     ·exact List.mem_append_left _ (tk x z)
     ·exact List.mem_append_right _ z
   ·by_cases c:p∈D
    ·rw [if_pos c] at hx
     exact sub x hx
    ·rw [if_neg c] at hx
     rcases List.mem_append.mp hx with z|z
     ·exact sub x z
     ·rw [List.mem_singleton.mp z]
      exact hpS
  rintro σ H8 ⟨kvs0,D0,v4,v5,v6,rfl,s8,hd8,sd0,tk0,sub0,lk0⟩
  rw[List.length_map,List.take_of_length_le (Nat.le_refl _)]at tk0
  rw[List.length_map]at lk0
  have hy8:=s8 _ _ (Ne.symm ndy) hy7
  have s08:Same H H8:=fun b o e=>s8 _ _ (Jg e hdN) (s7 _ _ e)
  have LR8:LL H8 L rows g:=⟨s8 _ _ LRt.2 LR7.top,fun j r e=>s8 _ _ (LRr j r e).2 (LR7.row j r e)⟩
  have lD0:=Yw (n:=m.toNat) sd0.nd fun x hx=>sd0.bd x hx
  -- what stays while it goes on
  have keepL:∀{H9:Hp}{o1 o2:HO},LL H9 L rows g→LL (upd (upd H9 d o1) y o2) L rows g:=fun {H9 o1 o2} h=>⟨by rw[Jh LRt.1,Jh LRt.2];exact h.top,fun j r e=>by rw[Jh (LRr j r e).1,Jh (LRr j r e).2];exact h.row j r e⟩
  have keepY:∀{H9:Hp}{o2:HO},LL H9 L rows g→LL (upd H9 y o2) L rows g:=fun {H9 o2} h=>⟨by rw[Jh LRt.1];exact h.top,fun j r e=>by rw[Jh (LRr j r e).1];exact h.row j r e⟩
  have keep:∀{H3:Hp}{o1 o2:HO},Same H H3→Same H (upd (upd H3 d o1) y o2):=fun {H3 o1 o2} s3 b o e=>by
   rw[Jh (Jg e hyN),Jh (Jg e hdN)]
   exact s3 _ _ e
  refine⟨fun μ σ H3=>∃(kvs:List (Key×V))(F Q:List Int)(v4 v5 v6:Option V),σ=[some (.ref a),some (.ref L),some (.ref y),some (.ref d),v4,v5,v6]∧Same H H3∧LL H3 L rows g∧H3 d=some (.dK kvs)∧H3 y=some (.lst (Q.map V.int))∧SD m.toNat (fun p k=>Rc2 (ldF ars) (lstF Gr p) p k) kvs F∧(∀x∈S,x∈F)∧(∀x∈Q,x∈F)∧(∀x∈F,x∉Q→∀b∈g x.toNat,b∈F)∧kvs.length≤40+F.length∧2*(m.toNat-F.length)+Q.length≤200∧μ=2*(m.toNat-F.length)+Q.length,⟨_,kvs0,D0,S,_,_,_,rfl,s08,LR8,hd8,hy8,sd0,tk0,fun x hx=>tk0 x hx,fun x hx hn=>absurd (sub0 x hx) hn,by omega,by omega,rfl⟩,?_⟩
  rintro μ σ H3 ⟨kvs,F,Q',v4,v5,v6,rfl,s3,LR3,hd3,hy3,sd,pF,wF,cl,lk,hm,rfl⟩
  have lF:=Yw (n:=m.toNat) sd.nd fun x hx=>sd.bd x hx
  refine⟨_,rfl,c0,fun z hz=>?_⟩
  have sz:=Same.upd (o:=.lst []) hz
  have s3z:=s3.trans sz
  have hd3z:=sz _ _ hd3
  have hy3z:=sz _ _ hy3
  have LR3z:=LR3.mono sz
  refine⟨y,z,_,rfl,rfl,SqL.of hy3z,SqL.of Jb,_,rfl,?_⟩
  generalize upd H3 z (.lst [])=H4 at s3z hd3z hy3z LR3z
  refine ite2 (fun c=>?_) (fun c=>?_)
  ·have wne:Q'≠[]:=fun e=>by
    rw[e]at c
    exact absurd c (by decide)
   obtain⟨W',h,rfl⟩:∃W' h,Q'=W'++[h]:=⟨Q'.dropLast,Q'.getLast wne,(List.dropLast_concat_getLast wne).symm⟩
   have hF:h∈F:=wF h (List.mem_append_right _ (List.mem_singleton.mpr rfl))
   have hb:=sd.bd h hF
   obtain⟨j,rfl⟩:∃j:Nat,h=(j:Int):=⟨h.toNat,by omega⟩
   refine⟨fun σ' H'=>∃μ',μ'<2*(m.toNat-F.length)+(W'++[(j:Int)]).length∧∃(kvs:List (Key×V))(F Q:List Int)(v4 v5 v6:Option V),σ'=[some (.ref a),some (.ref L),some (.ref y),some (.ref d),v4,v5,v6]∧Same H H'∧LL H' L rows g∧H' d=some (.dK kvs)∧H' y=some (.lst (Q.map V.int))∧SD m.toNat (fun p k=>Rc2 (ldF ars) (lstF Gr p) p k) kvs F∧(∀x∈S,x∈F)∧(∀x∈Q,x∈F)∧(∀x∈F,x∉Q→∀b∈g x.toNat,b∈F)∧kvs.length≤40+F.length∧2*(m.toNat-F.length)+Q.length≤200∧μ'=2*(m.toNat-F.length)+Q.length,fun _ _ z=>z,?_⟩
   rw[List.length_append,List.length_singleton]at hm
   have lW:((W'++[(j:Int)]).map V.int).length=W'.length+1:=by rw[List.length_map,List.length_append,List.length_singleton]
   refine⟨_,rfl,.inl ⟨rfl,_,SqL.of hy3z⟩,y,_,.int (j:Int),rfl,rfl,hy3z,?_,?_⟩
   ·rw [lW,List.map_append,List.getElem?_append_right (by rw [List.length_map]; omega),List.length_map]
    simp
   have dl:((W'++[(j:Int)]).map V.int).dropLast=W'.map V.int:=by
    rw[List.map_append]
    exact List.dropLast_concat
   rw[dl]
   have s5:Same H (upd H4 y (.lst (W'.map V.int))):=fun b o e=>by
    rw[Jh (Jg e hyN)]
    exact s3z _ _ e
   have hd5:(upd H4 y (.lst (W'.map V.int))) d=some (.dK kvs):=by
    rw[Jh ndy]
    exact hd3z
   have hy5:(upd H4 y (.lst (W'.map V.int))) y=some (.lst (W'.map V.int)):=Jb
   have LR5':=keepY (o2:=.lst (W'.map V.int)) LR3z
   generalize upd H4 y (.lst (W'.map V.int))=H5' at s5 hd5 hy5 LR5'
   refine Jo ?_
   dsimp only[List.set]
   have hj:j<rows.length:=by omega
   have er:rows[j]?=some rows[j]:=by simp[hj]
   have lfj:=lf j
   refine⟨_,rfl,_,rfl,L,_,_,.ref rows[j],rfl,rfl,SqL.of LR5'.top,Yx (by rw[List.getElem?_map,er];rfl),rows[j],rfl,⟨_,SqL.of (LR5'.row j _ er)⟩,YO (K:=K) (xs:=(g j).map V.int) (fun i σ H6=>∃(kvs2:List (Key×V))(F2 W2:List Int)(v6:Option V),σ=[some (.ref a),some (.ref L),some (.ref y),some (.ref d),v4,some (.int (j:Int)),v6]∧Same H H6∧LL H6 L rows g∧H6 d=some (.dK kvs2)∧H6 y=some (.lst (W2.map V.int))∧SD m.toNat (fun p k=>Rc2 (ldF ars) (lstF Gr p) p k) kvs2 F2∧(∀x∈F,x∈F2)∧(∀x∈W2,x∈F2)∧(∀x∈F2,x∉W2→x≠(j:Int)→∀b∈g x.toNat,b∈F2)∧(∀b∈(g j).take i,b∈F2)∧kvs2.length≤40+F2.length∧2*(m.toNat-F2.length)+W2.length≤2*(m.toNat-F.length)+W'.length) ⟨kvs,F,W',_,rfl,s5,LR5',hd5,hy5,sd,fun x hx=>hx,fun x hx=>wF x (List.mem_append_left _ hx),fun x hx hn hne=>cl x hx (fun z=>?_),fun b hb=>by simp at hb,lk,by omega⟩ (fun i σ H6 _ ⟨_,_,_,_,_,_,LR6',_⟩=>SqL.of (LR6'.row j _ er)) ?_ ?_⟩
   ·rcases List.mem_append.mp z with z | z
    ·exact hn z
    ·exact hne (List.mem_singleton.mp z)
   ·rintro i x σ H6 hx ⟨kvs2,F2,W2,v6,rfl,s6,LR6',hd6,hy6,sd2,sub,w2,cl2,tk,lk2,me⟩
    rw[List.getElem?_map]at hx
    obtain⟨b,hb',rfl⟩:=Option.map_eq_some_iff.mp hx
    have g1:DGet H6 d (.int b) (valV kvs2 (Sum.inl b)):=DGet.k (k:=Sum.inl b) hd6
    refine⟨_,rfl,_,rfl,d,_,rfl,g1,_,rfl,?_⟩
    rw[sd2.mem]
    have ts:=Ju _ _ _ hb'
    refine ite2 (fun c2=>?_) (fun c2=>?_)
    ·have c2:b ∉ F2:=by simpa using c2
     have bb:=hf2 j b (List.mem_of_getElem? hb')
     obtain⟨k2,ek2,wk2⟩:=sd2.at (sub _ hF)
     have g2:=DGet.k (k:=Sum.inl (j:Int)) hd6
     rw[ek2]at g2
     have sd3:=sd2.put bb (k:=1-k2) (stp j b k2 (List.mem_of_getElem? hb') wk2)
     rw[if_neg c2]at sd3
     have l3:=Yw (n:=m.toNat) sd3.nd fun x hx=>sd3.bd x hx
     rw[List.length_append,List.length_singleton]at l3
     have lp:=JN kvs2 (Sum.inl b) (V.int (1-k2))
     refine⟨_,rfl,_,rfl,d,.int k2,rfl,g2,_,_,rfl,rfl,_,rfl,_,rfl,d,_,rfl,DPut.k (k:=Sum.inl b) hd6 (Jj (by omega)),?_⟩
     have hy7':(upd H6 d (.dK (putK kvs2 (Sum.inl b) (.int (1-k2))))) y=some (.lst (W2.map V.int)):=by
      rw[Jh (Ne.symm ndy)]
      exact hy6
     refine⟨_,rfl,.inl ⟨rfl,_,SqL.of hy7'⟩,_,rfl,y,_,_,rfl,rfl,hy7',by rw[List.length_map];exact Wc (by omega),?_⟩
     refine⟨putK kvs2 (Sum.inl b) (.int (1-k2)),F2++[b],W2++[b],_,rfl,keep s6,keepL LR6',?_,?_,sd3,fun x hx=>List.mem_append_left _ (sub x hx),fun x hx=>?_,fun x hx hn hne b2 hb2=>?_,fun b2 hb2=>?_,?_,?_⟩
     ·rw [Jh ndy]
      exact Jb
     ·rw [Jb,List.map_append]
      rfl
     ·rcases List.mem_append.mp hx with z | z
      ·exact List.mem_append_left _ (w2 x z)
      ·exact List.mem_append_right _ z
     ·rcases List.mem_append.mp hx with z | z
      ·exact List.mem_append_left _ (cl2 x z (fun q=>hn (List.mem_append_left _ q)) hne b2 hb2)
      ·exact absurd (List.mem_append_right _ z) hn
     ·rw [ts] at hb2
      rcases List.mem_append.mp hb2 with z|z
      ·exact List.mem_append_left _ (tk b2 z)
      ·rw [List.mem_singleton.mp z]
       exact List.mem_append_right _ (List.mem_singleton.mpr rfl)
     ·rw [List.length_append,List.length_singleton]
      omega
     ·rw [List.length_append,List.length_append,List.length_singleton]
      omega
    ·have c2:b∈F2:=by simpa using c2
     refine⟨kvs2,F2,W2,_,rfl,s6,LR6',hd6,hy6,sd2,sub,w2,cl2,fun b2 hb2=>?_,lk2,me⟩
     rw[ts]at hb2
     rcases List.mem_append.mp hb2 with z|z
     ·exact tk b2 z
     ·rw [List.mem_singleton.mp z]
      exact c2
   ·rintro σ H6 ⟨kvs2,F2,W2,v6,rfl,s6,LR6',hd6,hy6,sd2,sub,w2,cl2,tk,lk2,me⟩
    rw[List.length_map,List.take_of_length_le (Nat.le_refl _)]at tk
    refine⟨_,?_,kvs2,F2,W2,_,_,_,rfl,s6,LR6',hd6,hy6,sd2,fun x hx=>sub x (pF x hx),w2,fun x hx hn b hb2=>?_,lk2,?_,rfl⟩
    ·rw [List.length_append,List.length_singleton]
     omega
    ·by_cases e:x=(j:Int)
     ·subst e
      exact tk b hb2
     ·exact cl2 x hx hn e b hb2
    ·omega
  ·have we:Q'=[]:=by
    cases Q' with
    | nil=>rfl
    | cons x r=>exact absurd rfl c
   subst we
   have allF:∀p:Nat,p<m.toNat→(p:Int)∈F:=reach F (fun p hp=>pF _ (Sm p hp)) fun x hx b hb2=>cl x hx (by simp) b hb2
   refine⟨_,rfl,a,_,_,_,rfl,rfl,SqT.of (s3z _ _ W.top),rfl,m,rfl,by omega,by omega,Zd (n:=m.toNat) (fun i vs H'=>Same H4 H'∧∃ks:List Int,vs=ks.map V.int∧ks.length=i∧∀p:Nat,p<i→Rc2 (ldF ars) (lstF Gr (p:Int)) (p:Int) (ks.getD p 0)) ⟨Same.refl _,[],rfl,rfl,fun k hk=>absurd hk (Nat.not_lt_zero _)⟩ ?_ ?_ ?_⟩
   ·rintro i vs H' hi ⟨s5,ks,rfl,rfl,_⟩
    rw[List.length_map]
    exact Nat.le_of_lt (Jj (by omega))
   ·rintro vs H' ⟨s5,ks,rfl,lks,bks⟩ l2 hl2
    refine⟨l2,_,rfl,.inl ⟨SqL.of Jb,fun e he=>kk e ks _ (s3z.trans (s5.trans ((Same.upd hl2).trans (Same.upd he)))) Jb (by omega) bks⟩⟩
   ·rintro i vs H' hi ⟨s5,ks,rfl,lks,bks⟩
    obtain⟨k,ek,wk⟩:=sd.at (allF i hi)
    have g1:=DGet.k (k:=Sum.inl (i:Int)) (s5 _ _ hd3z)
    rw[ek]at g1
    refine⟨_,rfl,_,rfl,d,.int k,rfl,by rw[Int.zero_add];exact g1,nx hi ⟨s5,ks++[k],by rw[List.map_append];rfl,by rw[List.length_append,lks];rfl,fun x hx=>?_⟩⟩
    by_cases e:x<i
    ·have:=bks x e
     rw[List.getD_eq_getElem?_getD]at this ⊢
     rw[List.getElem?_append_left (by omega)]
     exact this
    ·have e:x=ks.length:=by omega
     rw[List.getD_eq_getElem?_getD,e,List.getElem?_append_right (Nat.le_refl _),Nat.sub_self,lks]
     exact wk
end
end Hk
namespace Hk
open PySem L2 PySem.W
def el01:V→Bool
 | .int n=>decide (0≤n) && decide (n≤1)
 | _=>false
theorem el01_isI{ys:List V}(h:ys.all el01=true):ys.all isI=true∧∀x∈Jt ys,0≤x∧x≤1:=by
 induction ys with
 | nil=>exact ⟨rfl,fun x hx=>(nomatch hx)⟩
 | cons y r ih =>
  rw[List.all_cons,Bool.and_eq_true]at h
  obtain⟨i1,i2⟩:=ih h.2
  cases y with
  | int n =>
   have h1:(decide ((0:Int)≤n)&&decide (n≤1))=true:=h.1
   rw[Bool.and_eq_true]at h1
   refine⟨by rw[List.all_cons,i1];rfl,fun x hx=>?_⟩
   rcases List.mem_cons.mp (show x∈n::Jt r from hx)with rfl|z
   ·exact ⟨of_decide_eq_true h1.1,of_decide_eq_true h1.2⟩
   ·exact i2 x z
  | _=>exact absurd h.1 (by simp [el01])
theorem isI_el01:∀{ys:List V},ys.all isI=true→(∀x∈Jt ys,0≤x∧x≤1)→ys.all el01=true
 | [],_,_=>rfl
 | y::r,h,g=>by
  rw[List.all_cons,Bool.and_eq_true]at h
  cases y with
  | int n =>
   have g0:=g n (show n∈n::Jt r from List.mem_cons_self)
   have g1:=isI_el01 (ys:=r) h.2 fun x hx=>g x (show x∈n::Jt r from List.mem_cons_of_mem _ hx)
   rw[List.all_cons,g1]
   show((decide ((0:Int)≤n)&&decide (n≤1))&&true)=true
   rw[decide_eq_true g0.1,decide_eq_true g0.2]
   rfl
  | _=>exact absurd h.1 (by simp [isI])
section
variable{P:Program}{w:World}{K:Frag}{mg:Str→Option Value}{base:Heap}
def spSideG:Sp:=fun vs H Q _=>∃(a t:Addr)(m:Int)(us:List V)(ars:List (Int×Int))(Gr:Nat→List Int)(x:V)(o:Option (List V)),vs=[.ref a,x]∧Web H a t m us ars∧JE m ars∧1≤m∧m≤40∧GrOk (ldF ars) m.toNat Gr∧Thing H x o∧(∀ys,o=some ys→ys.length≤1000) ∧
 ∀(b:Bool)(H':Hp),Same H H'→(b=true↔SdG Gr m ars o)→Q (.bl b) H'
theorem kn_sideG(D:DefAt K mg "sides_good" ZO ["web","thing"])(fr:Free mg ["all","any","isinstance","len","tuple"])(kw:Kn P w K mg base 1 "whole_good" ["thing"] spWhole)(kg:Kn P w K mg base 2 "groups_of" ["web"] WZ)(kr:Kn P w K mg base 4 "group_arrows" ["web"] spGA):Kn P w K mg base 5 "sides_good" ["web","thing"] spSideG:=by
 have sc:FnScope ["web","thing"] ["web","thing"] (Jl ZO):=⟨rfl,rfl,rfl,by decide +kernel,rfl,by decide +kernel,by decide +kernel⟩
 refine D.kn (N:=["web","thing"]) sc (fun vs H Q E h=>?_) (fun fa cdv A outer s H vs Q E hr h=>?_)
 ·obtain ⟨a,t,m,us,ars,Gr,x,o,rfl,_⟩:=h
  rfl
 ·obtain ⟨a,t,m,us,ars,Gr,x,o,rfl,W,ga,m1,m40,ok,th,hlen,kk⟩:=h
  have r1:=hr.mono (j:=1) (by decide)
  have r2:=hr.mono (j:=2) (by decide)
  have m_all:=fr "all" (by simp)
  have m_any:=fr "any" (by simp)
  have m_isinstance:=fr "isinstance" (by simp)
  have m_len:=fr "len" (by simp)
  have m_tuple:=fr "tuple" (by simp)
  have nd0:(["side"]:List Str).Nodup:=by decide +kernel
  have nd1:(["side"]:List Str).Nodup:=by decide +kernel
  have nd2:(["group","thing"]:List Str).Nodup:=by decide +kernel
  have nd3:(["group","thing"]:List Str).Nodup:=by decide +kernel
  have nd4:(["a","b","thing"]:List Str).Nodup:=by decide +kernel
  have nd5:(["a","b","thing"]:List Str).Nodup:=by decide +kernel
  refine⟨_,(Jd (JU (PW.pt (Qu (Wo (Yq (Jr Uq rfl m_isinstance Wy (Ja (pv 1) (Ja (Ug (v:=.ty "tuple") rfl m_tuple JB rfl) Jc))))) (WS (Js UL (Jr Ym rfl m_len PySem.boot_len (Ja (pv 1) Jc)) (Jx JA (pv 0) Ji (fun _ _=>rfl)) (Jq _))))) (Je (Jm JY)) Jy) (Jd (JU (Wo (Yq (Jr (Yk rfl) rfl m_all YG (Ja (Ye (N:=["side"]) (src:=[none]) (cl:=[]) rfl ⟨rfl,rfl,rfl,rfl,trivial,rfl,rfl,rfl⟩ (Jw (i:=0) rfl) (YC (pv 1)) (fun C s H fp=>⟨(Jk (i:=0) nd1 rfl (Or.inl rfl)),JG,(Wq (Jp kw r1 (Ja (pv 0) Jc)) (WT (pe_chain op_le op_le Ji (pv 0) Ji)))⟩)) Jc)))) (Je (Jm JY)) Jy) (Jd (JU (Yq (Jr (Wx rfl) rfl m_any UF (Ja (Ye (N:=["group","thing"]) (src:=[none,some 1]) rfl ⟨rfl,rfl,rfl,rfl,⟨⟨rfl,rfl⟩,trivial⟩,rfl,rfl,rfl⟩ (Jw (i:=0) rfl) (JR (Jp kg r2 (Ja (pv 0) Jc))) (fun C s H fp=>⟨(Jk (i:=0) nd3 rfl (Or.inl rfl)),JG,(Yf UL (Jx (r:=rIxT K) JA (pv 1) (Jx (r:=rIxT K) JA (pv 0) Ji (fun _ _=>rfl)) (fun _ _=>rfl)) Ji (Jq _))⟩)) Jc))) (Je (Jm JY)) Jy) (Je (Jm (Jr (Yk rfl) rfl m_all YG (Ja (Ye (N:=["a","b","thing"]) (src:=[none,none,some 1]) rfl ⟨rfl,rfl,rfl,rfl,⟨⟨rfl,rfl⟩,trivial⟩,rfl,rfl,rfl⟩ (YF (i:=0) (j:=1) rfl rfl) (JR (Jp kr hr (Ja (pv 0) Jc))) (fun C s H fp=>⟨(YV (n:=2) rfl (Jz (Jk (i:=0) nd5 rfl (Or.inl rfl)) (Jz (Jk (i:=1) nd5 rfl (Or.inl rfl)) Yr))),JG,(Yf UL (Jx (r:=rIxT K) JA (pv 2) (pv 0) (fun _ _=>rfl)) (Jx (r:=rIxT K) JA (pv 2) (pv 1) (fun _ _=>rfl)) (Jq _))⟩)) Jc))))))),?_⟩
  cases th with
  | oth d n =>
   refine⟨_,rfl,_,"tuple",_,rfl,d,by simp,_,rfl,?_⟩
   rename_i T
   have e:kitB T "tuple"=false:=by
    unfold kitB
    simp[n]
   rw[e]
   exact iteT (kk false H (Same.refl H) ⟨fun z=>(nomatch z),fun⟨ys,e,_⟩=>(nomatch e)⟩)
  | tup hp ty z =>
   rename_i p ys
   have ly:=hlen ys rfl
   refine⟨_,rfl,_,"tuple",_,rfl,.tup hp,by simp,_,rfl,iteF ?_⟩
   refine⟨_,rfl,p,_,rfl,.inr (SqT.of hp),_,rfl,a,_,_,_,rfl,rfl,SqT.of W.top,rfl,rfl,_,rfl,?_⟩
   by_cases hl:(ys.length:Int)=m
   case neg =>
    rw[show(!decide (V.int (ys.length:Int)=V.int m))=true by simp[hl]]
    refine iteT (kk false H (Same.refl H) ⟨fun z=>(nomatch z),fun⟨ys',e,e2,_⟩=>?_⟩)
    cases e
    exact absurd e2 hl
   refine iteNS (by rw[hl]) ?_
   refine⟨_,rfl,p,rfl,⟨ys,SqT.of hp⟩,Uk (xs:=ys) (fun i zs H'=>Same H H'∧zs=(ys.take i).map fun q=>V.bl (el01 q)) ⟨Same.refl _,rfl⟩ ?_ ?_ ?_⟩
   ·rintro i zs H' hi ⟨s2,rfl⟩
    refine⟨SqT.of (s2 _ _ hp),?_⟩
    rw[List.length_map,List.length_take]
    exact Nat.le_of_lt (Jj (by omega))
   rotate_left
   ·rintro i y zs H' h1 hi ⟨s2,rfl⟩
    obtain⟨T,dy⟩:=ty y (List.mem_of_getElem? h1)
    have dy:=dy.mono s2
    have ts:(ys.take (i+1)).map (fun q=>V.bl (el01 q))=(ys.take i).map (fun q=>V.bl (el01 q))++[V.bl (el01 y)]:=by
     rw[Ju _ _ _ h1,List.map_append]
     rfl
    refine⟨_,rfl,y,T,rfl,dy,_,rfl,?_⟩
    cases dy with
    | int n =>
     refine iteT ?_
     refine⟨_,rfl,_,_,rfl,rfl,_,rfl,ite2 (fun h1=>?_) (fun h1=>?_)⟩
     ·refine ⟨_,_,rfl,rfl,nx hi ⟨s2,?_⟩⟩
      rw[ts]
      have e:el01 (.int n)=decide (n≤1):=by
       show(decide ((0:Int)≤n)&&decide (n≤1))=_
       rw[show decide ((0:Int)≤n)=true from h1]
       rfl
      rw[e]
     ·refine nx hi ⟨s2,?_⟩
      rw[ts]
      have e:el01 (.int n)=false:=by
       show(decide ((0:Int)≤n)&&decide (n≤1))=_
       rw[show decide ((0:Int)≤n)=false from Bool.eq_false_iff.mpr h1]
       rfl
      rw[e]
    | _=>exact iteF (nx hi ⟨s2,by rw [ts]; rfl⟩)
   rintro zs H1 ⟨s1,rfl⟩ l1 hl1
   rw[List.take_of_length_le (Nat.le_refl _)]
   have s2:=s1.trans (Same.upd (o:=.lst (ys.map fun q=>V.bl (el01 q))) hl1)
   refine⟨l1,ys.map el01,rfl,?_,_,rfl,?_⟩
   ·refine SqL.of ?_
    rw[Jb,List.map_map]
    rfl
   generalize upd H1 l1 (.lst (ys.map fun q=>V.bl (el01 q)))=H2 at s2
   have e2:(ys.map el01).all id=ys.all el01:=by rw[List.all_map];rfl
   rw[e2]
   by_cases h01:ys.all el01=true
   case neg =>
    rw[Bool.eq_false_iff.mpr h01]
    refine iteT (kk false H2 s2 ⟨fun z=>(nomatch z),fun⟨ys',e,_,i1,i2⟩=>?_⟩)
    cases e
    exact absurd (isI_el01 i1 i2.r01) h01
   rw[h01]
   refine iteF ?_
   obtain⟨hI,r01⟩:=el01_isI h01
   have ey:=UN hI
   have fin:∀ b:Bool,(b=true↔(∀ p:Nat,p < m.toNat→(Jt ys).getD (lstF Gr (p:Int)).toNat 0=0)∧∀ q∈ars,lstF Gr q.1=lstF Gr q.2→(Jt ys).getD q.1.toNat 0≠(Jt ys).getD q.2.toNat 0)→(b=true↔SdG Gr m ars (some ys)):=fun b h=>h.trans ⟨fun ⟨h1,h2⟩=>⟨ys,rfl,hl,hI,r01,h1,h2⟩,fun ⟨ys',e,_,_,sp⟩=>by
    cases e
    exact ⟨sp.zero,sp.dif⟩⟩
   generalize Jt ys=ns at ey r01 fin
   have ln:(ns.length:Int)=m:=by rw[← hl,ey,List.length_map]
   rw[ey]at hp
   have hp2:=s2 _ _ hp
   -- the least places
   refine⟨_,rfl,a,t,m,us,ars,Gr,rfl,W.mono s2,ga,m40,ok.gr,fun gl zs H3 s3 hgn hg tz=>?_⟩
   have lz:zs.length=(grL Gr m.toNat).length:=Paired.length tz
   have lg:=Qa Gr m.toNat
   have hp3:=s3 _ _ hp2
   refine⟨gl,rfl,⟨_,SqL.of hg⟩,Zm (xs:=zs) (fun i vs H'=>Same H3 H'∧vs=((grL Gr m.toNat).take i).map fun R=>V.bl (!decide (V.int (ns.getD (R.headD 0).toNat 0)=V.int 0))) ⟨Same.refl _,rfl⟩ ?_ ?_ ?_⟩
   ·rintro i vs H' hi ⟨s5,rfl⟩
    refine⟨SqL.of (s5 _ _ hg),?_⟩
    rw[List.length_map,List.length_take]
    exact Nat.le_of_lt (Jj (by omega))
   rotate_left
   ·rintro i y vs H' hy hi ⟨s5,rfl⟩
    obtain⟨R,eR,pR,rfl,hpR⟩:=Paired.get' tz hy
    obtain⟨j,hj,rfl,hself⟩:=ok.of (List.mem_of_getElem? eR)
    obtain⟨hd,_,_⟩:=ok.lst hj
    have e:(Gr j).headD 0=(j:Int):=by
     rw[← hself]
     unfold lstF
     rw[Int.toNat_natCast]
    rw[hself]at hd
    refine⟨_,rfl,_,rfl,pR,_,_,_,rfl,rfl,SqT.of (s5 _ _ hpR),at0 hd,p,_,_,_,rfl,rfl,SqT.of (s5 _ _ hp3),UH (by omega) (by omega),rfl,nx hi ⟨s5,?_⟩⟩
    rw[Ju _ _ _ eR,List.map_append]
    show _++[V.bl (!decide (V.int (ns.getD (j:Int).toNat 0)=V.int 0))]=_++[V.bl (!decide (V.int (ns.getD ((Gr j).headD 0).toNat 0)=V.int 0))]
    rw[e]
   rintro vs H4 ⟨s4,rfl⟩ l2 hl2
   rw[lz,List.take_of_length_le (Nat.le_refl _)]
   have s5:=s4.trans (Same.upd (o:=.lst ((grL Gr m.toNat).map fun R=>V.bl (!decide (V.int (ns.getD (R.headD 0).toNat 0)=V.int 0)))) hl2)
   refine⟨l2,(grL Gr m.toNat).map fun R=>!decide (V.int (ns.getD (R.headD 0).toNat 0)=V.int 0),rfl,?_,?_⟩
   ·refine SqL.of ?_
    rw[Jb,List.map_map]
    rfl
   generalize upd H4 l2 (.lst ((grL Gr m.toNat).map fun R=>V.bl (!decide (V.int (ns.getD (R.headD 0).toNat 0)=V.int 0))))=H5 at s5
   have eA:(((grL Gr m.toNat).map fun R=>!decide (V.int (ns.getD (R.headD 0).toNat 0)=V.int 0)).any id=false)↔∀p:Nat,p<m.toNat→ns.getD (lstF Gr (p:Int)).toNat 0=0:=by
    rw[List.any_map,List.any_eq_false]
    constructor
    ·intro h p hp
     have:=h (Gr p) (ok.mem hp)
     have e:(Gr p).headD 0=lstF Gr (p:Int):=by unfold lstF;rw[Int.toNat_natCast]
     have this:¬ (!decide (V.int (ns.getD ((Gr p).headD 0).toNat 0)=V.int 0))=true:=this
     rw[e]at this
     have:=of_decide_eq_true (by simpa using this:decide (V.int (ns.getD (lstF Gr (p:Int)).toNat 0)=V.int 0)=true)
     exact V.int.inj this
    ·intro h R hR
     obtain⟨j,hj,rfl,hself⟩:=ok.of hR
     have e:(Gr j).headD 0=lstF Gr (j:Int):=by unfold lstF;rw[Int.toNat_natCast]
     show ¬ (!decide (V.int (ns.getD ((Gr j).headD 0).toNat 0)=V.int 0))=true
     rw[e,h j hj]
     decide
   have s25:=s2.trans (s3.trans s5)
   by_cases hz:((grL Gr m.toNat).map fun R=>!decide (V.int (ns.getD (R.headD 0).toNat 0)=V.int 0)).any id=false
   case neg =>
    rw[Bool.not_eq_false]at hz
    rw[hz]
    refine⟨_,rfl,iteT (kk false H5 s25 (fin false ⟨fun z=>(nomatch z),fun⟨h1,_⟩=>?_⟩))⟩
    have:=eA.mpr h1
    rw[hz]at this
    cases this
   rw[hz]
   have zero:=eA.mp hz
   refine⟨_,rfl,iteF ?_⟩
   -- the arrows within groups
   refine⟨_,rfl,a,t,m,us,ars,Gr,rfl,W.mono s25,ga,m40,ok,fun l3 ws H6 s6 _ hl3 az=>?_⟩
   have lws:=JS az
   have lga:=List.length_filter_le (fun(q:Int×Int)=>decide (lstF Gr q.1=lstF Gr q.2)) ars
   have wl:=W.len
   have lu:=JS W.ars
   have hp6:=s6 _ _ (s5 _ _ hp3)
   have lws:ws.length≤1000:=by unfold gaF at lws;omega
   refine⟨l3,rfl,⟨_,SqL.of hl3⟩,Zm (xs:=ws) (fun i vs H'=>Same H6 H'∧vs=((gaF Gr ars).take i).map fun q=>V.bl (!decide (V.int (ns.getD q.1.toNat 0)=V.int (ns.getD q.2.toNat 0)))) ⟨Same.refl _,rfl⟩ ?_ ?_ ?_⟩
   ·rintro i vs H' hi ⟨s7,rfl⟩
    refine⟨SqL.of (s7 _ _ hl3),?_⟩
    rw[List.length_map,List.length_take]
    exact Nat.le_of_lt (Wc (by omega))
   ·rintro vs H7 ⟨s7,rfl⟩ l4 hl4
    have eL:(gaF Gr ars).take ws.length=gaF Gr ars:=List.take_of_length_le (by rw[JS az];exact Nat.le_refl _)
    rw[eL]
    refine⟨l4,(gaF Gr ars).map fun q=>!decide (V.int (ns.getD q.1.toNat 0)=V.int (ns.getD q.2.toNat 0)),rfl,?_,kk _ _ (s25.trans (s6.trans (s7.trans (Same.upd hl4)))) (fin _ ?_)⟩
    ·refine SqL.of ?_
     rw[Jb,List.map_map]
     rfl
    rw[List.all_map,List.all_eq_true]
    constructor
    ·intro h
     refine⟨zero,fun q hq e z=>?_⟩
     have:=h q (List.mem_filter.mpr ⟨hq,decide_eq_true e⟩)
     have this:(!decide (V.int (ns.getD q.1.toNat 0)=V.int (ns.getD q.2.toNat 0)))=true:=this
     rw[z,decide_eq_true rfl]at this
     cases this
    ·rintro ⟨_,h⟩ q hq
     obtain⟨h1,h2⟩:=List.mem_filter.mp hq
     have:=h q h1 (of_decide_eq_true h2)
     show(!decide (V.int (ns.getD q.1.toNat 0)=V.int (ns.getD q.2.toNat 0)))=true
     rw[decide_eq_false fun z=>this (V.int.inj z)]
     rfl
   ·rintro i y vs H7 hy hi ⟨s7,rfl⟩
    obtain⟨q,eq,r,rfl,hr'⟩:=Paired.get' az hy
    obtain⟨g1,g2,g3,g4,_⟩:=gaF_good ga q (List.mem_of_getElem? eq)
    refine⟨r,_,rfl,SqT.of (s7 _ _ hr'),rfl,_,_,rfl,_,_,rfl,rfl,_,rfl,_,rfl,p,_,_,_,rfl,rfl,SqT.of (s7 _ _ hp6),UH g1 (by omega),_,rfl,_,rfl,p,_,_,_,rfl,rfl,SqT.of (s7 _ _ hp6),UH g3 (by omega),rfl,nx hi ⟨s7,?_⟩⟩
    rw[Ju _ _ _ eq,List.map_append]
    rfl
end
end Hk
namespace Hk
open PySem L2 PySem.W
theorem Yt(ks:List Int):Jt (ks.map V.int)=ks:=by
 induction ks with
 | nil=>rfl
 | cons k r ih =>
  show k::Jt (r.map V.int)=_
  rw[ih]
theorem all_isI(ks:List Int):(ks.map V.int).all isI=true:=by
 rw[List.all_eq_true]
 intro v hv
 obtain⟨k,_,rfl⟩:=List.mem_map.mp hv
 rfl
section
variable{P:Program}{w:World}{K:Frag}{mg:Str→Option Value}{base:Heap}
def Qi:Sp:=fun vs H Q _=>∃(a t:Addr)(m:Int)(us:List V)(ars:List (Int×Int))(Gr:Nat→List Int),vs=[.ref a]∧Web H a t m us ars∧JE m ars∧1≤m∧m≤40∧GrOk (ldF ars) m.toNat Gr ∧
 ((∃s:Int,0≤s∧s<m∧Rc2 (ldF ars) s s 1)→∀H',Same H H'→Q .non H')∧∀(q:Addr)(ks:List Int)(H':Hp),Same H H'→H' q=some (.tup (ks.map V.int))→(ks.length:Int)=m→SideP Gr m.toNat ars ks→Q (.ref q) H'
theorem kn_sidesE(D:DefAt K mg "sides_of" WM ["web"])(kw:Kn P w K mg base 5 "walked_sides" ["web"] spWalk)(kg:Kn P w K mg base 5 "sides_good" ["web","thing"] spSideG):Kn P w K mg base 6 "sides_of" ["web"] Qi:=by
 have sc:FnScope ["web","sides"] ["web"] (Jl WM):=⟨rfl,rfl,rfl,by decide +kernel,rfl,by decide +kernel,by decide +kernel⟩
 refine D.kn (N:=["web","sides"]) sc (fun vs H Q E h=>?_) (fun fa cdv A outer s H vs Q E hr h=>?_)
 ·obtain ⟨a,t,m,us,ars,Gr,rfl,_⟩:=h
  rfl
 ·obtain ⟨a,t,m,us,ars,Gr,rfl,W,ga,m1,m40,ok,kn,kk⟩:=h
  refine⟨_,(Jd (Jn (i:=1) sc.nd rfl (Or.inl rfl) (Jp kw hr (Ja (pv 0) Jc))) (Jd (JU (Wo (Yq (Jp kg hr (Ja (pv 0) (Ja (pv 1) Jc))))) (Je (Jm YD)) Jy) (Je (Jm (pv 1))))),?_⟩
  refine⟨_,rfl,a,t,m,us,ars,Gr,rfl,W,ga,m1,m40,ok,fun q ks H1 s1 hq lk wk=>?_⟩
  refine⟨_,rfl,_,rfl,a,t,m,us,ars,Gr,.ref q,some (ks.map V.int),rfl,W.mono s1,ga,m1,m40,ok,.tup hq (fun y hy=>?_) ?_,(fun ys e=>?_),fun b H2 s2 hb=>⟨_,rfl,?_⟩⟩
  ·obtain ⟨n,_,rfl⟩:=List.mem_map.mp hy
   exact⟨_,.int n⟩
  ·rw [List.length_map]
   exact Nat.le_of_lt (Jj (by omega))
  ·cases e
   rw[List.length_map]
   omega
  ·cases b with
   | true =>
    obtain⟨ys,e,_,_,sp⟩:=hb.mp rfl
    cases e
    rw[Yt]at sp
    exact iteF ⟨_,rfl,kk q ks H2 (s1.trans s2) (s2 _ _ hq) lk sp⟩
   | false =>
    refine iteT (kn (walk_side ga ok lk wk fun sp=>?_) H2 (s1.trans s2))
    have:=hb.mpr ⟨_,rfl,by rw[List.length_map];exact lk,all_isI ks,by rw[Yt];exact sp⟩
    cases this
end
end Hk
namespace Hk
open PySem L2 PySem.W
theorem prKey_inj{a b:Int×Int}(h:JD a=JD b):a=b:=by
 unfold JD at h
 injection h with h1 h2
 injection h2 with h2 _
 exact Prod.ext (Sum.inl.inj h1) (Sum.inl.inj h2)
theorem Qv(a:Int×Int):(JD a).map kV=[V.int a.1,V.int a.2]:=rfl
structure PD(kvs:List (List Key×V))(D:List (Int×Int)):Prop where
 nd:D.Nodup
 mem:∀q:Int×Int,(valV kvs (JD q)).isSome=decide (q∈D)
 len:kvs.length≤D.length
theorem PD.one(q:Int×Int)(v:V):PD [(JD q,v)] [q]:=by
 refine⟨List.pairwise_singleton _ _,fun p=>?_,Nat.le_refl _⟩
 have e:valV [(JD q,v)] (JD p)=if JD p=JD q then some v else none:=by
  have:=YL ([]:List (List Key×V)) (JD q) (JD p) v
  rw[Uc v rfl]at this
  exact this
 rw[e]
 by_cases c:p=q
 ·subst c
  rw[if_pos rfl,decide_eq_true List.mem_cons_self]
  rfl
 ·rw [if_neg fun z=>c (prKey_inj z),decide_eq_false fun z=>c (List.mem_singleton.mp z)]
  rfl
theorem PD.put{kvs:List (List Key×V)}{D:List (Int×Int)}(h:PD kvs D){q:Int×Int}(hq:q∉D)(v:V):PD (putK kvs (JD q) v) (D++[q]):=by
 have hn:valV kvs (JD q)=none:=by
  have:=h.mem q
  rw[decide_eq_false hq]at this
  cases e:valV kvs (JD q) with
  | none=>rfl
  | some _=>rw [e] at this; cases this
 refine⟨List.nodup_append.mpr ⟨h.nd,List.pairwise_singleton _ _,fun a ha b hb e=>?_⟩,fun p=>?_,?_⟩
 ·rw [List.mem_singleton] at hb
  subst hb e
  exact hq ha
 ·rw [YL]
  by_cases c:p=q
  ·subst c
   rw[if_pos rfl,decide_eq_true (List.mem_append_right _ List.mem_cons_self)]
   rfl
  ·rw [if_neg fun z=>c (prKey_inj z),h.mem]
   refine decide_eq_decide.mpr ⟨fun z=>List.mem_append_left _ z,fun z=>?_⟩
   rcases List.mem_append.mp z with z|z
   ·exact z
   ·exact absurd (List.mem_singleton.mp z) c
 ·rw [Uc v hn,List.length_append,List.length_append]
  have:=h.len
  show kvs.length+1≤D.length+1
  omega
theorem Qw{n:Nat}{D:List (Int×Int)}(nd:D.Nodup)(h:∀q∈D,(0≤q.1∧q.1<n)∧(q.2=0∨q.2=1)):D.length≤2*n:=by
 have e:(D.map fun q=>2*q.1+q.2).Nodup:=by
  unfold List.Nodup
  rw[List.pairwise_map]
  refine List.Pairwise.imp_of_mem (fun {a b} ha hb hne e=>hne ?_) nd
  have h1:=h a ha
  have h2:=h b hb
  refine Prod.ext ?_ ?_<;>omega
 have:=Yw (n:=2*n) e fun x hx=>by
  obtain⟨q,hq,rfl⟩:=List.mem_map.mp hx
  have:=h q hq
  omega
 rw[List.length_map]at this
 exact this
end Hk
namespace Hk
open PySem L2
inductive Wk(f:Nat→List Int)(p:Int):Int→Nat→Prop where
 | refl:Wk f p p 0
 | step {q b:Int} {k:Nat}:Wk f p q k→b∈f q.toNat→Wk f p b (k + 1)
theorem Wk.rc2{f:Nat→List Int}{p x:Int}{k:Nat}(h:Wk f p x k):Rc2 f p x ((k%2:Nat):Int):=by
 induction h with
 | refl=>exact .refl
 | @step q b k _ e ih =>
  have e2:(((k+1)%2:Nat):Int)=1-((k%2:Nat):Int):=by omega
  rw[e2]
  exact .step ih e
theorem Rc2.wk{f:Nat→List Int}{p x j:Int}(h:Rc2 f p x j):∃k:Nat,Wk f p x k∧j=((k%2:Nat):Int):=by
 induction h with
 | refl=>exact ⟨0,.refl,rfl⟩
 | step _ e ih =>
  obtain⟨k,hk,rfl⟩:=ih
  exact⟨k+1,.step hk e,by omega⟩
theorem Wk.trans{f:Nat→List Int}{p q r:Int}{k j:Nat}(h:Wk f p q k)(g:Wk f q r j):Wk f p r (k+j):=by
 induction g with
 | refl=>exact h
 | step _ e ih=>exact .step ih e
theorem Us{f:Nat→List Int}{way:List Int}(w:WayG f way){i:Nat}{x:Int}(hx:way[i]?=some x):∀(d:Nat)(y:Int),way[i+d]?=some y→Wk f x y d
 | 0,y,hy=>by
  rw[Nat.add_zero,hx]at hy
  cases hy
  exact .refl
 | d + 1,y,hy=>by
  have hl:=(List.getElem?_eq_some_iff.mp hy).1
  have e:=List.getElem?_eq_getElem (l:=way) (i:=i+d) (by omega)
  exact .step (Us w hx d _ e) (w _ _ _ e hy)
def obIn(s:Int)(way:List Int)(o:Int):List Int→List (Int×Int)→List (List Int)→Option (List (Int×Int)×List (List Int))
 | [],D,W=>some (D,W)
 | b::L,D,W=>if b=s∧o=1 then none else if (b,o)∈D then obIn s way o L D W else obIn s way o L (D++[(b,o)]) (W++[way++[b]])
def oP(w:List Int):Int:=((w.length%2:Nat):Int)
def UM(f:Nat→List Int)(s:Int):Nat→List (Int×Int)→List (List Int)→Option (List Int)
 | 0,_,_=>none
 | _ + 1,_,[]=>none
 | k + 1,D,way::W=>match obIn s way (oP way) (f (way.getLastD 0).toNat) D W with
  | none=>some way
  | some (D',W')=>UM f s k D' W'
def oddW(f:Nat→List Int)(n:Nat)(s:Int):Option (List Int):=UM f s (2*n) [(s,0)] [[s]]
def kyO(w:List Int):Int×Int:=(w.getLastD 0,(((w.length+1)%2:Nat):Int))
theorem kyO_one(s:Int):kyO [s]=(s,0):=by
 unfold kyO
 simp
theorem kyO_snoc(w:List Int)(b:Int):kyO (w++[b])=(b,oP w):=by
 unfold kyO oP
 rw[List.length_append,List.length_singleton]
 refine Prod.ext ?_ ?_
 ·simp
 ·show (((w.length + 1 + 1) % 2:Nat):Int)=_
  omega
theorem ZJ{s:Int}{way:List Int}{o:Int}:∀{L:List Int}{D:List (Int×Int)}{W:List (List Int)},obIn s way o L D W=none→s∈L∧o=1
 | [],_,_,h=>nomatch h
 | b::L,D,W,h=>by
  unfold obIn at h
  split at h
  ·rename_i c
   rw[c.1]
   exact⟨List.mem_cons_self,c.2⟩
  ·split at h
   ·exact ⟨List.mem_cons_of_mem _ (ZJ h).1,(ZJ h).2⟩
   ·exact ⟨List.mem_cons_of_mem _ (ZJ h).1,(ZJ h).2⟩
theorem WA{s:Int}{way:List Int}:∀{L:List Int}{D:List (Int×Int)}{W:List (List Int)}{D':List (Int×Int)}{W':List (List Int)},D.Nodup→obIn s way (oP way) L D W=some (D',W')→∃N:List (List Int),W'=W++N∧D'=D++N.map kyO∧D'.Nodup∧(∀v∈N,∃b∈L,v=way++[b])∧∀b∈L,¬ (b=s∧oP way=1)∧(b,oP way)∈D'
 | [],D,W,D',W',nd,h=>by
  cases h
  exact⟨[],(List.append_nil _).symm,(List.append_nil _).symm,nd,fun _ z=>(nomatch z),fun _ z=>(nomatch z)⟩
 | b::L,D,W,D',W',nd,h=>by
  unfold obIn at h
  split at h
  ·cases h
  ·rename_i c
   split at h
   ·rename_i c2
    obtain⟨N,e1,e2,nd',e3,e4⟩:=WA nd h
    refine⟨N,e1,e2,nd',fun v hv=>?_,fun x hx=>?_⟩
    ·obtain ⟨y,hy,e⟩:=e3 v hv
     exact⟨y,List.mem_cons_of_mem _ hy,e⟩
    ·rcases List.mem_cons.mp hx with rfl | hx
     ·refine ⟨c,?_⟩
      rw[e2]
      exact List.mem_append_left _ c2
     ·exact e4 x hx
   ·rename_i c2
    have nd2:(D++[(b,oP way)]).Nodup:=List.nodup_append.mpr ⟨nd,List.pairwise_singleton _ _,fun a ha y hy e=>by
     rw[List.mem_singleton]at hy
     subst hy e
     exact c2 ha⟩
    obtain⟨N,e1,e2,nd',e3,e4⟩:=WA nd2 h
    refine⟨(way++[b])::N,by rw[e1,List.append_assoc];rfl,by rw[e2,List.append_assoc,List.map_cons,kyO_snoc];rfl,nd',fun v hv=>?_,fun x hx=>?_⟩
    ·rcases List.mem_cons.mp hv with rfl | hv
     ·exact ⟨b,List.mem_cons_self,rfl⟩
     ·obtain ⟨y,hy,e⟩:=e3 v hv
      exact⟨y,List.mem_cons_of_mem _ hy,e⟩
    ·rcases List.mem_cons.mp hx with rfl | hx
     ·refine ⟨c,?_⟩
      rw[e2]
      exact List.mem_append_left _ (List.mem_append_right _ List.mem_cons_self)
     ·exact e4 x hx
def GW(f:Nat→List Int)(s:Int)(w:List Int):Prop:=WayG f w∧w[0]?=some s
theorem GW.last{f:Nat→List Int}{s:Int}{w:List Int}(h:GW f s w):1≤w.length∧w[w.length-1]?=some (w.getLastD 0)∧w.getLast?=some (w.getLastD 0):=by
 have h0:=(List.getElem?_eq_some_iff.mp h.2).1
 have e:w≠[]:=fun z=>by rw[z]at h0;exact absurd h0 (by decide)
 have e2:w.getLast?=some (w.getLastD 0):=by
  rw[List.getLastD_eq_getLast?,List.getLast?_eq_some_getLast e]
  rfl
 refine⟨h0,?_,e2⟩
 rw[← List.getLast?_eq_getElem?]
 exact e2
theorem GW.wk{f:Nat→List Int}{s:Int}{w:List Int}(h:GW f s w):Wk f s (w.getLastD 0) (w.length-1):=Us h.1 h.2 _ _ (by rw[Nat.zero_add];exact h.last.2.1)
theorem GW.snoc{f:Nat→List Int}{s:Int}{w:List Int}(h:GW f s w){b:Int}(hb:b∈f (w.getLastD 0).toNat):GW f s (w++[b]):=by
 refine⟨way_snoc h.1 fun x hx=>?_,?_⟩
 ·rw [h.last.2.2] at hx
  cases hx
  exact hb
 ·rw [List.getElem?_append_left h.last.1]
  exact h.2
structure BI(f:Nat→List Int)(s:Int)(D:List (Int×Int))(W P:List (List Int)):Prop where
 nd:D.Nodup
 gw:∀w∈P++W,GW f s w
 mem:∀q,q∈D↔∃w∈P++W,kyO w=q
 so:(P++W).Pairwise fun a b=>a.length≤b.length
 le:∀w V,W=w::V→∀v∈V,v.length≤w.length+1
 pr:∀w∈P,∀b∈f (w.getLastD 0).toNat,¬ (b=s∧oP w=1)∧∃v∈P++W,kyO v=(b,oP w)∧v.length≤w.length+1
 st:[s]∈P++W
theorem BI.start(f:Nat→List Int)(s:Int):BI f s [(s,0)] [[s]] []:=by
 refine⟨List.pairwise_singleton _ _,fun w hw=>?_,fun q=>?_,List.pairwise_singleton _ _,fun w V e v hv=>?_,fun w hw=>(nomatch hw),List.mem_cons_self⟩
 ·rw [List.mem_singleton.mp hw]
  exact⟨fun k x y _ h2=>by simp at h2,rfl⟩
 ·constructor
  ·intro h
   rw[List.mem_singleton.mp h]
   exact⟨[s],List.mem_cons_self,kyO_one s⟩
  ·rintro ⟨w,hw,rfl⟩
   rw[List.mem_singleton.mp hw,kyO_one]
   exact List.mem_cons_self
 ·cases e
  cases hv
theorem BI.next{f:Nat→List Int}{s:Int}{D:List (Int×Int)}{W P:List (List Int)}{w:List Int}(h:BI f s D (w::W) P){D':List (Int×Int)}{W':List (List Int)}(e:obIn s w (oP w) (f (w.getLastD 0).toNat) D W=some (D',W')):BI f s D' W' (P++[w]):=by
 obtain⟨N,rfl,rfl,nd',hN,hL⟩:=WA h.nd e
 have eq1:(P++[w])++(W++N)=(P++w::W)++N:=by simp
 have gw:=h.gw w (List.mem_append_right _ List.mem_cons_self)
 have lN:∀v∈N,v.length=w.length+1:=fun v hv=>by
  obtain⟨b,_,rfl⟩:=hN v hv
  rw[List.length_append]
  rfl
 have lA:∀v∈P++w::W,v.length≤w.length+1:=fun v hv=>by
  rcases List.mem_append.mp hv with z|z
  ·have:=(List.pairwise_append.mp h.so).2.2 v z w List.mem_cons_self
   omega
  ·rcases List.mem_cons.mp z with rfl | z
   ·omega
   ·exact h.le w W rfl v z
 have mem':∀q,q∈D++N.map kyO↔∃v∈(P++w::W)++N,kyO v=q:=fun q=>by
  rw[List.mem_append,h.mem]
  constructor
  ·rintro (⟨v,hv,e⟩ | h)
   ·exact ⟨v,List.mem_append_left _ hv,e⟩
   ·obtain ⟨v,hv,e⟩:=List.mem_map.mp h
    exact⟨v,List.mem_append_right _ hv,e⟩
  ·rintro ⟨v,hv,rfl⟩
   rcases List.mem_append.mp hv with z|z
   ·exact .inl ⟨v,z,rfl⟩
   ·exact .inr (List.mem_map.mpr ⟨v,z,rfl⟩)
 refine⟨nd',fun v hv=>?_,fun q=>by rw[eq1];exact mem' q,?_,fun x V ev v hv=>?_,fun v hv b hb=>?_,?_⟩
 ·rw [eq1] at hv
  rcases List.mem_append.mp hv with z|z
  ·exact h.gw v z
  ·obtain ⟨b,hb,rfl⟩:=hN v z
   exact gw.snoc hb
 ·rw [eq1]
  refine List.pairwise_append.mpr ⟨h.so,?_,fun a ha b hb=>?_⟩
  ·refine List.pairwise_iff_getElem.mpr fun i j hi hj _=>?_
   rw[lN _ (List.getElem_mem _),lN _ (List.getElem_mem _)]
   exact Nat.le_refl _
  ·rw [lN b hb]
   exact lA a ha
 ·have hx:x∈W++N:=by rw [ev]; exact List.mem_cons_self
  have hv':v∈W++N:=by rw[ev];exact List.mem_cons_of_mem _ hv
  have l1:v.length≤w.length+1:=by
   rcases List.mem_append.mp hv' with z|z
   ·exact lA v (List.mem_append_right _ (List.mem_cons_of_mem _ z))
   ·rw [lN v z]
    omega
  have l2:w.length≤x.length:=by
   rcases List.mem_append.mp hx with z|z
   ·have:=(List.pairwise_append.mp h.so).2.1
    exact(List.pairwise_cons.mp this).1 x z
   ·rw [lN x z]
    omega
  omega
 ·rw [eq1]
  rcases List.mem_append.mp hv with z|z
  ·obtain ⟨c1,u,hu,c2,c3⟩:=h.pr v z b hb
   exact⟨c1,u,List.mem_append_left _ hu,c2,c3⟩
  ·rw [List.mem_singleton] at z
   subst z
   obtain⟨c1,c2⟩:=hL b hb
   refine⟨c1,?_⟩
   obtain⟨u,hu,e⟩:=(mem' _).mp c2
   refine⟨u,hu,e,?_⟩
   rcases List.mem_append.mp hu with z|z
   ·exact lA u z
   ·rw [lN u z]
    omega
 ·rw [eq1]
  exact List.mem_append_left _ h.st
theorem BI.near{f:Nat→List Int}{s:Int}{D:List (Int×Int)}{W P:List (List Int)}(h:BI f s D W P){l:Nat}(hl:∀w∈W,l<w.length){x:Int}{k:Nat}(hw:Wk f s x k):k≤l→∃w∈P++W,kyO w=(x,((k%2:Nat):Int))∧w.length≤k+1:=by
 induction hw with
 | refl=>exact fun _=>⟨[s],h.st,kyO_one s,Nat.le_refl _⟩
 | @step q b k _ e ih =>
  intro hk
  obtain⟨w,hw,e1,e2⟩:=ih (by omega)
  have hp:w∈P:=by
   rcases List.mem_append.mp hw with z|z
   ·exact z
   ·have:=hl w z
    omega
  have e3:w.getLastD 0=q:=congrArg Prod.fst e1
  have e4:(((w.length+1)%2:Nat):Int)=((k%2:Nat):Int):=congrArg Prod.snd e1
  obtain⟨_,v,hv,g1,g2⟩:=h.pr w hp b (by rw[e3];exact e)
  refine⟨v,hv,?_,by omega⟩
  rw[g1]
  unfold oP
  refine Prod.ext rfl ?_
  show((w.length%2:Nat):Int)=_
  omega
theorem BI.far{f:Nat→List Int}{s:Int}{D:List (Int×Int)}{W P:List (List Int)}(h:BI f s D W P){l:Nat}(hl:∀w∈W,l<w.length){k:Nat}(hw:Wk f s s k)(hk:k≤l):k%2≠1:=fun ho=>by
 cases hw with
 | refl=>exact absurd ho (by decide)
 | @step q _ k hq e =>
  obtain⟨w,hw,e1,e2⟩:=h.near hl hq (by omega)
  have hp:w∈P:=by
   rcases List.mem_append.mp hw with z|z
   ·exact z
   ·have:=hl w z
    omega
  have e3:w.getLastD 0=q:=congrArg Prod.fst e1
  have e4:(((w.length+1)%2:Nat):Int)=((k%2:Nat):Int):=congrArg Prod.snd e1
  refine(h.pr w hp s (by rw[e3];exact e)).1 ⟨rfl,?_⟩
  unfold oP
  omega
structure OW(f:Nat→List Int)(s:Int)(w:List Int):Prop where
 gw:GW f s w
 ls:s∈f (w.getLastD 0).toNat
 od:w.length%2=1
 mn:∀k,Wk f s s k→k%2=1→w.length≤k
def OB(f:Nat→List Int)(s:Int):Option (List Int)→Prop
 | none=>∀ k,Wk f s s k→k % 2≠1
 | some w=>OW f s w
theorem BI.rng{f:Nat→List Int}{n:Nat}(hf:∀p:Nat,∀b∈f p,0≤b∧b<n){s:Int}(hs:0≤s∧s<n){D:List (Int×Int)}{W P:List (List Int)}(h:BI f s D W P):∀q∈D,(0≤q.1∧q.1<n)∧(q.2=0∨q.2=1):=fun q hq=>by
 obtain⟨w,hw,rfl⟩:=(h.mem q).mp hq
 have r:=(h.gw w hw).wk.rc2.rch
 refine⟨YB hf hs r,?_⟩
 show(((w.length+1)%2:Nat):Int)=0∨(((w.length+1)%2:Nat):Int)=1
 omega
theorem BI.found{f:Nat→List Int}{s:Int}{D:List (Int×Int)}{W P:List (List Int)}{w:List Int}(h:BI f s D (w::W) P)(hs:s∈f (w.getLastD 0).toNat)(ho:oP w=1):OW f s w:=by
 have gw:=h.gw w (List.mem_append_right _ List.mem_cons_self)
 have l1:=gw.last.1
 refine⟨gw,hs,by unfold oP at ho;omega,fun k hk ko=>?_⟩
 refine Classical.byContradiction fun z=>?_
 refine h.far (l:=w.length-1) (fun v hv=>?_) hk (by omega) ko
 rcases List.mem_cons.mp hv with rfl|hv
 ·omega
 ·have:=(List.pairwise_cons.mp (List.pairwise_append.mp h.so).2.1).1 v hv
  omega
theorem BI.empty{f:Nat→List Int}{s:Int}{D:List (Int×Int)}{P:List (List Int)}(h:BI f s D [] P):OB f s none:=fun k hk=>h.far (l:=k) (fun _ z=>nomatch z) hk (Nat.le_refl _)
theorem obRun_ok{f:Nat→List Int}{n:Nat}(hf:∀p:Nat,∀b∈f p,0≤b∧b<n){s:Int}(hs:0≤s∧s<n):∀(k:Nat)(D:List (Int×Int))(W P:List (List Int)),BI f s D W P→2*n+W.length≤k+D.length→OB f s (UM f s k D W)
 | 0,D,W,P,h,hk=>by
  have:=Qw h.nd (h.rng hf hs)
  have e:W=[]:=List.length_eq_zero_iff.mp (by omega)
  subst e
  exact h.empty
 | k + 1,D,[],P,h,hk=>h.empty
 | k + 1,D,w::W,P,h,hk=>by
  unfold UM
  split
  ·rename_i e
   obtain⟨h1,h2⟩:=ZJ e
   exact h.found h1 h2
  ·rename_i D' W' e
   have nx:=h.next e
   obtain⟨N,rfl,rfl,_⟩:=WA h.nd e
   refine obRun_ok hf hs k _ _ _ nx ?_
   rw[List.length_append,List.length_append,List.length_map]
   rw[List.length_cons]at hk
   omega
theorem UV{f:Nat→List Int}{n:Nat}(hf:∀p:Nat,∀b∈f p,0≤b∧b<n){s:Int}(hs:0≤s∧s<n):OB f s (oddW f n s):=obRun_ok hf hs _ _ _ _ (BI.start f s) (Nat.le_refl _)
theorem ob_ring{f:Nat→List Int}{n:Nat}(hf:∀p:Nat,∀b∈f p,(0≤b∧b<n)∧b≠(p:Int)){s:Int}(hs:0≤s∧s<n){R:List Int}(h:OW f s R)(mn:∀x:Int,0≤x→x<n→∀k,Wk f x x k→k%2=1→R.length≤k):RingG f R∧(∀x∈R,0≤x∧x<n)∧R.length≤n:=by
 obtain⟨l1,l2,l3⟩:=h.gw.last
 have rg:∀x∈R,0≤x∧x<n:=fun x hx=>by
  obtain⟨i,hi⟩:=List.mem_iff_getElem?.mp hx
  exact YB (fun p b hb=>(hf p b hb).1) hs (Us h.gw.1 h.gw.2 i x (by rw[Nat.zero_add];exact hi)).rc2.rch
 have nd:R.Nodup:=by
  refine List.pairwise_iff_getElem.mpr fun i j hi hj hij e=>?_
  have ei:=List.getElem?_eq_getElem hi
  have ej:=List.getElem?_eq_getElem hj
  rw[← e]at ej
  have w1:Wk f R[i] R[i] (j-i):=Us h.gw.1 ei (j-i) _ (by rw[show i+(j-i)=j by omega];exact ej)
  have w0:Wk f s R[i] i:=Us h.gw.1 h.gw.2 i _ (by rw[Nat.zero_add];exact ei)
  have w2:Wk f R[i] (R.getLastD 0) (R.length-1-j):=Us h.gw.1 ej _ _ (by rw[show j+(R.length-1-j)=R.length-1 by omega];exact l2)
  have w3:=(w0.trans w2).step h.ls
  have od:=h.od
  by_cases c:(j-i)%2=1
  ·have:=mn R[i] (rg _ (List.getElem_mem _)).1 (rg _ (List.getElem_mem _)).2 _ w1 c
   omega
  ·have:=h.mn _ w3 (by omega)
   omega
 refine⟨⟨?_,nd,fun k hk x y hx hy=>?_⟩,rg,Yw nd rg⟩
 ·refine Classical.byContradiction fun z=>?_
  have e1:R.length=1:=by omega
  have e2:R.getLastD 0=s:=by
   rw[e1]at l2
   have:=h.gw.2
   rw[show 1-1=0 from rfl,this]at l2
   exact(Option.some.inj l2).symm
  have:=h.ls
  rw[e2]at this
  exact(hf _ _ this).2 (by omega)
 ·by_cases c:k + 1 < R.length
  ·rw [Nat.mod_eq_of_lt c] at hy
   exact h.gw.1 k x y hx hy
  ·have e:k + 1=R.length:=by omega
   rw[e,Nat.mod_self,h.gw.2]at hy
   cases hy
   rw[show k=R.length-1 by omega,l2]at hx
   cases hx
   exact h.ls
end Hk
namespace Hk
open PySem L2 PySem.W
theorem tpiM{H H':Hp}{zs:List V}{L:List (List Int)}(h:Tpi H zs L)(s:Same H H'):Tpi H' zs L:=Paired.mapP h fun _ _ ⟨p,e,z⟩=>⟨p,e,s _ _ z⟩
theorem seq_invRt{a R:TS}{D:Ends}{σ:St}{H:Hp}(Inv:St→Hp→Prop)(h:∀D':Ends,D'.rt=D.rt→(∀σ H,Inv σ H→D'.nx σ H)→a D' σ H)(hk:∀σ H,Inv σ H→R D σ H):tSeq a R D σ H:=h _ rfl hk
def OwV(H:Hp)(v:V):Option (List Int)→Prop
 | none=>v=.non
 | some w=>∃ t,v=.ref t∧H t=some (.tup (w.map V.int))
theorem OwV.mono{H H':Hp}{v:V}{o:Option (List Int)}(h:OwV H v o)(s:Same H H'):OwV H' v o:=by
 cases o with
 | none=>exact h
 | some w =>
  obtain⟨t,e,z⟩:=h
  exact⟨t,e,s _ _ z⟩
theorem obIn_cons{s:Int}{way:List Int}{o b:Int}{L:List Int}{D:List (Int×Int)}{W:List (List Int)}:obIn s way o (b::L) D W=if b=s∧o=1 then none else if (b,o)∈D then obIn s way o L D W else obIn s way o L (D++[(b,o)]) (W++[way++[b]]):=rfl
theorem oP_01(w:List Int):oP w=0∨oP w=1:=by
 unfold oP
 omega
section
variable{P:Program}{w:World}{K:Frag}{mg:Str→Option Value}{base:Heap}
def spOWB:Sp:=fun vs H Q _=>∃(l:Addr)(rows:List Addr)(f:Nat→List Int)(s:Int),vs=[.ref l,.int s]∧LL H l rows f∧rows.length≤40∧(0≤s∧s<(rows.length:Nat))∧(∀p:Nat,∀b∈f p,0≤b∧b<(rows.length:Nat)) ∧
 ∀(v:V) H',Same H H'→OwV H' v (oddW f rows.length s)→Q v H'
theorem kn_owb(D:DefAt K mg "odd_way_back" Zh ["leads","start"])(fr:Free mg ["len"]):Kn P w K mg base 1 "odd_way_back" ["leads","start"] spOWB:=by
 have sc:FnScope ["leads","start","seen","waiting","way","odd","b"] ["leads","start"] (Jl Zh):=⟨rfl,rfl,rfl,by decide +kernel,rfl,by decide +kernel,by decide +kernel⟩
 refine D.kn (N:=["leads","start","seen","waiting","way","odd","b"]) sc (fun vs H Q E h=>?_) (fun fa cdv A outer s H vs Q E hr h=>?_)
 ·obtain ⟨l,rows,f,s,rfl,_⟩:=h
  rfl
 ·obtain ⟨l,rows,f,s,rfl,ll,n40,hs,hf,kk⟩:=h
  have hu:=YW hr
  have m_len:=fr "len" (by simp)
  refine⟨_,(Jd (Jn (i:=2) sc.nd rfl (Or.inl rfl) (pe_dispT hu (Yj (Ja (pv 1) (Ja Ji Jc))) JY)) (Jd (Jn (i:=3) sc.nd rfl (Or.inl rfl) (JZ (Ja (Yj (Ja (pv 1) Jc)) Jc))) (Jd (Wp PassesOwn.never (Js (Ui (Nat.lt_of_succ_lt hu)) (pv 3) (JZ Jc) (Jq _)) (Jd (Jn (i:=4) sc.nd rfl (Or.inl rfl) (UJ PySem.F.plainAttrs_list PySem.F.slot_list_pop PySem.F.type_list_pop mt_popAt (pv 3) (Ja Ji Jc))) (Jd (Jn (i:=5) sc.nd rfl (Or.inl rfl) (JM ZA (Jr Ym rfl m_len PySem.boot_len (Ja (pv 4) Jc)) Ji)) (Je (Yi PassesOwn.never rfl (JR (Jx JL (pv 0) (Jx JA (pv 4) (pe_un un_neg Ji) (fun _ _=>rfl)) (fun _ _=>rfl))) (Jk (i:=6) sc.nd rfl (Or.inl rfl)) (Jd (JU (PW.pt (ZS (Js ZI (pv 6) (pv 1) (Jq _)) (YX (Js ZI (pv 5) Ji (Jq _))))) (Je (Jm (pv 4))) Jy) (Je (JU (YU (ZG hu (Yj (Ja (pv 6) (Ja (pv 5) Jc))) (pv 2))) (Jd (YH hu (pv 2) (Yj (Ja (pv 6) (Ja (pv 5) Jc))) JY rfl) (Je (Zo (UJ PySem.F.plainAttrs_list PySem.F.slot_list_append PySem.F.type_list_append YE (pv 3) (Ja (JM op_cat2 (pv 4) (Yj (Ja (pv 6) Jc))) Jc))))) Jy)))))))) (Je (Jm YD))))),?_⟩
  have c0:0≤sizeLine:=by decide
  have c1:1≤sizeLine:=by decide
  have c2:2≤sizeLine:=by decide
  have sl:1000≤sizeLine:=by decide
  -- seen
  refine fun d hd=>⟨_,rfl,c2,fun b1 hb1=>⟨_,_,rfl,Same.upd hb1 _ _ Jb,b1,JD (s,0),rfl,by rw[Qv];exact Jb,?_⟩⟩
  have hb1d:b1≠d:=fun z=>by rw[z,Jb]at hb1;cases hb1
  have hb1N:H b1=none:=by rw[Jh hb1d]at hb1;exact hb1
  have s2:Same H (upd (upd (upd H d (.dT [])) b1 (.tup [.int s,.int 0])) d (.dT [(JD (s,0),.bl true)])):=fun b o e=>by
   rw[Jh (Jg e hd),Jh (Jg e hb1N),Jh (Jg e hd)]
   exact e
  have hd2:(upd (upd (upd H d (.dT [])) b1 (.tup [.int s,.int 0])) d (.dT [(JD (s,0),.bl true)])) d=some (.dT [(JD (s,0),.bl true)]):=Jb
  show Zr 2 (.ref d) _ (upd (upd (upd H d (.dT [])) b1 (.tup [.int s,.int 0])) d (.dT [(JD (s,0),.bl true)])) _
  generalize upd (upd (upd H d (.dT [])) b1 (.tup [.int s,.int 0])) d (.dT [(JD (s,0),.bl true)])=H2 at s2 hd2
  refine Jo ?_
  dsimp only[List.set]
  -- waiting
  refine⟨_,rfl,c1,fun b2 hb2=>⟨c1,fun y hy=>?_⟩⟩
  have s3':=(Same.upd (o:=.tup [.int s]) hb2).trans (Same.upd (o:=.lst [.ref b2]) hy)
  have s3:=s2.trans s3'
  have hd3:=s3' _ _ hd2
  have hy3:(upd (upd H2 b2 (.tup [.int s])) y (.lst [.ref b2])) y=some (.lst [.ref b2]):=Jb
  have tp3:Tpi (upd (upd H2 b2 (.tup [.int s])) y (.lst [.ref b2])) [.ref b2] [[s]]:=.cons ⟨b2,rfl,Same.upd hy _ _ Jb⟩ .nil
  have hyN:H y=none:=Ya (s2.trans (Same.upd (o:=.tup [.int s]) hb2)) hy
  have ndy:d≠y:=fun z=>by
   have:=Same.upd (o:=.tup [.int s]) hb2 _ _ hd2
   rw[z,hy]at this
   cases this
  generalize upd (upd H2 b2 (.tup [.int s])) y (.lst [.ref b2])=H3 at s3 hd3 hy3 tp3
  refine Jo ?_
  dsimp only[List.set]
  refine⟨fun μ σ H4=>∃(kvs:List (List Key×V))(D:List (Int×Int))(W P:List (List Int))(ws:List V)(v4 v5 v6:Option V),σ=[some (.ref l),some (.int s),some (.ref d),some (.ref y),v4,v5,v6]∧Same H H4∧H4 d=some (.dT kvs)∧H4 y=some (.lst ws)∧Tpi H4 ws W∧PD kvs D∧BI f s D W P∧2*rows.length+W.length≤μ+D.length∧μ≤2*rows.length∧(∀w∈W,w.length≤D.length)∧UM f s μ D W=oddW f rows.length s,⟨2*rows.length,[(JD (s,0),.bl true)],[(s,0)],[[s]],[],_,_,_,_,rfl,s3,hd3,hy3,tp3,PD.one _ _,BI.start f s,Nat.le_refl _,Nat.le_refl _,fun w hw=>by rw[List.mem_singleton.mp hw];exact Nat.le_refl _,rfl⟩,?_⟩
  rintro μ σ H4 ⟨kvs,D,W',P,ws,v4,v5,v6,rfl,s4,hd4,hy4,tp4,pd,bi,fu,mu,wl,run⟩
  have lD:=Qw bi.nd (bi.rng hf hs)
  refine⟨_,rfl,c0,fun z hz=>?_⟩
  have sz:=Same.upd (o:=.lst []) hz
  have s4z:=s4.trans sz
  have hd4z:=sz _ _ hd4
  have hy4z:=sz _ _ hy4
  have tp4z:=tpiM tp4 sz
  refine⟨y,z,_,rfl,rfl,SqL.of hy4z,SqL.of Jb,_,rfl,?_⟩
  generalize upd H4 z (.lst [])=H5 at s4z hd4z hy4z tp4z
  have lws:ws.length=W'.length:=Paired.length tp4
  refine ite2 (fun c=>?_) (fun c=>?_)
  ·cases tp4z with
   | nil=>exact absurd c (by decide)
   | @cons wl0 way ws' W2 hq tp5 =>
    obtain⟨r,rfl,hr5⟩:=hq
    obtain⟨k,rfl⟩:∃k,μ=k+1:=⟨μ-1,by rw[List.length_cons]at fu;omega⟩
    have gw:=bi.gw way (List.mem_append_right _ List.mem_cons_self)
    obtain⟨wl1,wl2,wl3⟩:=gw.last
    have wlD:=wl way List.mem_cons_self
    have fu':=fu
    rw[List.length_cons]at fu'
    have hq0:0≤way.getLastD 0∧way.getLastD 0<(rows.length:Nat):=YB hf hs gw.wk.rc2.rch
    refine⟨fun σ' H'=>∃μ',μ'<k+1∧∃(kvs:List (List Key×V))(D:List (Int×Int))(W P:List (List Int))(ws:List V)(v4 v5 v6:Option V),σ'=[some (.ref l),some (.int s),some (.ref d),some (.ref y),v4,v5,v6]∧Same H H'∧H' d=some (.dT kvs)∧H' y=some (.lst ws)∧Tpi H' ws W∧PD kvs D∧BI f s D W P∧2*rows.length+W.length≤μ'+D.length∧μ'≤2*rows.length∧(∀w∈W,w.length≤D.length)∧UM f s μ' D W=oddW f rows.length s,fun _ _ z=>z,?_⟩
    -- way=waiting.pop(0)
    refine⟨_,rfl,.inl ⟨rfl,_,SqL.of hy4z⟩,y,_,0,0,.ref r,rfl,rfl,hy4z,by decide,by decide,?_,rfl,?_⟩
    ·rw [List.length_cons]
     unfold seqIndex?
     simp
    have s5:Same H (upd H5 y (.lst ws')):=fun b o e=>by
     rw[Jh (Jg e hyN)]
     exact s4z _ _ e
    have hd5:(upd H5 y (.lst ws')) d=some (.dT kvs):=by
     rw[Jh ndy]
     exact hd4z
    have hy5:(upd H5 y (.lst ws')) y=some (.lst ws'):=Jb
    have tup5:∀{c:Addr}{xs:List V},H5 c=some (.tup xs)→(upd H5 y (.lst ws')) c=some (.tup xs):=fun {c xs} e=>by
     rw[Jh (ZK e hy4z (fun z=>nomatch z))]
     exact e
    have hr6:=tup5 hr5
    have tp6:Tpi (upd H5 y (.lst ws')) ws' W2:=Paired.mapP tp5 fun _ _ ⟨p,e,z⟩=>⟨p,e,tup5 z⟩
    show Zr 4 (.ref r) _ (upd H5 y (.lst ws')) _
    generalize upd H5 y (.lst ws')=H6 at s5 hd5 hy5 hr6 tp6
    refine Jo ?_
    dsimp only[List.set]
    -- odd=len(way)%2
    refine⟨_,rfl,r,_,rfl,.inr (SqT.of hr6),_,_,rfl,rfl,(by show(0:Int)<2;decide),?_⟩
    have eo:((((way.map V.int).length:Nat):Int)%2)=oP way:=by
     rw[List.length_map]
     unfold oP
     omega
    show Zr 5 (.int ((((way.map V.int).length:Nat):Int)%2)) _ _ _
    rw[eo]
    refine Jo ?_
    dsimp only[List.set]
    -- for b in leads[way[-1]]
    obtain⟨j,ej⟩:∃j:Nat,way.getLastD 0=(j:Int):=⟨(way.getLastD 0).toNat,by omega⟩
    have hj:j<rows.length:=by omega
    have er:rows[j]?=some rows[j]:=List.getElem?_eq_getElem hj
    have hrow:=(ll.mono s5).row j _ er
    have etop:=(ll.mono s5).top
    have ewy:way.map V.int=(way.dropLast.map V.int)++[V.int (j:Int)]:=by
     have ne:way≠[]:=fun z=>by rw[z]at wl1;exact absurd wl1 (by decide)
     have e0:=wl3
     rw[List.getLast?_eq_some_getLast ne]at e0
     have e1:way.dropLast++[way.getLast ne]=way:=List.dropLast_concat_getLast ne
     rw[Option.some.inj e0,ej]at e1
     conv=>lhs;rw[← e1]
     rw[List.map_append]
     rfl
    have hf':f (way.getLastD 0).toNat=f j:=by rw[ej,Int.toNat_natCast]
    refine⟨_,rfl,_,rfl,_,rfl,r,_,_,V.int (j:Int),rfl,rfl,SqT.of hr6,by rw[ewy];exact atI_last _ _,l,_,_,_,rfl,rfl,SqL.of etop,Yx (j:=j) (by rw[List.getElem?_map,er];rfl),?_⟩
    refine⟨rows[j],rfl,⟨_,SqL.of hrow⟩,YO (K:=K) (xs:=(f j).map V.int) (fun u σ H8=>∃(kvs2:List (List Key×V))(D2:List (Int×Int))(Q2:List (List Int))(ws2:List V)(v6:Option V),σ=[some (.ref l),some (.int s),some (.ref d),some (.ref y),some (.ref r),some (.int (oP way)),v6]∧Same H H8∧H8 r=some (.tup (way.map V.int))∧H8 d=some (.dT kvs2)∧H8 y=some (.lst ws2)∧Tpi H8 ws2 Q2∧PD kvs2 D2∧(∀q∈D2,(0≤q.1∧q.1<(rows.length:Nat))∧(q.2=0∨q.2=1))∧Q2.length+D.length=D2.length+W2.length∧D.length≤D2.length∧(∀w∈Q2,w.length≤D2.length)∧obIn s way (oP way) ((f j).drop u) D2 Q2=obIn s way (oP way) (f j) D W2) ⟨kvs,D,W2,ws',_,rfl,s5,hr6,hd5,hy5,tp6,pd,bi.rng hf hs,Nat.add_comm _ _,Nat.le_refl _,fun w hw=>wl w (List.mem_cons_of_mem _ hw),rfl⟩ (fun u σ H8 _ ⟨_,_,_,_,_,_,s8,_⟩=>SqL.of ((ll.mono s8).row j _ er)) ?_ ?_⟩
    ·rintro u x σ H8 hx ⟨kvs2,D2,Q2,ws2,v6,rfl,s8,hr8,hd8,hy8,tp8,pd2,rg2,ln2,le2,wl2',ob⟩
     rw[List.getElem?_map]at hx
     obtain⟨b,hb',rfl⟩:=Option.map_eq_some_iff.mp hx
     have hbm:=List.mem_of_getElem? hb'
     obtain⟨ul,ue⟩:=List.getElem?_eq_some_iff.mp hb'
     have dr:(f j).drop u=b::(f j).drop (u+1):=by rw[← ue];exact List.drop_eq_getElem_cons ul
     rw[dr]at ob
     have lD2:=Qw pd2.nd rg2
     refine seq_invRt (a:=tIfS _ _ _) (fun σ H'=>σ=[some (.ref l),some (.int s),some (.ref d),some (.ref y),some (.ref r),some (.int (oP way)),some (.int b)]∧H'=H8∧¬ (b=s∧oP way=1)) (fun D' ert nx1=>?_) ?_
     ·refine ⟨_,rfl,_,rfl,rfl,_,rfl,ite2 (fun c1=>?_) (fun c1=>?_)⟩
      ·refine ⟨_,rfl,rfl,_,rfl,ite2 (fun c2=>?_) (fun c2=>?_)⟩
       ·have e1:b=s:=V.int.inj (of_decide_eq_true c1)
        have e2:oP way=1:=V.int.inj (of_decide_eq_true c2)
        refine⟨_,rfl,?_⟩
        rw[ert]
        refine kk _ H8 s8 ?_
        rw[← run]
        unfold UM
        rw[hf',← ob]
        rw[obIn_cons,if_pos ⟨e1,e2⟩]
        exact⟨r,rfl,hr8⟩
       ·exact nx1 _ _ ⟨rfl,rfl,fun z=>c2 (decide_eq_true (congrArg V.int z.2))⟩
      ·exact ite2 (fun z=>nomatch z) (fun _=>nx1 _ _ ⟨rfl,rfl,fun z=>c1 (decide_eq_true (congrArg V.int z.1))⟩)
     rintro σ H9 ⟨rfl,rfl,nf⟩
     rw[obIn_cons,if_neg nf]at ob
     -- (b,odd) not in seen
     refine⟨_,rfl,_,rfl,c2,fun t1 ht1=>?_⟩
     have s9:=Same.upd (o:=.tup [.int b,.int (oP way)]) ht1
     have ht9:(upd H9 t1 (.tup [.int b,.int (oP way)])) t1=some (.tup ((JD (b,oP way)).map kV)):=by rw[Qv];exact Jb
     have hd9:=s9 _ _ hd8
     have hy9:=s9 _ _ hy8
     have hr9:=s9 _ _ hr8
     have tp9:=tpiM tp8 s9
     have s9':=s8.trans s9
     generalize upd H9 t1 (.tup [.int b,.int (oP way)])=HA at s9 ht9 hd9 hy9 hr9 tp9 s9'
     refine⟨_,rfl,d,_,rfl,DGet.t (k:=JD (b,oP way)) hd9 ht9,_,rfl,?_⟩
     rw[pd2.mem]
     refine ite2 (fun c2'=>?_) (fun c2'=>?_)
     ·have c2':(b,oP way) ∉ D2:=by simpa using c2'
      rw[if_neg c2']at ob
      have pd3:=pd2.put c2' (.bl true)
      have rg3:∀q∈D2++[(b,oP way)],(0≤q.1∧q.1<(rows.length:Nat))∧(q.2=0∨q.2=1):=fun q hq=>by
       rcases List.mem_append.mp hq with z|z
       ·exact rg2 q z
       ·rw [List.mem_singleton.mp z]
        exact⟨hf j b hbm,oP_01 way⟩
      have lk:=pd2.len
      have lws2:ws2.length=Q2.length:=Paired.length tp9
      -- seen[b,odd]=True
      refine⟨_,rfl,_,rfl,_,rfl,c2,fun t2 ht2=>?_⟩
      have s10:=Same.upd (o:=.tup [.int b,.int (oP way)]) ht2
      have ht10:(upd HA t2 (.tup [.int b,.int (oP way)])) t2=some (.tup ((JD (b,oP way)).map kV)):=by rw[Qv];exact Jb
      have hd10:=s10 _ _ hd9
      have hy10:=s10 _ _ hy9
      have hr10:=s10 _ _ hr9
      have tp10:=tpiM tp9 s10
      have s10':=s9'.trans s10
      generalize upd HA t2 (.tup [.int b,.int (oP way)])=H10 at s10 ht10 hd10 hy10 hr10 tp10 s10'
      refine⟨d,_,rfl,DPut.t (k:=JD (b,oP way)) (v:=.bl true) hd10 ht10 (Jj (by omega)),?_⟩
      have keepd:∀{c:Addr}{o:HO},c≠d→H10 c=some o→(upd H10 d (.dT (putK kvs2 (JD (b,oP way)) (.bl true)))) c=some o:=fun {c o} nc e=>by
       rw[Jh nc]
       exact e
      have hy11:=keepd (Ne.symm ndy) hy10
      have hr11:=keepd (ZK hr10 hd10 (fun z=>nomatch z)) hr10
      have hd11:(upd H10 d (.dT (putK kvs2 (JD (b,oP way)) (.bl true)))) d=some (.dT (putK kvs2 (JD (b,oP way)) (.bl true))):=Jb
      have s11:Same H (upd H10 d (.dT (putK kvs2 (JD (b,oP way)) (.bl true)))):=fun c o e=>keepd (Jg e hd) (s10' _ _ e)
      have tp11:Tpi (upd H10 d (.dT (putK kvs2 (JD (b,oP way)) (.bl true)))) ws2 Q2:=Paired.mapP tp10 fun _ _ ⟨p,e,z⟩=>⟨p,e,keepd (ZK z hd10 (fun z=>nomatch z)) z⟩
      generalize upd H10 d (.dT (putK kvs2 (JD (b,oP way)) (.bl true)))=H11 at hy11 hr11 hd11 s11 tp11
      -- waiting.append(way+(b,))
      refine⟨_,rfl,.inl ⟨rfl,_,SqL.of hy11⟩,_,rfl,_,rfl,c1,fun t3 ht3=>?_⟩
      have s12:=Same.upd (o:=.tup [.int b]) ht3
      refine⟨r,t3,_,_,rfl,rfl,s12 _ _ hr11,Jb,?_,fun t4 H12 s13 ht4=>?_⟩
      ·rw [List.length_map]
       show way.length+1≤sizeLine
       omega
      have s14:=s12.trans s13
      have hy12:=s14 _ _ hy11
      have hd12:=s14 _ _ hd11
      have hr12:=s14 _ _ hr11
      have tp12:=tpiM tp11 s14
      have s12':=s11.trans s14
      refine⟨y,_,_,rfl,rfl,hy12,Wc (by omega),?_⟩
      have tupE:∀{c:Addr}{xs:List V},H12 c=some (.tup xs)→(upd H12 y (.lst (ws2++[.ref t4]))) c=some (.tup xs):=fun {c xs} e=>by
       rw[Jh (ZK e hy12 (fun z=>nomatch z))]
       exact e
      refine⟨putK kvs2 (JD (b,oP way)) (.bl true),D2++[(b,oP way)],Q2++[way++[b]],ws2++[.ref t4],_,rfl,fun c o e=>?_,tupE hr12,?_,Jb,?_,pd3,rg3,?_,?_,fun v hv=>?_,ob⟩
      ·rw [Jh (Jg e hyN)]
       exact s12' _ _ e
      ·rw [Jh ndy]
       exact hd12
      ·refine Paired.snoc (Paired.mapP tp12 fun _ _ ⟨p,e,z⟩=>⟨p,e,tupE z⟩) ⟨t4,rfl,?_⟩
       rw[List.map_append]
       exact tupE ht4
      ·rw [List.length_append,List.length_append,List.length_singleton,List.length_singleton]
       omega
      ·rw [List.length_append]
       omega
      ·rw [List.length_append,List.length_singleton]
       rcases List.mem_append.mp hv with z|z
       ·have:=wl2' v z
        omega
       ·rw [List.mem_singleton.mp z,List.length_append,List.length_singleton]
        omega
     ·have c2':(b,oP way)∈D2:=by simpa using c2'
      rw[if_pos c2']at ob
      exact⟨kvs2,D2,Q2,ws2,_,rfl,s9',hr9,hd9,hy9,tp9,pd2,rg2,ln2,le2,wl2',ob⟩
    ·rintro σ H8 ⟨kvs2,D2,Q2,ws2,v6,rfl,s8,hr8,hd8,hy8,tp8,pd2,rg2,ln2,le2,wl2',ob⟩
     rw[List.length_map,List.drop_of_length_le (Nat.le_refl _)]at ob
     have ob':obIn s way (oP way) (f (way.getLastD 0).toNat) D W2=some (D2,Q2):=by
      rw[hf',← ob]
      rfl
     rw[List.length_cons]at fu
     refine⟨k,Nat.lt_succ_self _,kvs2,D2,Q2,P++[way],ws2,_,_,_,rfl,s8,hd8,hy8,tp8,pd2,bi.next ob',by omega,by omega,wl2',?_⟩
     rw[← run]
     conv=>rhs;unfold UM
     rw[ob']
  ·have we:W'=[]:=by
    cases ws with
    | nil=>exact List.length_eq_zero_iff.mp lws.symm
    | cons x r=>exact absurd rfl c
   subst we
   refine kk _ _ s4z ?_
   rw[← run]
   cases μ<;>exact rfl
end
end Hk
namespace Hk
open PySem L2 PySem.W
def orO(f:Nat→List Int)(n k:Nat):List (Option (List Int)):=(plI k).map (oddW f n)
def orL(f:Nat→List Int)(n:Nat):List (List Int):=(orO f n n).filterMap id
def IsOR(f:Nat→List Int)(n:Nat):Option (List Int)→Prop
 | none=>orL f n=[]
 | some R=>∃ i,(orL f n)[i]?=some R∧UI (fun j=>((orL f n).getD j []).length) i ((orL f n).length - 1)
theorem IsOR.uniq{f:Nat→List Int}{n:Nat}{o o':Option (List Int)}(h:IsOR f n o)(h':IsOR f n o'):o=o':=by
 cases o with
 | none =>
  cases o' with
  | none=>rfl
  | some R =>
   obtain⟨i,e,_⟩:=h'
   rw[show orL f n=[]from h]at e
   simp at e
 | some R =>
  cases o' with
  | none =>
   obtain⟨i,e,_⟩:=h
   rw[show orL f n=[]from h']at e
   simp at e
  | some R' =>
   obtain⟨i,e,l1,k1⟩:=h
   obtain⟨j,e',l2,k2⟩:=h'
   have a1:=k1 j l2
   have a2:=k2 i l1
   have:i=j:=by omega
   subst this
   rw[e]at e'
   exact e'
theorem UX{f:Nat→List Int}{n:Nat}{R:List Int}:R∈orL f n↔∃s:Int,(0≤s∧s<n)∧oddW f n s=some R:=by
 unfold orL orO
 rw[List.mem_filterMap]
 constructor
 ·rintro ⟨o,ho,e⟩
  obtain⟨s,hs,rfl⟩:=List.mem_map.mp ho
  exact⟨s,JO.mp hs,e⟩
 ·rintro ⟨s,hs,e⟩
  exact⟨_,List.mem_map.mpr ⟨s,JO.mpr hs,rfl⟩,e⟩
def OrOk(f:Nat→List Int)(n:Nat):Option (List Int)→Prop
 | none=>¬ ∃ s:Int,0≤s∧s < n∧Rc2 f s s 1
 | some R=>RingG f R∧(∀ x∈R,0≤x∧x < n)∧R.length≤n∧R.length % 2=1
theorem IsOR.ok{f:Nat→List Int}{n:Nat}(hf:∀p:Nat,∀b∈f p,(0≤b∧b<n)∧b≠(p:Int)):∀{o:Option (List Int)},IsOR f n o→OrOk f n o
 | none,h=>fun ⟨s,h0,h1,r⟩=>by
  have ok:=UV (fun p b hb=>(hf p b hb).1) (s:=s) ⟨h0,h1⟩
  cases e:oddW f n s with
  | none =>
   rw[e]at ok
   obtain⟨k,wk,ek⟩:=r.wk
   exact ok k wk (by omega)
  | some w =>
   have:w∈orL f n:=UX.mpr ⟨s,⟨h0,h1⟩,e⟩
   rw[show orL f n=[]from h]at this
   cases this
 | some R,⟨i,e,l1,lk⟩=>by
  obtain⟨s,hs,e2⟩:=UX.mp (List.mem_of_getElem? e)
  have ok:=UV (fun p b hb=>(hf p b hb).1) hs
  rw[e2]at ok
  have ok:OW f s R:=ok
  obtain⟨h1,h2,h3⟩:=ob_ring hf hs ok fun x x0 x1 k wk ko=>by
   have ox:=UV (fun p b hb=>(hf p b hb).1) (s:=x) ⟨x0,x1⟩
   cases e3:oddW f n x with
   | none =>
    rw[e3]at ox
    exact absurd ko (ox k wk)
   | some w =>
    rw[e3]at ox
    have ox:OW f x w:=ox
    have m1:=ox.mn k wk ko
    obtain⟨j,ej⟩:=List.mem_iff_getElem?.mp (UX.mpr ⟨x,⟨x0,x1⟩,e3⟩)
    have lj:=(List.getElem?_eq_some_iff.mp ej).1
    have:=(lk j (by omega)).1
    dsimp only at this
    rw[List.getD_eq_getElem?_getD,List.getD_eq_getElem?_getD,e,ej]at this
    have:R.length≤w.length:=this
    omega
  exact⟨h1,h2,h3,ok.od⟩
theorem orO_succ(f:Nat→List Int)(n k:Nat):orO f n (k+1)=orO f n k++[oddW f n (k:Int)]:=by
 unfold orO plI
 rw[List.range_succ,List.map_append,List.map_append]
 rfl
theorem orO_len(f:Nat→List Int)(n k:Nat):(orO f n k).length=k:=by
 unfold orO
 rw[List.length_map,YY]
section
variable{P:Program}{w:World}{K:Frag}{mg:Str→Option Value}{base:Heap}
def spOR:Sp:=fun vs H Q _=>∃(a t:Addr)(m:Int)(us:List V)(ars:List (Int×Int)),vs=[.ref a]∧Web H a t m us ars∧JE m ars∧1≤m∧m≤40∧∀(o:Option (List Int))(v:V) H',Same H H'→IsOR (ldF ars) m.toNat o→OwV H' v o→Q v H'
theorem kn_oring(D:DefAt K mg "odd_ring" WN ["web"])(fr:Free mg ["len","min","range"])(ka:Kn P w K mg base 1 "all_leads" ["web"] Zf)(ko:Kn P w K mg base 1 "odd_way_back" ["leads","start"] spOWB):Kn P w K mg base 2 "odd_ring" ["web"] spOR:=by
 have sc:FnScope ["web","leads","ways"] ["web"] (Jl WN):=⟨rfl,rfl,rfl,by decide +kernel,rfl,by decide +kernel,by decide +kernel⟩
 refine D.kn (N:=["web","leads","ways"]) sc (fun vs H Q E h=>?_) (fun fa cdv A outer s H vs Q E hr h=>?_)
 ·obtain ⟨a,t,m,us,ars,rfl,_⟩:=h
  rfl
 ·obtain ⟨a,t,m,us,ars,rfl,W,ga,m1,m40,kk⟩:=h
  have r1:=hr.mono (j:=1) (by decide)
  have m_len:=fr "len" (by simp)
  have m_min:=fr "min" (by simp)
  have m_range:=fr "range" (by simp)
  have nd0:(["place","leads"]:List Str).Nodup:=by decide +kernel
  have nd1:(["way"]:List Str).Nodup:=by decide +kernel
  refine⟨_,(Jd (Jn (i:=1) sc.nd rfl (Or.inr rfl) (Jp ka r1 (Ja (pv 0) Jc))) (Jd (YN (i:=2) (N:=["place","leads"]) (src:=[none,some 1]) sc.nd rfl rfl rfl rfl ⟨rfl,rfl,rfl,rfl,⟨⟨rfl,rfl⟩,trivial⟩,rfl,rfl,rfl⟩ (Jw (i:=0) rfl) (JQ rfl m_range (Ja (Jx JA (pv 0) Ji (fun _ _=>rfl)) Jc)) (fun C s H fp=>⟨(Jk (i:=0) nd0 rfl (Or.inl rfl)),JG,(Jp ko r1 (Ja (pv 1) (Ja (pv 0) Jc)))⟩)) (Je (Jm (pe_minK rfl rfl m_min rfl m_len (Ja (Ye (N:=["way"]) (src:=[none]) (cl:=[]) rfl ⟨rfl,rfl,rfl,rfl,trivial,rfl,rfl,rfl⟩ (Jw (i:=0) rfl) (JR (pv 2)) (fun C s H fp=>⟨(Jk (i:=0) nd1 rfl (Or.inl rfl)),(Yb (Js Uh (pv 0) YD (Jq _))),(pv 0)⟩)) Jc) (pk_cons YD pk_nil)))))),?_⟩
  have hf:∀q:Nat,∀b∈ldF ars q,0≤b∧b<(m.toNat:Nat):=fun q b hb=>(ZM ga q b hb).1
  refine⟨_,rfl,a,t,m,us,ars,rfl,W,ga,fun l rows H1 s1 lr ll=>?_⟩
  have ll:LL H1 l rows (ldF ars):=ll
  have W1:=W.mono s1
  refine Jo ?_
  dsimp only[List.set]
  refine⟨_,rfl,a,_,_,_,rfl,rfl,SqT.of W1.top,rfl,m,rfl,by omega,by omega,Zd (n:=m.toNat) (fun i zs H'=>Same H1 H'∧Paired (OwV H') zs (orO (ldF ars) m.toNat i)) ⟨Same.refl _,.nil⟩ ?_ ?_ ?_⟩
  ·rintro i zs H' hi ⟨s2,pz⟩
   rw[Paired.length pz,orO_len]
   exact Nat.le_of_lt (Jj (by omega))
  ·rintro zs H2 ⟨s2,pz⟩ y hy
   have s3:=s1.trans (s2.trans (Same.upd (o:=.lst zs) hy))
   have hy3:(upd H2 y (.lst zs)) y=some (.lst zs):=Jb
   have pz3:Paired (OwV (upd H2 y (.lst zs))) zs (orO (ldF ars) m.toNat m.toNat):=Paired.mapP pz fun _ _ h=>h.mono (Same.upd hy)
   generalize upd H2 y (.lst zs)=H3 at s3 hy3 pz3
   have lz:zs.length=m.toNat:=by rw[Paired.length pz3,orO_len]
   refine⟨_,rfl,y,rfl,⟨_,SqL.of hy3⟩,UY (xs:=zs) (fun j qs H4=>Same H3 H4∧Tpi H4 qs (((orO (ldF ars) m.toNat m.toNat).take j).filterMap id)) ⟨Same.refl _,.nil⟩ ?_ ?_ ?_⟩
   ·rintro j qs H4 hj ⟨s4,tq⟩
    have e1:qs.length=_:=Paired.length tq
    have e2:=List.length_filterMap_le id ((orO (ldF ars) m.toNat m.toNat).take j)
    rw[List.length_take]at e2
    exact⟨SqL.of (s4 _ _ hy3),Nat.le_of_lt (Jj (by omega))⟩
   ·rintro qs H4 ⟨s4,tq⟩ z hz
    rw[lz,List.take_of_length_le (by rw[orO_len];exact Nat.le_refl _)]at tq
    have tq:Tpi H4 qs (orL (ldF ars) m.toNat):=tq
    have sz:=Same.upd (o:=.lst qs) hz
    have s5:=s3.trans (s4.trans sz)
    have tq5:=tpiM tq sz
    refine⟨z,qs,orL (ldF ars) m.toNat,.non,rfl,rfl,SqL.of Jb,tq5,fun e=>kk none _ _ s5 e rfl,fun i v hv lk=>?_⟩
    obtain⟨R,eR,p,rfl,hp⟩:=Paired.get' tq5 hv
    exact kk (some R) _ _ s5 ⟨i,eR,lk⟩ ⟨p,rfl,hp⟩
   ·rintro j x qs H4 hx hj ⟨s4,tq⟩
    obtain⟨o,eo,ho⟩:=Paired.get' pz3 hx
    have ts:=Ju _ _ _ eo
    refine⟨_,rfl,rfl,_,rfl,?_⟩
    cases o with
    | none =>
     have ho:x=.non:=ho
     subst ho
     refine iteF (nx hj ⟨s4,?_⟩)
     rw[ts,List.filterMap_append]
     simpa using tq
    | some R =>
     obtain⟨p,rfl,hp⟩:=ho
     refine iteT ⟨_,rfl,nx hj ⟨s4,?_⟩⟩
     rw[ts,List.filterMap_append]
     exact Paired.snoc tq ⟨p,rfl,s4 _ _ hp⟩
  ·rintro i zs H2 hi ⟨s2,pz⟩
   refine⟨_,rfl,_,rfl,l,rows,ldF ars,0+(i:Int),rfl,ll.mono s2,by omega,by omega,by rw[lr];exact hf,fun v H3 s3 hv=>nx hi ⟨s2.trans s3,?_⟩⟩
   rw[orO_succ]
   rw[lr,Int.zero_add]at hv
   exact Paired.snoc (Paired.mapP pz fun _ _ h=>h.mono s3) hv
end
end Hk
namespace Hk
open PySem L2
theorem le_lt{l:List Int}(h:l.Pairwise (·≤·))(n:l.Nodup):l.Pairwise (·<·):=by
 have:=List.Pairwise.and h n
 exact this.imp fun {a b} ⟨x,y⟩=>by
  have:a≠b:=y
  omega
end Hk
namespace Hk
open PySem L2
theorem Rch.first{f:Nat→List Int}{p x:Int}(h:Rch f p x):p=x∨∃c∈f p.toNat,Rch f c x:=by
 induction h with
 | refl=>exact .inl rfl
 | @step q b _ e ih =>
  rcases ih with rfl|⟨c,hc,r⟩
  ·exact .inr ⟨_,e,.refl⟩
  ·exact .inr ⟨c,hc,.step r e⟩
theorem min_ex(g:Nat→Nat):∀{n:Nat},1≤n→∃i,i<n∧∀j,j<n→g i≤g j
 | 0,h=>absurd h (by decide)
 | 1,_=>⟨0,by decide,fun j hj=>by rw [show j=0 by omega]; exact Nat.le_refl _⟩
 | n + 2,_=>by
  obtain⟨i,hi,h⟩:=min_ex g (n:=n+1) (by omega)
  by_cases c:g i≤g (n+1)
  ·refine ⟨i,by omega,fun j hj=>?_⟩
   by_cases e:j=n+1
   ·rw [e]
    exact c
   ·exact h j (by omega)
  ·refine ⟨n + 1,by omega,fun j hj=>?_⟩
   by_cases e:j=n+1
   ·rw [e]
    exact Nat.le_refl _
   ·have:=h j (by omega)
    omega
theorem cnt_le{p q:Int→Bool}:∀{l:List Int},(∀x∈l,p x=true→q x=true)→l.countP p≤l.countP q
 | [],_=>Nat.le_refl _
 | x::l,h=>by
  have ih:=cnt_le (l:=l) fun y hy=>h y (List.mem_cons_of_mem _ hy)
  have hx:=h x List.mem_cons_self
  rw[List.countP_cons,List.countP_cons]
  by_cases c:p x=true
  ·rw [if_pos c,if_pos (hx c)]
   omega
  ·rw [if_neg c]
   omega
theorem cnt_lt{p q:Int→Bool}:∀{l:List Int},(∀x∈l,p x=true→q x=true)→(∃x∈l,q x=true∧¬ p x=true)→l.countP p<l.countP q
 | [],_,⟨_,hx,_⟩=>nomatch hx
 | x::l,h,⟨y,hy,h1,h2⟩=>by
  have h':∀x∈l,p x=true→q x=true:=fun y hy=>h y (List.mem_cons_of_mem _ hy)
  have hx:=h x List.mem_cons_self
  rw[List.countP_cons,List.countP_cons]
  rcases List.mem_cons.mp hy with rfl|hy
  ·rw [if_pos h1,if_neg h2]
   have:=cnt_le h'
   omega
  ·have ih:=cnt_lt h' ⟨y,hy,h1,h2⟩
   by_cases c:p x=true
   ·rw [if_pos c,if_pos (hx c)]
    omega
   ·rw [if_neg c]
    omega
def upL(Gr:Nat→List Int)(ars:List (Int×Int)):List Int:=(ars.filter fun q=>!decide (lstF Gr q.1=lstF Gr q.2)).map fun q=>lstF Gr q.1
def botL(Gr:Nat→List Int)(ars:List (Int×Int))(n:Nat):List Int:=(plI n).filter fun p=>!decide (lstF Gr p∈upL Gr ars)
def bhL(Gr:Nat→List Int)(ars:List (Int×Int))(ks:List Int)(n:Nat):List Int:=(botL Gr ars n).filter fun p=>decide (ks.getD p.toNat 0=0)
theorem mem_upL{Gr:Nat→List Int}{ars:List (Int×Int)}{x:Int}:x∈upL Gr ars↔∃q∈ars,lstF Gr q.1≠lstF Gr q.2∧lstF Gr q.1=x:=by
 unfold upL
 rw[List.mem_map]
 constructor
 ·rintro ⟨q,hq,e⟩
  obtain⟨h1,h2⟩:=List.mem_filter.mp hq
  exact⟨q,h1,by simpa using h2,e⟩
 ·rintro ⟨q,hq,h1,e⟩
  exact⟨q,List.mem_filter.mpr ⟨hq,by simpa using h1⟩,e⟩
theorem YZ{Gr:Nat→List Int}{ars:List (Int×Int)}{ks:List Int}{n:Nat}{p:Int}:p∈bhL Gr ars ks n↔(0≤p∧p<n)∧lstF Gr p∉upL Gr ars∧ks.getD p.toNat 0=0:=by
 unfold bhL botL
 rw[List.mem_filter,List.mem_filter,JO,Bool.not_eq_true',decide_eq_false_iff_not,decide_eq_true_eq,and_assoc]
section
variable{Gr:Nat→List Int}{m:Int}{ars:List (Int×Int)}{ks:List Int}
theorem bh_same{q:Int×Int}(hq:q∈ars)(h:lstF Gr q.1∉upL Gr ars):lstF Gr q.1=lstF Gr q.2:=Classical.byContradiction fun z=>h (mem_upL.mpr ⟨q,hq,z,rfl⟩)
theorem bh_ind(sp:SideP Gr m.toNat ars ks){p q:Int}(h:(p,q)∈ars)(hp:p∈bhL Gr ars ks m.toNat):q∉bhL Gr ars ks m.toNat:=fun hq=>by
 obtain⟨_,h1,h2⟩:=YZ.mp hp
 obtain⟨_,h3,h4⟩:=YZ.mp hq
 exact sp.dif _ h (bh_same h h1) (h2.trans h4.symm)
theorem bh_out(ga:JE m ars)(ok:GrOk (ldF ars) m.toNat Gr)(sp:SideP Gr m.toNat ars ks)(ln:(ks.length:Int)=m){p b:Int}(h:(p,b)∈ars)(hp:p∈bhL Gr ars ks m.toNat):∃c,(b,c)∈ars∧c∈bhL Gr ars ks m.toNat:=by
 obtain⟨⟨p0,p1⟩,h1,h2⟩:=YZ.mp hp
 have e1:=bh_same h h1
 have d1:=sp.dif _ h e1
 obtain⟨_,_,g3,g4,g5⟩:=ga _ h
 dsimp only at e1 d1 g3 g4 g5
 have b01:∀y:Int,0≤y→y<m→ks.getD y.toNat 0=0∨ks.getD y.toNat 0=1:=fun y h0 h1=>by
  have hm:ks.getD y.toNat 0∈ks:=by
   rw[List.getD_eq_getElem?_getD,List.getElem?_eq_getElem (by omega)]
   exact List.getElem_mem _
  obtain⟨g0,g1⟩:=sp.r01 _ hm
  omega
 obtain⟨i,rfl⟩:∃i:Nat,p=(i:Int):=⟨p.toNat,by omega⟩
 obtain⟨j,rfl⟩:∃j:Nat,b=(j:Int):=⟨b.toNat,by omega⟩
 have hg:=(ok.lst_eq (p:=i) (q:=j) (by omega) (by omega)).mp e1
 obtain⟨_,r2⟩:=((ok.gr i (by omega)).mem _).mp hg
 rcases r2.first with e|⟨c,hc,_⟩
 ·exact absurd e.symm g5
 have hjc:((j:Int),c)∈ars:=by
  have hc:c∈ldI ars (((j:Int).toNat:Nat):Int):=hc
  rw[Int.toNat_natCast]at hc
  exact JW.mp hc
 have nb:lstF Gr (j:Int)∉upL Gr ars:=by rw[← e1];exact h1
 have e2:=bh_same hjc nb
 have d2:=sp.dif _ hjc e2
 obtain⟨_,_,c3,c4,_⟩:=ga _ hjc
 dsimp only at e2 d2 c3 c4
 refine⟨c,hjc,YZ.mpr ⟨⟨c3,by omega⟩,by rw[← e2];exact nb,?_⟩⟩
 have z1:=b01 (j:Int) g3 g4
 have z2:=b01 c c3 c4
 omega
theorem bh_some(ok:GrOk (ldF ars) m.toNat Gr)(sp:SideP Gr m.toNat ars ks)(ga:JE m ars)(m1:1≤m):∃p,p∈bhL Gr ars ks m.toNat:=by
 obtain⟨Cm,hC⟩:=cm_ex ok.hf
 obtain⟨i,hi,mn⟩:=min_ex (fun j=>(plI m.toNat).countP fun x=>decide (x∈Cm j)) (n:=m.toNat) (by omega)
 have back:∀x,Rch (ldF ars) (i:Int) x→Rch (ldF ars) x (i:Int):=fun x hx=>by
  obtain⟨x0,x1⟩:=YB ok.hf (by omega) hx
  obtain⟨j,rfl⟩:∃j:Nat,x=(j:Int):=⟨x.toNat,by omega⟩
  refine Classical.byContradiction fun z=>?_
  have lt:=cnt_lt (p:=fun x=>decide (x∈Cm j)) (q:=fun x=>decide (x∈Cm i)) (l:=plI m.toNat) (fun y _ hy=>?_) ⟨(i:Int),JO.mpr (by omega),?_,?_⟩
  ·have:=mn j (by omega)
   omega
  ·have hy:=((hC j (by omega)).mem y).mp (of_decide_eq_true hy)
   exact decide_eq_true (((hC i hi).mem y).mpr (hx.trans hy))
  ·exact decide_eq_true (((hC i hi).mem _).mpr .refl)
  ·intro h
   exact z (((hC j (by omega)).mem _).mp (of_decide_eq_true h))
 obtain⟨j,hj,e1,e2⟩:=ok.lst_idem hi
 refine⟨(j:Int),YZ.mpr ⟨by omega,fun hu=>?_,?_⟩⟩
 ·obtain ⟨q,hq,ne,e3⟩:=mem_upL.mp hu
  rw[e2]at e3
  obtain⟨g1,g2,g3,g4,_⟩:=ga q hq
  obtain⟨q1,q2⟩:=q
  dsimp only at g1 g2 g3 g4 ne e3
  obtain⟨a,rfl⟩:∃a:Nat,q1=(a:Int):=⟨q1.toNat,by omega⟩
  obtain⟨b,rfl⟩:∃b:Nat,q2=(b:Int):=⟨q2.toNat,by omega⟩
  have ha:=(ok.lst_eq (p:=i) (q:=a) hi (by omega)).mp (by rw[e1,e3])
  obtain⟨r1,_⟩:=((ok.gr i hi).mem _).mp ha
  have st:(b:Int)∈ldF ars (a:Int).toNat:=by
   show(b:Int)∈ldI ars (((a:Int).toNat:Nat):Int)
   rw[Int.toNat_natCast]
   exact JW.mpr hq
  have r2:Rch (ldF ars) (i:Int) (b:Int):=.step r1 st
  have hb:=((ok.gr i hi).mem _).mpr ⟨r2,back _ r2⟩
  have e4:=(ok.lst_eq (p:=i) (q:=b) hi (by omega)).mpr hb
  exact ne (by rw[e3,← e4,e1])
 ·have:=sp.zero i hi
  rw[e1]at this
  exact this
end
noncomputable def grC(f:Nat→List Int)(n:Nat):Nat→List Int:=Classical.epsilon fun G=>GrOk f n G
noncomputable def ksC(ars:List (Int×Int))(n:Nat):List Int:=Classical.epsilon fun ks=>ks.length=n∧SideP (grC (ldF ars) n) n ars ks
theorem QH{m:Int}{ars:List (Int×Int)}(ga:JE m ars):GrOk (ldF ars) m.toNat (grC (ldF ars) m.toNat):=by
 have hf:∀q:Nat,∀b∈ldF ars q,0≤b∧b<(m.toNat:Nat):=fun q b hb=>(ZM ga q b hb).1
 obtain⟨Gr,hG⟩:=gr_ex hf
 exact Classical.epsilon_spec (p:=fun G=>GrOk (ldF ars) m.toNat G) ⟨Gr,hf,hG⟩
theorem ksC_eq{m:Int}{ars:List (Int×Int)}(ga:JE m ars){ks:List Int}(ln:(ks.length:Int)=m)(sp:SideP (grC (ldF ars) m.toNat) m.toNat ars ks):ksC ars m.toNat=ks:=by
 have h:=Classical.epsilon_spec (p:=fun ks=>ks.length=m.toNat∧SideP (grC (ldF ars) m.toNat) m.toNat ars ks) ⟨ks,by omega,sp⟩
 have h:(ksC ars m.toNat).length=m.toNat∧SideP (grC (ldF ars) m.toNat) m.toNat ars (ksC ars m.toNat):=h
 exact side_uniq ga (QH ga) h.2 (by omega) sp ln
noncomputable def mrL(ars:List (Int×Int))(n:Nat):List Int:=bhL (grC (ldF ars) n) ars (ksC ars n) n
noncomputable def moP(m:Int)(ars:List (Int×Int))(h:List Int):List Int:=(mrL (am (Jf m ars h) ars) (Jf m ars h).length).map fun i=>(Jf m ars h).getD i.toNat 0
noncomputable def evS(m:Int)(ars:List (Int×Int))(h:List Int):List Int:=(plI m.toNat).filter fun p=>decide (p∈h)||decide (p∈moP m ars h)
noncomputable def evH(m:Int)(ars:List (Int×Int)):Nat→List Int
 | 0=>[]
 | k + 1=>evS m ars (evH m ars k)
theorem JT{m:Int}{ars:List (Int×Int)}{ns:List Int}{x:Int}(m0:0≤m):x∈Jf m ars ns↔(0≤x∧x<m)∧x∉ns∧∀b,(x,b)∈ars→b∉ns:=by
 have e:x∈Jf m ars ns↔x∈plI m.toNat∧(!WJ ars ns x)=true:=List.mem_filter
 rw[e,JO]
 unfold WJ
 simp only[Bool.not_eq_true',Bool.or_eq_false_iff,decide_eq_false_iff_not,List.any_eq_false,Bool.and_eq_true,decide_eq_true_eq,not_and]
 constructor
 ·rintro ⟨⟨h1,h2⟩,h3,h4⟩
  exact⟨⟨h1,by omega⟩,h3,fun b hb=>h4 (x,b) hb rfl⟩
 ·rintro ⟨⟨h1,h2⟩,h3,h4⟩
  refine⟨⟨h1,by omega⟩,h3,fun q hq e=>h4 q.2 ?_⟩
  rw[← e]
  exact hq
theorem Ys{m:Int}{ars:List (Int×Int)}{ns:List Int}(m0:0≤m):Rise (Jf m ars ns) m:=⟨fun x hx=>((JT m0).mp hx).1,JP _ _⟩
structure Hf(m:Int)(ars:List (Int×Int))(h:List Int):Prop where
 rise:Rise h m
 ind:∀q∈ars,q.1∈h→q.2∉h
 out:∀q∈ars,q.1∈h→q.2∉Jf m ars h
theorem both_none{ars:List (Int×Int)}{h:List Int}(ind:∀q∈ars,q.1∈h→q.2∉h):(ars.filter (both h)).isEmpty=true:=by
 rw[List.isEmpty_iff,List.filter_eq_nil_iff]
 intro q hq z
 unfold both at z
 rw[Bool.and_eq_true,decide_eq_true_eq,decide_eq_true_eq]at z
 exact ind q hq z.1 z.2
theorem Hf.hf{m:Int}{ars:List (Int×Int)}{h:List Int}(x:Hf m ars h):hfM m ars (some (h.map V.int))=true:=by
 unfold hfM
 rw[x.rise.pls,Bool.true_and]
 show((ars.filter (both (Jt (h.map V.int)))).isEmpty&&!outB m ars (Jt (h.map V.int)))=true
 rw[Yt,both_none x.ind,Bool.true_and]
 unfold outB
 rw[Bool.not_eq_true',List.any_eq_false]
 intro q hq z
 rw[Bool.and_eq_true,decide_eq_true_eq,decide_eq_true_eq]at z
 exact x.out q hq z.1 z.2
theorem Hf.empty(m:Int)(ars:List (Int×Int)):Hf m ars []:=⟨⟨fun _ z=>(nomatch z),.nil⟩,fun _ _ z=>(nomatch z),fun _ _ z=>(nomatch z)⟩
theorem Hf.hold{m:Int}{ars:List (Int×Int)}{h:List Int}(x:Hf m ars h)(e:Jf m ars h=[]):hgM m ars (some (h.map V.int))=true:=by
 rw[UZ x.rise]
 unfold WI
 rw[both_none x.ind,e]
 rfl
section
variable{m:Int}{ars:List (Int×Int)}
theorem am_arrow(m0:0≤m)(st:Stc ars){h:List Int}{a b:Int}(ha:a∈Jf m ars h)(hb:b∈Jf m ars h)(q:(a,b)∈ars):∃i j:Nat,(Jf m ars h)[i]?=some a∧(Jf m ars h)[j]?=some b∧((i:Int),(j:Int))∈am (Jf m ars h) ars:=by
 obtain⟨i,hi⟩:=List.mem_iff_getElem?.mp ha
 obtain⟨j,hj⟩:=List.mem_iff_getElem?.mp hb
 exact⟨i,j,hi,hj,((UO (Ys m0).up st).mem _).mpr ⟨i,j,rfl,a,b,hi,hj,q⟩⟩
theorem am_back(m0:0≤m)(st:Stc ars){h:List Int}{i j:Int}(q:(i,j)∈am (Jf m ars h) ars):∃(a b:Nat),i=(a:Int)∧j=(b:Int)∧a<(Jf m ars h).length∧b<(Jf m ars h).length∧((Jf m ars h).getD a 0,(Jf m ars h).getD b 0)∈ars:=by
 obtain⟨a,b,e,x,y,ha,hb,hq⟩:=((UO (Ys m0).up st).mem _).mp q
 cases e
 refine⟨a,b,rfl,rfl,(List.getElem?_eq_some_iff.mp ha).1,(List.getElem?_eq_some_iff.mp hb).1,?_⟩
 rw[List.getD_eq_getElem?_getD,List.getD_eq_getElem?_getD,ha,hb]
 exact hq
theorem rc2_sub(m0:0≤m)(st:Stc ars){h:List Int}{s x k:Int}(r:Rc2 (ldF (am (Jf m ars h) ars)) s x k):Rc2 (ldF ars) ((Jf m ars h).getD s.toNat 0) ((Jf m ars h).getD x.toNat 0) k:=by
 induction r with
 | refl=>exact .refl
 | @step q b k _ e ih =>
  have e:b∈ldI (am (Jf m ars h) ars) ((q.toNat:Nat):Int):=e
  obtain⟨a,c,e1,e2,l1,_,hq⟩:=am_back m0 st (JW.mp e)
  have e1:q.toNat=a:=by omega
  subst e1 e2
  refine .step ih ?_
  have hm:(Jf m ars h).getD q.toNat 0∈Jf m ars h:=by
   rw[List.getD_eq_getElem?_getD,List.getElem?_eq_getElem l1]
   exact List.getElem_mem _
  have h0:=((JT m0).mp hm).1.1
  show _∈ldI ars ((((Jf m ars h).getD q.toNat 0).toNat:Nat):Int)
  rw[show((((Jf m ars h).getD q.toNat 0).toNat:Nat):Int)=(Jf m ars h).getD q.toNat 0 by omega,Int.toNat_natCast]
  exact JW.mpr hq
theorem no_sub(m0:0≤m)(st:Stc ars)(no:¬ ∃s:Int,0≤s∧s<m∧Rc2 (ldF ars) s s 1){h:List Int}:¬ ∃s:Int,0≤s∧s<((Jf m ars h).length:Int)∧Rc2 (ldF (am (Jf m ars h) ars)) s s 1:=fun⟨s,h0,h1,r⟩=>by
 have hm:(Jf m ars h).getD s.toNat 0∈Jf m ars h:=by
  rw[List.getD_eq_getElem?_getD,List.getElem?_eq_getElem (by omega)]
  exact List.getElem_mem _
 have b:=((JT m0).mp hm).1
 exact no ⟨_,b.1,b.2,rc2_sub m0 st r⟩
theorem ZW(m0:0≤m){h:List Int}{x:Int}(hx:x∈moP m ars h):∃i:Nat,i<(Jf m ars h).length∧(Jf m ars h)[i]?=some x∧(i:Int)∈mrL (am (Jf m ars h) ars) (Jf m ars h).length:=by
 unfold moP at hx
 obtain⟨i,hi,rfl⟩:=List.mem_map.mp hx
 have b:=(YZ.mp hi).1
 refine⟨i.toNat,by omega,?_,by rw[show((i.toNat:Nat):Int)=i by omega];exact hi⟩
 rw[List.getD_eq_getElem?_getD,List.getElem?_eq_getElem (by omega)]
 rfl
theorem of_moP{h:List Int}{i:Int}(hi:i∈mrL (am (Jf m ars h) ars) (Jf m ars h).length):(Jf m ars h).getD i.toNat 0∈moP m ars h:=List.mem_map.mpr ⟨i,hi,rfl⟩
theorem mem_evS(m0:0≤m){h:List Int}(hr:Rise h m){x:Int}:x∈evS m ars h↔x∈h∨x∈moP m ars h:=by
 unfold evS
 rw[List.mem_filter,JO,Bool.or_eq_true,decide_eq_true_eq,decide_eq_true_eq]
 refine⟨fun z=>z.2,fun z=>⟨?_,z⟩⟩
 have:0≤x∧x<m:=by
  rcases z with z|z
  ·exact hr.bd x z
  ·obtain ⟨i,_,e,_⟩:=ZW m0 z
   exact((JT m0).mp (List.mem_of_getElem? e)).1
 omega
theorem WR(m0:0≤m){h:List Int}(hr:Rise h m):h=(plI m.toNat).filter fun p=>decide (p∈h):=by
 refine Zn hr.up (JP _ _) fun x=>?_
 rw[List.mem_filter,JO,decide_eq_true_eq]
 refine⟨fun z=>⟨?_,z⟩,fun z=>z.2⟩
 have:=hr.bd x z
 omega
theorem ev_step(m0:0≤m)(ga:JE m ars)(st:Stc ars){h:List Int}(x:Hf m ars h)(ne:Jf m ars h≠[]){ks:List Int}(ln:ks.length=(Jf m ars h).length)(sp:SideP (grC (ldF (am (Jf m ars h) ars)) (Jf m ars h).length) (Jf m ars h).length (am (Jf m ars h) ars) ks):Hf m ars (evS m ars h)∧h.length<(evS m ars h).length:=by
 have gs:JE ((Jf m ars h).length:Int) (am (Jf m ars h) ars):=(UO (Ys m0).up st).good ga
 have tn:((Jf m ars h).length:Int).toNat=(Jf m ars h).length:=Int.toNat_natCast _
 have ok:=QH gs
 have ek:=ksC_eq gs (ks:=ks) (by omega) (by rw[tn];exact sp)
 rw[tn]at ok ek
 have sp':SideP (grC (ldF (am (Jf m ars h) ars)) (Jf m ars h).length) ((Jf m ars h).length:Int).toNat (am (Jf m ars h) ars) (ksC (am (Jf m ars h) ars) (Jf m ars h).length):=by rw[ek,tn];exact sp
 have ok':GrOk (ldF (am (Jf m ars h) ars)) ((Jf m ars h).length:Int).toNat (grC (ldF (am (Jf m ars h) ars)) (Jf m ars h).length):=by rw[tn];exact ok
 have ln':((ksC (am (Jf m ars h) ars) (Jf m ars h).length).length:Int)=((Jf m ars h).length:Int):=by rw[ek];omega
 have mrE:mrL (am (Jf m ars h) ars) (Jf m ars h).length=bhL (grC (ldF (am (Jf m ars h) ars)) (Jf m ars h).length) (am (Jf m ars h) ars) (ksC (am (Jf m ars h) ars) (Jf m ars h).length) ((Jf m ars h).length:Int).toNat:=by rw[tn];rfl
 have ms:∀{y:Int},y∈evS m ars h↔y∈h∨y∈moP m ars h:=mem_evS m0 x.rise
 have inL:∀{y:Int},y∈moP m ars h→y∈Jf m ars h:=fun {y} hy=>by
  obtain⟨i,_,e,_⟩:=ZW m0 hy
  exact List.mem_of_getElem? e
 have pos:1≤(Jf m ars h).length:=List.length_pos_iff.mpr ne
 have up:=(Ys (ars:=ars) (ns:=h) m0).up
 have rs:Rise (evS m ars h) m:=⟨fun y hy=>by
  unfold evS at hy
  have:=JO.mp (List.mem_filter.mp hy).1
  omega,JP _ _⟩
 refine⟨⟨rs,fun q hq h1 h2=>?_,fun q hq h1 h2=>?_⟩,?_⟩
 ·rcases ms.mp h1 with h1 | h1 <;> rcases ms.mp h2 with h2 | h2
  ·exact x.ind q hq h1 h2
  ·exact x.out q hq h1 (inL h2)
  ·exact ((JT m0).mp (inL h1)).2.2 _ hq h2
  ·obtain ⟨i,j,ei,ej,ha⟩:=am_arrow m0 st (inL h1) (inL h2) hq
   obtain⟨i',_,ei',hi'⟩:=ZW m0 h1
   obtain⟨j',_,ej',hj'⟩:=ZW m0 h2
   rw[(Yv up ei' ei).2 rfl]at hi'
   rw[(Yv up ej' ej).2 rfl]at hj'
   rw[mrE]at hi' hj'
   exact bh_ind sp' ha hi' hj'
 ·obtain ⟨b0,n1,n2⟩:=(JT m0).mp h2
  have hL:q.2∈Jf m ars h:=(JT m0).mpr ⟨b0,fun z=>n1 (ms.mpr (.inl z)),fun b hb z=>n2 b hb (ms.mpr (.inl z))⟩
  rcases ms.mp h1 with h1|h1
  ·exact x.out q hq h1 hL
  ·obtain ⟨i,j,ei,ej,ha⟩:=am_arrow m0 st (inL h1) hL hq
   obtain⟨i',_,ei',hi'⟩:=ZW m0 h1
   rw[(Yv up ei' ei).2 rfl,mrE]at hi'
   obtain⟨c,hc,hc2⟩:=bh_out gs ok' sp' ln' ha hi'
   rw[← mrE]at hc2
   obtain⟨a,b,e1,rfl,_,_,hab⟩:=am_back m0 st hc
   have e1:j=a:=by omega
   subst e1
   have m2:=of_moP hc2
   rw[Int.toNat_natCast]at m2
   refine n2 _ ?_ (ms.mpr (.inr m2))
   rw[List.getD_eq_getElem?_getD,ej]at hab
   exact hab
 ·obtain ⟨p,hp⟩:=bh_some ok' sp' gs (by omega)
  rw[← mrE]at hp
  have hp:=of_moP hp
  conv=>lhs;rw[WR m0 x.rise]
  conv=>rhs;rw[WR m0 rs]
  rw[← List.countP_eq_length_filter,← List.countP_eq_length_filter]
  have hl:=(JT m0).mp (inL hp)
  refine cnt_lt (fun y _ hy=>decide_eq_true (ms.mpr (.inl (of_decide_eq_true hy)))) ⟨_,JO.mpr (by omega),decide_eq_true (ms.mpr (.inr hp)),fun z=>hl.2.1 (of_decide_eq_true z)⟩
theorem ev_stay(m0:0≤m){h:List Int}(x:Rise h m)(e:Jf m ars h=[]):evS m ars h=h:=by
 have e2:moP m ars h=[]:=by
  unfold moP
  rw[e]
  rfl
 conv=>rhs;rw[WR m0 x]
 unfold evS
 rw[e2]
 congr 1
 funext p
 simp
theorem ev_end(m0:0≤m){k:Nat}(x:Rise (evH m ars k) m)(e:Jf m ars (evH m ars k)=[]):∀d,evH m ars (k+d)=evH m ars k
 | 0=>rfl
 | d + 1=>by
  show evS m ars (evH m ars (k+d))=_
  rw[ev_end m0 x e d]
  exact ev_stay m0 x e
end
end Hk
namespace Hk
open PySem L2 PySem.W
def tNever:TS:=fun _ _ _=>False
theorem ps_never{X:Cx}{st:Stmt}:PS X st tNever:=fun _ _ _ _ _ _ h=>h.elim
section
variable{P:Program}{w:World}{K:Frag}{mg:Str→Option Value}{base:Heap}
def spRefH0:Sp:=fun vs H Q _=>∃(a t p:Addr)(m:Int)(us:List V)(ars:List (Int×Int))(ns:List Int),vs=[.ref a,.ref p]∧Web H a t m us ars∧H p=some (.tup (ns.map V.int))∧ns.length≤1000∧hfM m ars (some (ns.map V.int))=true∧∀H',Same H H'→Q .non H'
theorem kn_refH0(D:DefAt K mg "refuse_no_half" Yz ["web","thing"])(kh:Kn P w K mg base 4 "half_good" ["web","thing"] spHalf):Kn P w K mg base 5 "refuse_no_half" ["web","thing"] spRefH0:=by
 have sc:FnScope ["web","thing"] ["web","thing"] (Jl Yz):=⟨rfl,rfl,rfl,by decide +kernel,rfl,by decide +kernel,by decide +kernel⟩
 refine D.kn (N:=["web","thing"]) sc (fun vs H Q E h=>?_) (fun fa cdv A outer s H vs Q E hr h=>?_)
 ·obtain ⟨a,t,p,m,us,ars,ns,rfl,_⟩:=h
  rfl
 ·obtain ⟨a,t,p,m,us,ars,ns,rfl,W,hp,hl,hh,kk⟩:=h
  refine⟨_,(Je (JU (Wo (Yq (Jp kh hr (Ja (pv 0) (Ja (pv 1) Jc))))) (Je ps_never) Jy)),?_⟩
  refine⟨_,rfl,_,rfl,a,t,m,us,ars,.ref p,_,rfl,W,Wb hp hl,(fun ys e=>by cases e;rw[List.length_map];exact hl),fun H1 s1=>⟨_,rfl,?_⟩⟩
  rw[hh]
  exact iteF (kk H1 s1)
def spLeft0:Sp:=fun vs H Q _=>∃(a t p:Addr)(m:Int)(us:List V)(ars:List (Int×Int))(ns:List Int),vs=[.ref a,.ref p]∧Web H a t m us ars∧H p=some (.tup (ns.map V.int))∧ns.length≤1000∧hfM m ars (some (ns.map V.int))=true∧∀(q:Addr) H',Same H H'→H' q=some (.tup ((Jf m ars ns).map V.int))→Q (.ref q) H'
theorem kn_left0(D:DefAt K mg "left_by" Ux ["web","half"])(fr:Free mg ["tuple"])(kr:Kn P w K mg base 5 "refuse_no_half" ["web","thing"] spRefH0)(kl:Kn P w K mg base 2 "lost_places" ["web","places"] spLost):Kn P w K mg base 6 "left_by" ["web","half"] spLeft0:=by
 have sc:FnScope ["web","half"] ["web","half"] (Jl Ux):=⟨rfl,rfl,rfl,by decide +kernel,rfl,by decide +kernel,by decide +kernel⟩
 refine D.kn (N:=["web","half"]) sc (fun vs H Q E h=>?_) (fun fa cdv A outer s H vs Q E hr h=>?_)
 ·obtain ⟨a,t,p,m,us,ars,ns,rfl,_⟩:=h
  rfl
 ·obtain ⟨a,t,p,m,us,ars,ns,rfl,W,hp,hl,hh,kk⟩:=h
  have r2:=hr.mono (j:=2) (by decide)
  have r5:=hr.mono (j:=5) (by decide)
  have m_tuple:=fr "tuple" (by simp)
  refine⟨_,(Jd (Zo (Jp kr r5 (Ja (pv 0) (Ja (pv 1) Jc)))) (Je (Jm (JK JC rfl m_tuple JB (Ja (Jp kl r2 (Ja (pv 0) (Ja (pv 1) Jc))) Jc))))),?_⟩
  refine⟨_,rfl,_,rfl,a,t,p,m,us,ars,ns,rfl,W,hp,hl,hh,fun H1 s1=>?_⟩
  refine⟨_,rfl,_,rfl,a,t,m,us,ars,p,ns,rfl,W.mono s1,s1 _ _ hp,hl,fun l H2 s2 hl2=>?_⟩
  exact⟨l,_,rfl,.inl ⟨SqL.of hl2,fun q hq=>kk q _ ((s1.trans s2).trans (Same.upd hq)) Jb⟩⟩
def spBotP:Sp:=fun vs H Q _=>∃(a t:Addr)(m:Int)(us:List V)(ars:List (Int×Int))(Gr:Nat→List Int),vs=[.ref a]∧Web H a t m us ars∧JE m ars∧m≤40∧GrOk (ldF ars) m.toNat Gr ∧
 ∀(l:Addr)(H':Hp),Same H H'→H' l=some (.lst ((botL Gr ars m.toNat).map V.int))→Q (.ref l) H'
theorem kn_botP(D:DefAt K mg "bottom_places" YT ["web"])(fr:Free mg ["range"])(kl:Kn P w K mg base 3 "least_places" ["web"] Qk)(km:Kn P w K mg base 1 "marked" ["places"] Uu):Kn P w K mg base 4 "bottom_places" ["web"] spBotP:=by
 have sc:FnScope ["web","least","upper"] ["web"] (Jl YT):=⟨rfl,rfl,rfl,by decide +kernel,rfl,by decide +kernel,by decide +kernel⟩
 refine D.kn (N:=["web","least","upper"]) sc (fun vs H Q E h=>?_) (fun fa cdv A outer s H vs Q E hr h=>?_)
 ·obtain ⟨a,t,m,us,ars,Gr,rfl,_⟩:=h
  rfl
 ·obtain ⟨a,t,m,us,ars,Gr,rfl,W,ga,m40,ok,kk⟩:=h
  have hu:=YW hr
  have r1:=hr.mono (j:=1) (by decide)
  have m_range:=fr "range" (by simp)
  have nd0:(["a","b","least"]:List Str).Nodup:=by decide +kernel
  have nd1:(["place","least","upper"]:List Str).Nodup:=by decide +kernel
  refine⟨_,(Jd (Jn (i:=1) sc.nd rfl (Or.inr rfl) (Jp kl hr (Ja (pv 0) Jc))) (Jd (Jn (i:=2) sc.nd rfl (Or.inr rfl) (Jp km r1 (Ja (Ye (N:=["a","b","least"]) (src:=[none,none,some 1]) rfl ⟨rfl,rfl,rfl,rfl,⟨⟨rfl,rfl⟩,trivial⟩,rfl,rfl,rfl⟩ (YF (i:=0) (j:=1) rfl rfl) (YC (Jx JA (pv 0) Ji (fun _ _=>rfl))) (fun C s H fp=>⟨(YV (n:=2) rfl (Jz (Jk (i:=0) nd0 rfl (Or.inl rfl)) (Jz (Jk (i:=1) nd0 rfl (Or.inl rfl)) Yr))),(Yb (Js UL (Jx (r:=rIxL K) JL (pv 2) (pv 0) (fun _ _=>rfl)) (Jx (r:=rIxL K) JL (pv 2) (pv 1) (fun _ _=>rfl)) (Jq _))),(Jx (r:=rIxL K) JL (pv 2) (pv 0) (fun _ _=>rfl))⟩)) Jc))) (Je (Jm (Ye (N:=["place","least","upper"]) (src:=[none,some 1,some 2]) rfl ⟨rfl,rfl,rfl,rfl,⟨⟨rfl,rfl⟩,⟨⟨rfl,rfl⟩,trivial⟩⟩,rfl,rfl,rfl⟩ (Jw (i:=0) rfl) (JQ rfl m_range (Ja (Jx JA (pv 0) Ji (fun _ _=>rfl)) Jc)) (fun C s H fp=>⟨(Jk (i:=0) nd1 rfl (Or.inl rfl)),(Yb (YU (ZG hu (Jx (r:=rIxL K) JL (pv 1) (pv 0) (fun _ _=>rfl)) (pv 2)))),(pv 0)⟩)))))),?_⟩
  refine⟨_,rfl,a,t,m,us,ars,Gr,rfl,W,ga,m40,ok,fun l H1 s1 hlN hl=>?_⟩
  refine Jo ?_
  dsimp only[List.set]
  have lu:=JS W.ars
  have wl:=W.len
  have hm:=W.mb
  have W1:=W.mono s1
  have upLen:∀i,(upL Gr (ars.take i)).length≤1000:=fun i=>by
   unfold upL
   rw[List.length_map]
   have e2:=List.length_filter_le (fun(q:Int×Int)=>!decide (lstF Gr q.1=lstF Gr q.2)) (ars.take i)
   rw[List.length_take]at e2
   omega
  refine⟨_,rfl,a,_,_,_,rfl,rfl,SqT.of W1.top,rfl,t,rfl,⟨_,SqT.of W1.arr⟩,QF (xs:=us) (fun i zs H'=>Same H1 H'∧zs=(upL Gr (ars.take i)).map V.int) ⟨Same.refl _,rfl⟩ ?_ ?_ ?_⟩
  ·rintro i zs H' hi ⟨s2,rfl⟩
   refine⟨SqT.of (s2 _ _ W1.arr),?_⟩
   rw[List.length_map]
   exact Nat.le_of_lt (Jj (upLen i))
  ·rintro zs H2 ⟨s2,rfl⟩ y hy
   have ul:=upLen us.length
   rw[List.take_of_length_le (by omega)]at ul ⊢
   have sy:=Same.upd (o:=.lst ((upL Gr ars).map V.int)) hy
   refine⟨y,upL Gr ars,rfl,Jb,ul,fun d kvs H3 s3 hdn hd mk=>?_⟩
   have s4:=s2.trans (sy.trans s3)
   refine Jo ?_
   dsimp only[List.set]
   have W3:=W1.mono s4
   have hl3:=s4 _ _ hl
   refine⟨_,rfl,a,_,_,_,rfl,rfl,SqT.of W3.top,rfl,m,rfl,by omega,by omega,Wt (n:=m.toNat) (fun i zs H'=>Same H3 H'∧zs=(((plI m.toNat).take i).filter fun p=>!decide (lstF Gr p∈upL Gr ars)).map V.int) ⟨Same.refl _,rfl⟩ ?_ ?_ ?_⟩
   ·rintro i zs H' hi ⟨s5,rfl⟩
    have h2:=List.length_filter_le (fun p=>!decide (lstF Gr p∈upL Gr ars)) ((plI m.toNat).take i)
    rw[List.length_take,YY]at h2
    rw[List.length_map]
    exact Nat.le_of_lt (Jj (by omega))
   ·rintro zs H' ⟨s5,rfl⟩ z hz
    rw[List.take_of_length_le (by rw[YY];exact Nat.le_refl _)]
    exact kk z _ (((s1.trans s4).trans s5).trans (Same.upd hz)) Jb
   ·rintro i zs H' hi ⟨s5,rfl⟩
    have e1:(plI m.toNat)[i]?=some (0+(i:Int)):=by rw[Int.zero_add];exact plI_at hi
    have fs:=JH (fun p=>!decide (lstF Gr p∈upL Gr ars)) _ _ _ e1
    have g1:DGet H' d (.int (lstF Gr (0+(i:Int)))) (valV kvs (Sum.inl (lstF Gr (0+(i:Int))))):=DGet.k (k:=Sum.inl (lstF Gr (0+(i:Int)))) (s5 _ _ hd)
    refine⟨_,rfl,_,rfl,l,_,_,_,rfl,rfl,SqL.of (s5 _ _ hl3),Zc (by omega) (by omega),_,rfl,d,_,rfl,g1,_,rfl,?_⟩
    rw[mk]
    refine ite2 (fun h2=>?_) (fun h2=>?_)
    ·refine ⟨_,rfl,nx hi ⟨s5,?_⟩⟩
     rw[fs,if_pos h2,List.map_append]
     rfl
    ·refine nx hi ⟨s5,?_⟩
     rw[fs,if_neg h2,List.append_nil]
  ·rintro i x zs H' hx hi ⟨s2,rfl⟩
   obtain⟨q,e1,r,rfl,hr'⟩:=Paired.get' W1.ars hx
   obtain⟨g1,g2,g3,g4,_⟩:=ga q (List.mem_of_getElem? e1)
   have fs:=JH (fun(q:Int×Int)=>!decide (lstF Gr q.1=lstF Gr q.2)) ars i q e1
   have hl2:=s2 _ _ hl
   refine⟨r,_,rfl,SqT.of (s2 _ _ hr'),rfl,_,_,rfl,_,_,rfl,rfl,_,rfl,_,rfl,l,_,_,_,rfl,rfl,SqL.of hl2,Zc g1 (by omega),_,rfl,_,rfl,l,_,_,_,rfl,rfl,SqL.of hl2,Zc g3 (by omega),rfl,_,rfl,?_⟩
   have hq:(!decide (V.int (lstF Gr q.1)=V.int (lstF Gr q.2)))=!decide (lstF Gr q.1=lstF Gr q.2):=by simp
   rw[hq]
   refine ite2 (fun h2=>?_) (fun h2=>?_)
   ·refine ⟨_,rfl,_,rfl,l,_,_,_,rfl,rfl,SqL.of hl2,Zc g1 (by omega),nx hi ⟨s2,?_⟩⟩
    unfold upL
    rw[fs,if_pos h2,List.map_append,List.map_append]
    rfl
   ·refine nx hi ⟨s2,?_⟩
    unfold upL
    rw[fs,if_neg h2,List.append_nil]
def spBotH:Sp:=fun vs H Q _=>∃(a t:Addr)(m:Int)(us:List V)(ars:List (Int×Int))(Gr:Nat→List Int),vs=[.ref a]∧Web H a t m us ars∧JE m ars∧1≤m∧m≤40∧GrOk (ldF ars) m.toNat Gr∧(¬ ∃s:Int,0≤s∧s<m∧Rc2 (ldF ars) s s 1) ∧
 ∀(l:Addr)(ks:List Int)(H':Hp),Same H H'→H' l=some (.lst ((bhL Gr ars ks m.toNat).map V.int))→(ks.length:Int)=m→SideP Gr m.toNat ars ks→Q (.ref l) H'
theorem kn_botH(D:DefAt K mg "bottom_half" Zz ["web"])(ks:Kn P w K mg base 6 "sides_of" ["web"] Qi)(kb:Kn P w K mg base 4 "bottom_places" ["web"] spBotP):Kn P w K mg base 7 "bottom_half" ["web"] spBotH:=by
 have sc:FnScope ["web","sides"] ["web"] (Jl Zz):=⟨rfl,rfl,rfl,by decide +kernel,rfl,by decide +kernel,by decide +kernel⟩
 refine D.kn (N:=["web","sides"]) sc (fun vs H Q E h=>?_) (fun fa cdv A outer s H vs Q E hr h=>?_)
 ·obtain ⟨a,t,m,us,ars,Gr,rfl,_⟩:=h
  rfl
 ·obtain ⟨a,t,m,us,ars,Gr,rfl,W,ga,m1,m40,ok,no,kk⟩:=h
  have r4:=hr.mono (j:=4) (by decide)
  have nd0:(["place","sides"]:List Str).Nodup:=by decide +kernel
  refine⟨_,(Jd (Jn (i:=1) sc.nd rfl (Or.inr rfl) (Jp ks hr (Ja (pv 0) Jc))) (Je (Jm (Ye (N:=["place","sides"]) (src:=[none,some 1]) rfl ⟨rfl,rfl,rfl,rfl,⟨⟨rfl,rfl⟩,trivial⟩,rfl,rfl,rfl⟩ (Jw (i:=0) rfl) (JR (Jp kb r4 (Ja (pv 0) Jc))) (fun C s H fp=>⟨(Jk (i:=0) nd0 rfl (Or.inl rfl)),(Yb (Js ZI (Jx (r:=rIxT K) JA (pv 1) (pv 0) (fun _ _=>rfl)) Ji (Jq _))),(pv 0)⟩))))),?_⟩
  refine⟨_,rfl,a,t,m,us,ars,Gr,rfl,W,ga,m1,m40,ok,fun z=>absurd z no,fun q ks H1 s1 hq ln sp=>?_⟩
  refine Jo ?_
  dsimp only[List.set]
  refine⟨_,rfl,a,t,m,us,ars,Gr,rfl,W.mono s1,ga,m40,ok,fun l H2 s2 hl=>?_⟩
  have bl:=List.length_filter_le (fun p=>!decide (lstF Gr p∈upL Gr ars)) (plI m.toNat)
  rw[YY]at bl
  have bl:(botL Gr ars m.toNat).length≤m.toNat:=bl
  have bm:∀p∈botL Gr ars m.toNat,0≤p∧p<(m.toNat:Nat):=fun p hp=>JO.mp (List.mem_filter.mp hp).1
  refine⟨l,rfl,⟨_,SqL.of hl⟩,UY (xs:=(botL Gr ars m.toNat).map V.int) (fun i zs H'=>Same H2 H'∧zs=(((botL Gr ars m.toNat).take i).filter fun p=>decide (ks.getD p.toNat 0=0)).map V.int) ⟨Same.refl _,rfl⟩ ?_ ?_ ?_⟩
  ·rintro i zs H' hi ⟨s3,rfl⟩
   have h2:=List.length_filter_le (fun p:Int=>decide (ks.getD p.toNat 0=0)) ((botL Gr ars m.toNat).take i)
   rw[List.length_take]at h2
   refine⟨SqL.of (s3 _ _ hl),?_⟩
   rw[List.length_map]
   exact Nat.le_of_lt (Jj (by omega))
  ·rintro zs H' ⟨s3,rfl⟩ z hz
   rw[List.length_map,List.take_of_length_le (Nat.le_refl _)]
   exact kk z ks _ ((s1.trans s2).trans (s3.trans (Same.upd hz))) Jb ln sp
  ·rintro i x zs H' hx hi ⟨s3,rfl⟩
   rw[List.getElem?_map]at hx
   obtain⟨p,e1,rfl⟩:=Option.map_eq_some_iff.mp hx
   obtain⟨p0,p1⟩:=bm p (List.mem_of_getElem? e1)
   have fs:=JH (fun p:Int=>decide (ks.getD p.toNat 0=0)) _ _ _ e1
   refine⟨_,rfl,_,rfl,q,_,_,_,rfl,rfl,SqT.of ((s2.trans s3) _ _ hq),UH p0 (by omega),rfl,_,rfl,?_⟩
   have hd:decide (V.int (ks.getD p.toNat 0)=V.int 0)=decide (ks.getD p.toNat 0=0):=by simp
   rw[hd]
   refine ite2 (fun h2=>?_) (fun h2=>?_)
   ·refine ⟨_,rfl,nx hi ⟨s3,?_⟩⟩
    rw[fs,if_pos h2,List.map_append]
    rfl
   ·refine nx hi ⟨s3,?_⟩
    rw[fs,if_neg h2,List.append_nil]
end
end Hk
namespace Hk
open PySem L2 PySem.W
section
variable{m:Int}{ars:List (Int×Int)}
theorem moP_up(m0:0≤m){h:List Int}:(moP m ars h).Pairwise (·<·):=by
 have up:=(Ys (ars:=ars) (ns:=h) m0).up
 unfold moP
 rw[List.pairwise_map]
 have r:(mrL (am (Jf m ars h) ars) (Jf m ars h).length).Pairwise (·<·):=List.Pairwise.filter _ (JP _ _)
 refine List.Pairwise.imp_of_mem (fun {i j} hi hj hij=>?_) r
 obtain⟨⟨i0,i1⟩,_⟩:=YZ.mp hi
 obtain⟨⟨j0,j1⟩,_⟩:=YZ.mp hj
 have ei:=List.getElem?_eq_getElem (l:=Jf m ars h) (i:=i.toNat) (by omega)
 have ej:=List.getElem?_eq_getElem (l:=Jf m ars h) (i:=j.toNat) (by omega)
 rw[List.getD_eq_getElem?_getD,List.getD_eq_getElem?_getD,ei,ej]
 exact(Yv up ei ej).1.mp (by omega)
theorem ev_nodup(m0:0≤m){h:List Int}(hr:Rise h m):(h++moP m ars h).Nodup:=by
 refine List.nodup_append.mpr ⟨hr.up.imp fun {a b} z e=>by omega,(moP_up m0).imp fun {a b} z e=>by omega,fun a ha b hb e=>?_⟩
 subst e
 obtain⟨i,_,e,_⟩:=ZW m0 hb
 exact((JT m0).mp (List.mem_of_getElem? e)).2.1 ha
theorem ev_len(m0:0≤m){h:List Int}(hr:Rise h m):(h++moP m ars h).length≤m.toNat:=by
 refine Yw (ev_nodup m0 hr) fun x hx=>?_
 rcases List.mem_append.mp hx with z|z
 ·have:=hr.bd x z
  omega
 ·obtain ⟨i,_,e,_⟩:=ZW m0 z
  have:=((JT m0).mp (List.mem_of_getElem? e)).1
  omega
theorem ev_sorted(m0:0≤m){h ns:List Int}(hr:Rise h m)(pm:ns.Perm (h++moP m ars h))(le:ns.Pairwise (·≤·)):ns=evS m ars h:=by
 have nd:ns.Nodup:=pm.nodup_iff.mpr (ev_nodup m0 hr)
 refine Zn (le_lt le nd) (JP _ _) fun x=>?_
 rw[pm.mem_iff,List.mem_append]
 exact(mem_evS m0 hr).symm
end
section
variable{P:Program}{w:World}{K:Frag}{mg:Str→Option Value}{base:Heap}
def spHE:Sp:=fun vs H Q _=>∃(a t:Addr)(m:Int)(us:List V)(ars:List (Int×Int)),vs=[.ref a]∧Web H a t m us ars∧us.length≤200∧JE m ars∧Stc ars∧1≤m∧m≤40∧(¬ ∃s:Int,0≤s∧s<m∧Rc2 (ldF ars) s s 1) ∧
 ∀(q:Addr)(H':Hp),Same H H'→H' q=some (.tup ((evH m ars m.toNat).map V.int))→Rise (evH m ars m.toNat) m→hgM m ars (some ((evH m ars m.toNat).map V.int))=true→Q (.ref q) H'
theorem kn_heven(D:DefAt K mg "hold_of_even" Zk ["web"])(fr:Free mg ["sorted","tuple"])(kl:Kn P w K mg base 6 "left_by" ["web","half"] spLeft0)(kb:Kn P w K mg base 7 "bottom_half" ["web"] spBotH)(ka:Kn P w K mg base 1 "among_web" ["web","places"] spAmong):Kn P w K mg base 8 "hold_of_even" ["web"] spHE:=by
 have sc:FnScope ["web","half","left","more"] ["web"] (Jl Zk):=⟨rfl,rfl,rfl,by decide +kernel,rfl,by decide +kernel,by decide +kernel⟩
 refine D.kn (N:=["web","half","left","more"]) sc (fun vs H Q E h=>?_) (fun fa cdv A outer s H vs Q E hr h=>?_)
 ·obtain ⟨a,t,m,us,ars,rfl,_⟩:=h
  rfl
 ·obtain ⟨a,t,m,us,ars,rfl,W,h200,ga,st,m1,m40,no,kk⟩:=h
  have hu:=YW hr
  have r1:=hr.mono (j:=1) (by decide)
  have r6:=hr.mono (j:=6) (by decide)
  have m_sorted:=fr "sorted" (by simp)
  have m_tuple:=fr "tuple" (by simp)
  have nd0:(["number","left"]:List Str).Nodup:=by decide +kernel
  have nd1:(["number","left"]:List Str).Nodup:=by decide +kernel
  have nd2:(["number","left"]:List Str).Nodup:=by decide +kernel
  have nd3:(["number","left"]:List Str).Nodup:=by decide +kernel
  have nd4:(["number","left"]:List Str).Nodup:=by decide +kernel
  have nd5:(["number","left"]:List Str).Nodup:=by decide +kernel
  have nd6:(["number","left"]:List Str).Nodup:=by decide +kernel
  have nd7:(["number","left"]:List Str).Nodup:=by decide +kernel
  refine⟨_,(Jd (Jn (i:=1) sc.nd rfl (Or.inl rfl) (Yj Jc)) (Jd (Jn (i:=2) sc.nd rfl (Or.inr rfl) (Jp kl r6 (Ja (pv 0) (Ja (pv 1) Jc)))) (Jd (Wp PassesOwn.never (Js (op_neT (Nat.lt_of_succ_lt hu)) (pv 2) (Yj Jc) (Jq _)) (Jd (Jn (i:=3) sc.nd rfl (Or.inl rfl) (Jp kb hr (Ja (Jp ka r1 (Ja (pv 0) (Ja (pv 2) Jc))) Jc))) (Jd (Jn (i:=1) sc.nd rfl (Or.inl rfl) (JK JC rfl m_tuple JB (Ja (Jr Uo rfl m_sorted Yn (Ja (JM op_cat2 (pv 1) (JK JC rfl m_tuple JB (Ja (Ye (N:=["number","left"]) (src:=[none,some 2]) rfl ⟨rfl,rfl,rfl,rfl,⟨⟨rfl,rfl⟩,trivial⟩,rfl,rfl,rfl⟩ (Jw (i:=0) rfl) (JR (pv 3)) (fun C s H fp=>⟨(Jk (i:=0) nd7 rfl (Or.inl rfl)),JG,(Jx (r:=rIxT K) JA (pv 1) (pv 0) (fun _ _=>rfl))⟩)) Jc))) Jc)) Jc))) (Je (Jn (i:=2) sc.nd rfl (Or.inr rfl) (Jp kl r6 (Ja (pv 0) (Ja (pv 1) Jc)))))))) (Je (Jm (pv 1)))))),?_⟩
  have c0:0≤sizeLine:=by decide
  have sl:1000≤sizeLine:=by decide
  have m0:0≤m:=by omega
  refine⟨c0,fun e he=>?_⟩
  have s1:=Same.upd (o:=.tup []) he
  have he1:(upd H e (.tup [])) e=some (.tup (([]:List Int).map V.int)):=Jb
  show Zr 1 (.ref e) _ (upd H e (.tup [])) _
  generalize upd H e (.tup [])=H1 at s1 he1
  refine Jo ?_
  dsimp only[List.set]
  refine⟨_,rfl,_,rfl,a,t,e,m,us,ars,[],rfl,W.mono s1,he1,(by decide),(Hf.empty m ars).hf,fun q H2 s2 hq=>?_⟩
  refine Jo ?_
  dsimp only[List.set]
  refine⟨fun μ σ H4=>∃(k:Nat)(hp lq:Addr)(v3:Option V),σ=[some (.ref a),some (.ref hp),some (.ref lq),v3]∧Same H H4∧H4 hp=some (.tup ((evH m ars k).map V.int))∧H4 lq=some (.tup ((Jf m ars (evH m ars k)).map V.int))∧Hf m ars (evH m ars k)∧k≤(evH m ars k).length∧μ+k=m.toNat,⟨m.toNat,0,e,q,_,rfl,s1.trans s2,s2 _ _ he1,hq,Hf.empty m ars,Nat.le_refl _,Nat.add_zero _⟩,?_⟩
  rintro μ σ H4 ⟨k,hp,lq,v3,rfl,s4,hh4,hl4,hf,kl4,mu⟩
  have lh:=hf.rise.len
  have rL:Rise (Jf m ars (evH m ars k)) m:=Ys m0
  have lL:=rL.len
  refine⟨_,rfl,c0,fun z hz=>?_⟩
  have sz:=Same.upd (o:=.tup []) hz
  have s5:=s4.trans sz
  have hh5:=sz _ _ hh4
  have hl5:=sz _ _ hl4
  refine⟨lq,z,_,_,rfl,rfl,hl5,Jb,flat_ints _,flat_ints [],_,rfl,?_⟩
  generalize upd H4 z (.tup [])=H5 at s5 hh5 hl5
  rw[show([]:List V)=([]:List Int).map V.int from rfl,ZN]
  refine ite2 (fun c=>?_) (fun c=>?_)
  ·have ne:Jf m ars (evH m ars k)≠[]:=by simpa using c
   have pos:=List.length_pos_iff.mpr ne
   refine⟨fun σ' H'=>∃μ',μ'<μ∧∃(k:Nat)(hp lq:Addr)(v3:Option V),σ'=[some (.ref a),some (.ref hp),some (.ref lq),v3]∧Same H H'∧H' hp=some (.tup ((evH m ars k).map V.int))∧H' lq=some (.tup ((Jf m ars (evH m ars k)).map V.int))∧Hf m ars (evH m ars k)∧k≤(evH m ars k).length∧μ'+k=m.toNat,fun _ _ z=>z,?_⟩
   -- more=bottom_half(among_web(web,left))
   refine⟨_,rfl,_,rfl,a,t,m,us,ars,lq,_,rfl,W.mono s5,h200,st,hl5,rL.up,by omega,fun a' t' us' sub H6 s6 W6 am6 l200=>?_⟩
   obtain rfl:=am6.uniq (UO rL.up st)
   have gs:JE ((Jf m ars (evH m ars k)).length:Int) (am (Jf m ars (evH m ars k)) ars):=am6.good ga
   refine⟨a',t',_,us',_,grC (ldF (am (Jf m ars (evH m ars k)) ars)) (Jf m ars (evH m ars k)).length,rfl,W6,gs,by omega,by omega,QH gs,no_sub m0 st no,fun ml ks H7 s7 hml ln sp=>?_⟩
   have tn:((Jf m ars (evH m ars k)).length:Int).toNat=(Jf m ars (evH m ars k)).length:=Int.toNat_natCast _
   have ek:=ksC_eq gs (ks:=ks) ln (by rw[tn]at sp ⊢;exact sp)
   rw[tn]at hml sp ek
   subst ek
   have hml:H7 ml=some (.lst ((mrL (am (Jf m ars (evH m ars k)) ars) (Jf m ars (evH m ars k)).length).map V.int)):=hml
   obtain⟨hf',lt'⟩:=ev_step m0 ga st hf ne (by omega) sp
   have rE:Rise (evS m ars (evH m ars k)) m:=hf'.rise
   refine Jo ?_
   dsimp only[List.set]
   have s67:=s6.trans s7
   have s7':=s5.trans s67
   have hh7:=s67 _ _ hh5
   have hl7:=s67 _ _ hl5
   have mrM:∀i∈mrL (am (Jf m ars (evH m ars k)) ars) (Jf m ars (evH m ars k)).length,0≤i∧i<((Jf m ars (evH m ars k)).length:Nat):=fun i hi=>(YZ.mp hi).1
   have mrN:(mrL (am (Jf m ars (evH m ars k)) ars) (Jf m ars (evH m ars k)).length).length≤40:=by
    have e1:=List.length_filter_le (fun p:Int=>decide ((ksC (am (Jf m ars (evH m ars k)) ars) (Jf m ars (evH m ars k)).length).getD p.toNat 0=0)) (botL (grC (ldF (am (Jf m ars (evH m ars k)) ars)) (Jf m ars (evH m ars k)).length) (am (Jf m ars (evH m ars k)) ars) (Jf m ars (evH m ars k)).length)
    have e2:=List.length_filter_le (fun p=>!decide (lstF (grC (ldF (am (Jf m ars (evH m ars k)) ars)) (Jf m ars (evH m ars k)).length) p∈upL (grC (ldF (am (Jf m ars (evH m ars k)) ars)) (Jf m ars (evH m ars k)).length) (am (Jf m ars (evH m ars k)) ars))) (plI (Jf m ars (evH m ars k)).length)
    rw[YY]at e2
    have e1:(mrL (am (Jf m ars (evH m ars k)) ars) (Jf m ars (evH m ars k)).length).length≤(botL (grC (ldF (am (Jf m ars (evH m ars k)) ars)) (Jf m ars (evH m ars k)).length) (am (Jf m ars (evH m ars k)) ars) (Jf m ars (evH m ars k)).length).length:=e1
    have e2:(botL (grC (ldF (am (Jf m ars (evH m ars k)) ars)) (Jf m ars (evH m ars k)).length) (am (Jf m ars (evH m ars k)) ars) (Jf m ars (evH m ars k)).length).length≤(Jf m ars (evH m ars k)).length:=e2
    omega
   have moN:(moP m ars (evH m ars k)).length≤40:=by
    unfold moP
    rw[List.length_map]
    exact mrN
   -- half=tuple(sorted(half+tuple([left[number] for number in more])))
   refine⟨_,rfl,_,rfl,ml,rfl,⟨_,SqL.of hml⟩,Zm (xs:=(mrL (am (Jf m ars (evH m ars k)) ars) (Jf m ars (evH m ars k)).length).map V.int) (fun i zs H'=>Same H7 H'∧zs=(((mrL (am (Jf m ars (evH m ars k)) ars) (Jf m ars (evH m ars k)).length).take i).map fun i=>(Jf m ars (evH m ars k)).getD i.toNat 0).map V.int) ⟨Same.refl _,rfl⟩ ?_ ?_ ?_⟩
   ·rintro i zs H' hi ⟨s8,rfl⟩
    refine⟨SqL.of (s8 _ _ hml),?_⟩
    rw[List.length_map,List.length_map,List.length_take]
    omega
   ·rintro zs H8 ⟨s8,rfl⟩ y hy
    rw[List.length_map,List.take_of_length_le (Nat.le_refl _)]
    have em:(mrL (am (Jf m ars (evH m ars k)) ars) (Jf m ars (evH m ars k)).length).map (fun i=>(Jf m ars (evH m ars k)).getD i.toNat 0)=moP m ars (evH m ars k):=rfl
    rw[em]
    refine⟨y,_,rfl,.inl ⟨SqL.of Jb,fun tq htq=>?_⟩⟩
    have sA:=(s8.trans (Same.upd (o:=.lst ((moP m ars (evH m ars k)).map V.int)) hy)).trans (Same.upd (o:=.tup ((moP m ars (evH m ars k)).map V.int)) htq)
    refine⟨hp,tq,_,_,rfl,rfl,sA _ _ hh7,Jb,?_,fun cq H9 s9 hcq=>?_⟩
    ·rw [List.length_map,List.length_map]
     omega
    rw[← List.map_append]at hcq
    refine⟨cq,_,rfl,hcq,?_,fun D ns' H10 s10 hD pm le=>?_⟩
    ·have ll:=ev_len (ars:=ars) m0 hf.rise
     omega
    have en:=ev_sorted m0 hf.rise pm le
    subst en
    refine⟨D,_,rfl,.inl ⟨SqL.of hD,fun nq hnq=>?_⟩⟩
    have sB:=sA.trans (s9.trans (s10.trans (Same.upd (o:=.tup ((evS m ars (evH m ars k)).map V.int)) hnq)))
    have hn11:(upd H10 nq (.tup ((evS m ars (evH m ars k)).map V.int))) nq=some (.tup ((evS m ars (evH m ars k)).map V.int)):=Jb
    have s11:=s7'.trans sB
    show Zr 1 (.ref nq) _ (upd H10 nq (.tup ((evS m ars (evH m ars k)).map V.int))) _
    generalize upd H10 nq (.tup ((evS m ars (evH m ars k)).map V.int))=H11 at hn11 s11
    refine Jo ?_
    dsimp only[List.set]
    refine⟨_,rfl,_,rfl,a,t,nq,m,us,ars,_,rfl,W.mono s11,hn11,by have:=rE.len;omega,hf'.hf,fun q2 H12 s12 hq2=>?_⟩
    refine Jo ?_
    dsimp only[List.set]
    have le':=rE.len
    exact⟨μ-1,by omega,k+1,nq,q2,_,rfl,s11.trans s12,s12 _ _ hn11,hq2,hf',(by show k+1≤(evS m ars (evH m ars k)).length;omega),by omega⟩
   ·rintro i x zs H' hx hi ⟨s8,rfl⟩
    rw[List.getElem?_map]at hx
    obtain⟨p,e1,rfl⟩:=Option.map_eq_some_iff.mp hx
    obtain⟨p0,p1⟩:=mrM p (List.mem_of_getElem? e1)
    refine⟨_,rfl,_,rfl,lq,_,_,_,rfl,rfl,SqT.of (s8 _ _ hl7),UH p0 p1,nx hi ⟨s8,?_⟩⟩
    rw[Ju _ _ _ e1,List.map_append,List.map_append]
    rfl
  ·have e0:Jf m ars (evH m ars k)=[]:=by simpa using c
   have ee:=ev_end m0 hf.rise e0 (m.toNat-k)
   rw[show k+(m.toNat-k)=m.toNat by omega]at ee
   refine⟨_,rfl,kk hp H5 s5 ?_ ?_ ?_⟩
   ·rw [ee]
    exact hh5
   ·rw [ee]
    exact hf.rise
   ·rw [ee]
    exact hf.hold e0
def spHOR:Sp:=fun vs H Q _=>∃(a t:Addr)(m:Int)(us:List V)(ars:List (Int×Int)),vs=[.ref a]∧Web H a t m us ars∧us.length≤200∧JE m ars∧Stc ars∧1≤m∧m≤40 ∧
 ∀(o:Option (List Int))(wd:Str)(q r:Addr)(ns:List Int)(H':Hp),Same H H'→IsOR (ldF ars) m.toNat o→H' r=some (.tup [.str wd,.ref q])→H' q=some (.tup (ns.map V.int))→((o=none∧wd="hold"∧ns=evH m ars m.toNat∧Rise ns m∧hgM m ars (some (ns.map V.int))=true)∨(o=some ns∧wd="ring"))→Q (.ref r) H'
theorem kn_hor(D:DefAt K mg "hold_or_ring" Zj ["web"])(ko:Kn P w K mg base 2 "odd_ring" ["web"] spOR)(kh:Kn P w K mg base 8 "hold_of_even" ["web"] spHE):Kn P w K mg base 9 "hold_or_ring" ["web"] spHOR:=by
 have sc:FnScope ["web","ring"] ["web"] (Jl Zj):=⟨rfl,rfl,rfl,by decide +kernel,rfl,by decide +kernel,by decide +kernel⟩
 refine D.kn (N:=["web","ring"]) sc (fun vs H Q E h=>?_) (fun fa cdv A outer s H vs Q E hr h=>?_)
 ·obtain ⟨a,t,m,us,ars,rfl,_⟩:=h
  rfl
 ·obtain ⟨a,t,m,us,ars,rfl,W,h200,ga,st,m1,m40,kk⟩:=h
  have r2:=hr.mono (j:=2) (by decide)
  refine⟨_,(Jd (Jn (i:=1) sc.nd rfl (Or.inl rfl) (Jp ko r2 (Ja (pv 0) Jc))) (Jd (JU (Js op_isN (pv 1) YD (Jq _)) (Je (Jm (Yj (Ja pe_str (Ja (Jp kh hr (Ja (pv 0) Jc)) Jc))))) Jy) (Je (Jm (Yj (Ja pe_str (Ja (pv 1) Jc))))))),?_⟩
  have c2:2≤sizeLine:=by decide
  have hf:∀q:Nat,∀b∈ldF ars q,(0≤b∧b<(m.toNat:Nat))∧b≠(q:Int):=fun q b hb=>ZM ga q b hb
  refine⟨_,rfl,a,t,m,us,ars,rfl,W,ga,m1,m40,fun o v H1 s1 io hv=>?_⟩
  refine Jo ?_
  dsimp only[List.set]
  cases o with
  | none =>
   have hv:v=.non:=hv
   subst hv
   have no:=io.ok hf
   refine⟨_,rfl,rfl,_,rfl,iteT ?_⟩
   refine⟨_,rfl,a,t,m,us,ars,rfl,W.mono s1,h200,ga,st,m1,m40,fun⟨s,h0,h1,r⟩=>no ⟨s,h0,by omega,r⟩,fun q H2 s2 hq rs hg=>⟨c2,fun r hr=>?_⟩⟩
   exact kk none "hold" q r _ _ ((s1.trans s2).trans (Same.upd hr)) io Jb (Same.upd hr _ _ hq) (.inl ⟨rfl,rfl,rfl,rs,hg⟩)
  | some R =>
   obtain⟨q,rfl,hq⟩:=hv
   refine⟨_,rfl,rfl,_,rfl,iteF ?_⟩
   refine⟨_,rfl,c2,fun r hr=>?_⟩
   exact kk (some R) "ring" q r R _ (s1.trans (Same.upd hr)) io Jb (Same.upd hr _ _ hq) (.inr ⟨rfl,rfl⟩)
end
end Hk
namespace Hk
def stb(κ:Nat→Option Bool)(bs:List Int):Option Bool :=
 if (bs.any fun b=>κ b.toNat==some true)=true then some false else if (bs.all fun b=>κ b.toNat==some false)=true then some true else none
def Le(κ τ:Nat→Option Bool):Prop:=∀i b,κ i=some b→τ i=some b
theorem Le.refl(κ:Nat→Option Bool):Le κ κ:=fun _ _ h=>h
theorem Le.trans{κ τ υ:Nat→Option Bool}(a:Le κ τ)(b:Le τ υ):Le κ υ:=fun i c h=>b i c (a i c h)
theorem ZF{κ τ:Nat→Option Bool}(h:Le κ τ){bs:List Int}{v:Bool}(e:stb κ bs=some v):stb τ bs=some v:=by
 unfold stb at e ⊢
 by_cases h1:(bs.any fun b=>κ b.toNat==some true)=true
 ·rw [if_pos h1] at e
  have h2:(bs.any fun b=>τ b.toNat==some true)=true:=by
   obtain⟨b,hb,q⟩:=List.any_eq_true.mp h1
   exact List.any_eq_true.mpr ⟨b,hb,by simpa using h _ _ (by simpa using q)⟩
  rw[if_pos h2]
  exact e
 ·rw [if_neg h1] at e
  by_cases h3:(bs.all fun b=>κ b.toNat==some false)=true
  ·rw [if_pos h3] at e
   have h4:∀b∈bs,τ b.toNat=some false:=fun b hb=>h _ _ (by simpa using List.all_eq_true.mp h3 b hb)
   have h5:¬ (bs.any fun b=>τ b.toNat==some true)=true:=fun z=>by
    obtain⟨b,hb,q⟩:=List.any_eq_true.mp z
    rw[h4 b hb]at q
    exact absurd q (by decide)
   rw[if_neg h5,if_pos (List.all_eq_true.mpr fun b hb=>by rw[h4 b hb];rfl)]
   exact e
  ·rw [if_neg h3] at e
   cases e
def Yp(m:Nat)(f:Nat→List Int)(κ:Nat→Option Bool):Prop:=∀i,i<m→κ i=stb κ (f i)
def Zp(m:Nat)(κ:Nat→Option Bool):Nat:=(List.range m).countP fun i=>(κ i).isNone
theorem countP_lt{α:Type}{p q:α→Bool}:∀{l:List α},(∀x∈l,q x=true→p x=true)→(∃x∈l,p x=true∧q x=false)→l.countP q<l.countP p
 | [],_,⟨_,hx,_⟩=>by cases hx
 | a::r,h,⟨x,hx,h1,h2⟩=>by
  have le:r.countP q≤r.countP p:=List.countP_mono_left fun y hy=>h y (List.mem_cons_of_mem _ hy)
  rw[List.countP_cons,List.countP_cons]
  rcases List.mem_cons.mp hx with rfl|hx
  ·rw [h1,h2]
   simp
   omega
  ·have:=countP_lt (l:=r) (fun y hy=>h y (List.mem_cons_of_mem _ hy)) ⟨x,hx,h1,h2⟩
   have ha:=h a (by simp)
   cases hq:q a with
   | false=>simp; omega
   | true=>rw [ha hq]; simp; omega
theorem open_lt{m:Nat}{κ τ:Nat→Option Bool}(h:Le κ τ){i:Nat}(hi:i<m)(h1:κ i=none)(h2:τ i≠none):Zp m τ<Zp m κ:=by
 unfold Zp
 refine countP_lt (fun j _ q=>?_) ⟨i,List.mem_range.mpr hi,by rw[h1];rfl,?_⟩
 ·cases e:κ j with
  | none=>rfl
  | some b=>rw [h j b e] at q; exact q
 ·cases e:τ i with
  | none=>exact absurd e h2
  | some _=>rfl
def up1(f:Nat→List Int)(κ:Nat→Option Bool)(p:Nat):Nat→Option Bool:=fun i=>if i=p∧κ p=none then stb κ (f p)else κ i
theorem up1_le(f:Nat→List Int)(κ:Nat→Option Bool)(p:Nat):Le κ (up1 f κ p):=fun i b h=>by
 unfold up1
 rw[if_neg (fun z=>by rw[z.1,z.2]at h;cases h)]
 exact h
def Told(m:Nat)(f:Nat→List Int)(κ:Nat→Option Bool):Prop:=∀i b,κ i=some b→i<m∧stb κ (f i)=some b
theorem Told.up{m:Nat}{f:Nat→List Int}{κ:Nat→Option Bool}{p:Nat}(h:Told m f κ)(hp:p<m):Told m f (up1 f κ p):=fun i b e=>by
 have mono:=up1_le f κ p
 unfold up1 at e
 by_cases z:i=p∧κ p=none
 ·rw [if_pos z] at e
  obtain⟨rfl,_⟩:=z
  exact⟨hp,ZF mono e⟩
 ·rw [if_neg z] at e
  exact⟨(h i b e).1,ZF mono (h i b e).2⟩
theorem up1_sound{m:Nat}{f:Nat→List Int}{κ τ:Nat→Option Bool}{p:Nat}(hp:p<m)(ht:Yp m f τ)(h:Le κ τ):Le (up1 f κ p) τ:=fun i b e=>by
 unfold up1 at e
 by_cases z:i=p∧κ p=none
 ·rw [if_pos z] at e
  obtain⟨rfl,_⟩:=z
  rw[ht i hp]
  exact ZF h e
 ·rw [if_neg z] at e
  exact h i b e
def YM(f:Nat→List Int)(κ:Nat→Option Bool):Nat→(Nat→Option Bool)
 | 0=>κ
 | n + 1=>up1 f (YM f κ n) n
theorem turn_le(f:Nat→List Int)(κ:Nat→Option Bool):∀n,Le κ (YM f κ n)
 | 0=>Le.refl _
 | n + 1=>(turn_le f κ n).trans (up1_le _ _ _)
theorem turn_told{m:Nat}{f:Nat→List Int}{κ:Nat→Option Bool}(h:Told m f κ):∀n,n≤m→Told m f (YM f κ n)
 | 0,_=>h
 | n + 1,hn=>(turn_told h n (by omega)).up (by omega)
theorem Qg{m:Nat}{f:Nat→List Int}{κ τ:Nat→Option Bool}(ht:Yp m f τ)(h:Le κ τ):∀n,n≤m→Le (YM f κ n) τ
 | 0,_=>h
 | n + 1,hn=>up1_sound (by omega) ht (Qg ht h n (by omega))
theorem turn_more{m:Nat}{f:Nat→List Int}{κ:Nat→Option Bool}(h:Told m f κ):Yp m f κ∨Zp m (YM f κ m)<Zp m κ:=by
 by_cases z:∃p,p<m∧κ p=none∧stb κ (f p)≠none
 ·obtain ⟨p,hp,h1,h2⟩:=z
  right
  refine open_lt (turn_le f κ m) hp h1 ?_
  have key:YM f κ (p+1) p≠none:=by
   show up1 f (YM f κ p) p p≠none
   unfold up1
   by_cases q:YM f κ p p=none
   ·rw [if_pos ⟨rfl,q⟩]
    cases e:stb κ (f p) with
    | none=>exact absurd e h2
    | some b=>rw [ZF (turn_le f κ p) e]; exact fun w=>by cases w
   ·rw [if_neg fun w=>q w.2]
    exact q
  have le:∀n,p+1≤n→Le (YM f κ (p+1)) (YM f κ n):=by
   intro n hn
   induction n with
   | zero=>omega
   | succ n ih =>
    by_cases e:p+1=n+1
    ·rw [e]; exact Le.refl _
    ·exact (ih (by omega)).trans (up1_le _ _ _)
  cases e:YM f κ (p+1) p with
  | none=>exact absurd e key
  | some b=>rw [le m (by omega) p b e]; exact fun w=>by cases w
 ·left
  intro i hi
  cases e:κ i with
  | some b=>exact (h i b e).2.symm
  | none =>
   cases e2:stb κ (f i) with
   | none=>rfl
   | some b=>exact absurd ⟨i,hi,e,by rw [e2]; exact fun w=>by cases w⟩ z
theorem Ww{m:Nat}{f:Nat→List Int}{κ:Nat→Option Bool}(h:Yp m f κ):∀n,n≤m→YM f κ n=κ
 | 0,_=>rfl
 | n + 1,hn=>by
  show up1 f (YM f κ n) n=κ
  rw[Ww h n (by omega)]
  funext i
  unfold up1
  by_cases z:i=n∧κ n=none
  ·rw [if_pos z,← h n (by omega),z.1]
  ·rw [if_neg z]
def Ze(m:Nat)(f:Nat→List Int):Nat→(Nat→Option Bool)
 | 0=>fun _=>none
 | t + 1=>YM f (Ze m f t) m
theorem Yy(m:Nat)(f:Nat→List Int):∀t,Told m f (Ze m f t)
 | 0=>fun _ _ e=>by cases e
 | t + 1=>turn_told (Yy m f t) m (Nat.le_refl _)
theorem Wa{m:Nat}{f:Nat→List Int}{τ:Nat→Option Bool}(ht:Yp m f τ):∀t,Le (Ze m f t) τ
 | 0=>fun _ _ e=>by cases e
 | t + 1=>Qg ht (Wa ht t) m (Nat.le_refl _)
theorem Qf(m:Nat)(f:Nat→List Int):∀t,Yp m f (Ze m f t)∨Zp m (Ze m f t)+t≤m
 | 0=>.inr (by
   have:=List.countP_le_length (p:=fun i=>((fun _=>none:Nat→Option Bool) i).isNone) (l:=List.range m)
   rw[List.length_range]at this
   exact this)
 | t + 1=>by
  rcases Qf m f t with h|h
  ·left
   show Yp m f (YM f (Ze m f t) m)
   rw[Ww h m (Nat.le_refl _)]
   exact h
  ·rcases turn_more (Yy m f t) with z | z
   ·left
    show Yp m f (YM f (Ze m f t) m)
    rw[Ww z m (Nat.le_refl _)]
    exact z
   ·right
    show Zp m (YM f (Ze m f t) m)+(t+1)≤m
    omega
theorem WW(m:Nat)(f:Nat→List Int):Yp m f (Ze m f m):=by
 rcases Qf m f m with h|h
 ·exact h
 ·intro i hi
  have h0:Zp m (Ze m f m)=0:=by omega
  cases e:Ze m f m i with
  | some b=>exact ((Yy m f m) i b e).2.symm
  | none =>
   have:0<Zp m (Ze m f m):=List.countP_pos_iff.mpr ⟨i,List.mem_range.mpr hi,by rw[e];rfl⟩
   omega
theorem least_is{m:Nat}{f:Nat→List Int}{τ:Nat→Option Bool}(hc:Yp m f τ)(hl:∀υ,Yp m f υ→∀i,i<m→∀b,τ i=some b→υ i=some b):∀i,i<m→τ i=Ze m f m i:=by
 intro i hi
 cases e:Ze m f m i with
 | some b=>exact Wa hc m i b e
 | none =>
  cases e2:τ i with
  | none=>rfl
  | some b=>rw [hl _ (WW m f) i hi b e2] at e; cases e
end Hk
namespace Hk
open PySem L2
section
variable{P:Program}{w:World}{K:PySem.W.Frag}{mg:Str→Option Value}{base:Heap}
def fS(S:List (Option Bool)):Nat→Option Bool:=fun i=>(S[i]?).join
theorem fS_lt{S:List (Option Bool)}{i:Nat}(h:i<S.length):fS S i=S[i]:=by
 unfold fS
 rw[List.getElem?_eq_getElem h]
 rfl
theorem fS_some{S:List (Option Bool)}{i:Nat}{b:Bool}(h:fS S i=some b):i<S.length:=by
 unfold fS at h
 by_cases z:i<S.length
 ·exact z
 ·rw [List.getElem?_eq_none (by omega)] at h
  cases h
theorem fS_map(M:Nat)(g:Nat→Option Bool)(i:Nat)(h:i<M):fS ((List.range M).map g) i=g i:=by
 rw[fS_lt (by simp[h])]
 simp
theorem fS_ext{M:Nat}{S:List (Option Bool)}{g:Nat→Option Bool}(hl:S.length=M)(h:∀i,i<M→fS S i=g i):S=(List.range M).map g:=by
 apply List.ext_getElem
 ·simp [hl]
 ·intro i h1 h2
  rw[← fS_lt h1,h i (by omega)]
  simp
theorem at_oV{S:List (Option Bool)}{x:Int}(h0:0≤x)(h1:x<S.length):atI (S.map oV) x=some (oV (fS S x.toNat)):=by
 obtain⟨k,rfl⟩:∃k:Nat,x=(k:Int):=⟨x.toNat,by omega⟩
 refine Yx ?_
 have hk:k<S.length:=by omega
 rw[List.getElem?_map,List.getElem?_eq_getElem hk,Int.toNat_natCast,fS_lt hk]
 rfl
def spStb:Sp:=fun vs H Q _=>∃(a b:Addr)(S:List (Option Bool))(bs:List Int),vs=[.ref a,.ref b]∧H a=some (.lst (S.map oV))∧H b=some (.lst (bs.map V.int))∧bs.length≤1000∧(∀x∈bs,0≤x∧x<S.length) ∧
 ∀H',Same H H'→Q (oV (stb (fS S) bs)) H'
theorem kn_stb(D:DefAt K mg "settled_by" ZP ["settled","beneath"])(fr:Free mg ["any","all"]):Kn P w K mg base 1 "settled_by" ["settled","beneath"] spStb:=by
 have sc:FnScope ["settled","beneath"] ["settled","beneath"] (Jl ZP):=⟨rfl,rfl,rfl,by decide +kernel,rfl,by decide +kernel,by decide +kernel⟩
 refine D.kn (N:=["settled","beneath"]) sc (fun vs H Q E h=>?_) (fun f cdv A outer s H vs Q E hr h=>?_)
 ·obtain ⟨a,b,S,bs,rfl,_⟩:=h
  rfl
 ·obtain ⟨a,b,S,bs,rfl,ha,hb,hl,hx,kk⟩:=h
  have m1:=fr "any" (by simp)
  have m2:=fr "all" (by simp)
  have nd:(["b","settled"]:List Str).Nodup:=by decide +kernel
  refine ⟨_,Jd (JU (Yq (Jr (Wx rfl) rfl m1 UF (Ja (Ye (N:=["b","settled"]) (src:=[none,some 0]) rfl ⟨rfl,rfl,rfl,rfl,⟨⟨rfl,rfl⟩,trivial⟩,rfl,rfl,rfl⟩ (Jw (i:=0) rfl) (JR (pv 1))
     (fun C s H fp=>⟨Jk (i:=0) nd rfl (Or.inl rfl),JG,Yf op_isC (Jx (r:=rIxL K) JL (pv 1) (pv 0) (fun _ _=>rfl)) JY (Jq _)⟩)) Jc))) (Je (Jm JY)) Jy)
   (Jd (JU (Yq (Jr (Yk rfl) rfl m2 YG (Ja (Ye (N:=["b","settled"]) (src:=[none,some 0]) rfl ⟨rfl,rfl,rfl,rfl,⟨⟨rfl,rfl⟩,trivial⟩,rfl,rfl,rfl⟩ (Jw (i:=0) rfl) (JR (pv 1))
     (fun C s H fp=>⟨Jk (i:=0) nd rfl (Or.inl rfl),JG,Yf op_isC (Jx (r:=rIxL K) JL (pv 1) (pv 0) (fun _ _=>rfl)) JY (Jq _)⟩)) Jc))) (Je (Jm JY)) Jy)
   (Je (Jm YD))),?_⟩
  have len:∀i,i≤(bs.map V.int).length→∀c:Bool,((bs.take i).map fun x=>V.bl (fS S x.toNat==some c)).length≤sizeLine:=fun i hi c=>by
   rw[List.length_map]at hi ⊢
   rw[List.length_take]
   exact Nat.le_of_lt (Jj (by omega))
  have all:∀c:Bool,((bs.take (bs.map V.int).length).map fun x=>V.bl (fS S x.toNat==some c))=(bs.map fun x=>fS S x.toNat==some c).map V.bl:=fun c=>by
   rw[List.length_map,List.take_of_length_le (Nat.le_refl _),List.map_map]
   rfl
  refine⟨_,rfl,b,rfl,⟨_,SqL.of hb⟩,Zm (xs:=bs.map V.int) (fun i zs H'=>Same H H'∧zs=((bs.take i).map fun x=>V.bl (fS S x.toNat==some true))) ⟨Same.refl _,rfl⟩ ?_ ?_ ?_⟩
  ·rintro i zs H' hi ⟨s2,rfl⟩
   exact⟨SqL.of (s2 _ _ hb),len i hi true⟩
  ·rintro zs H' ⟨s2,rfl⟩ l hl1
   rw[all true]
   have s3:=s2.trans (Same.upd (o:=.lst ((bs.map fun x=>fS S x.toNat==some true).map V.bl)) hl1)
   refine⟨l,_,rfl,SqL.of Jb,_,rfl,?_⟩
   generalize upd H' l (.lst ((bs.map fun x=>fS S x.toNat==some true).map V.bl))=H3 at s3
   have e1:(bs.map fun x=>fS S x.toNat==some true).any id=bs.any fun x=>fS S x.toNat==some true:=by rw[List.any_map];rfl
   rw[e1]
   refine ite2 (fun h1=>?_) (fun h1=>?_)
   ·have:=kk H3 s3
    unfold stb at this
    rw[if_pos h1]at this
    exact this
   ·have ha3:=s3 _ _ ha
    have hb3:=s3 _ _ hb
    refine⟨_,rfl,b,rfl,⟨_,SqL.of hb3⟩,Zm (xs:=bs.map V.int) (fun i zs H'=>Same H3 H'∧zs=((bs.take i).map fun x=>V.bl (fS S x.toNat==some false))) ⟨Same.refl _,rfl⟩ ?_ ?_ ?_⟩
    ·rintro i zs H' hi ⟨s4,rfl⟩
     exact⟨SqL.of (s4 _ _ hb3),len i hi false⟩
    ·rintro zs H' ⟨s4,rfl⟩ l hl2
     rw[all false]
     have s5:=s4.trans (Same.upd (o:=.lst ((bs.map fun x=>fS S x.toNat==some false).map V.bl)) hl2)
     refine⟨l,_,rfl,SqL.of Jb,_,rfl,?_⟩
     generalize upd H' l (.lst ((bs.map fun x=>fS S x.toNat==some false).map V.bl))=H5 at s5
     have e2:(bs.map fun x=>fS S x.toNat==some false).all id=bs.all fun x=>fS S x.toNat==some false:=by rw[List.all_map];rfl
     rw[e2]
     have fin:=kk H5 (s3.trans s5)
     unfold stb at fin
     rw[if_neg h1]at fin
     refine ite2 (fun h2=>?_) (fun h2=>?_)
     ·rw [if_pos h2] at fin
      exact fin
     ·rw [if_neg h2] at fin
      exact fin
    ·rintro i y zs H' h2 hi ⟨s4,rfl⟩
     rw[List.getElem?_map]at h2
     obtain⟨x,e3,rfl⟩:=Option.map_eq_some_iff.mp h2
     have bx:=hx x (List.mem_of_getElem? e3)
     refine⟨_,rfl,_,rfl,a,_,_,_,rfl,rfl,SqL.of (s4 _ _ ha3),at_oV bx.1 bx.2,_,false,rfl,rfl,nx hi ⟨s4,?_⟩⟩
     rw[Ju _ _ _ e3,List.map_append]
     rfl
  ·rintro i y zs H' h2 hi ⟨s2,rfl⟩
   rw[List.getElem?_map]at h2
   obtain⟨x,e3,rfl⟩:=Option.map_eq_some_iff.mp h2
   have bx:=hx x (List.mem_of_getElem? e3)
   refine⟨_,rfl,_,rfl,a,_,_,_,rfl,rfl,SqL.of (s2 _ _ ha),at_oV bx.1 bx.2,_,true,rfl,rfl,nx hi ⟨s2,?_⟩⟩
   rw[Ju _ _ _ e3,List.map_append]
   rfl
def sett(m:Int)(ars:List (Int×Int)):Nat→Option Bool:=Ze m.toNat (fun i=>ldI ars i) m.toNat
def WE(m:Int)(ars:List (Int×Int)):List (Option Bool):=(List.range m.toNat).map (sett m ars)
theorem ldI_in{m:Int}{ars:List (Int×Int)}(ga:JE m ars){p:Int}:∀x∈ldI ars p,0≤x∧x<m:=by
 intro x hx
 unfold ldI at hx
 obtain⟨q,hq,rfl⟩:=List.mem_map.mp hx
 have:=ga q (List.mem_filter.mp hq).1
 exact⟨this.2.2.1,this.2.2.2.1⟩
def Ut:Sp:=fun vs H Q _=>∃(a t:Addr)(m:Int)(us:List V)(ars:List (Int×Int)),vs=[.ref a]∧Web H a t m us ars∧JE m ars ∧
 ∀(l:Addr)(H':Hp),Same H H'→H l=none→H' l=some (.lst ((WE m ars).map oV))→Q (.ref l) H'
theorem kn_settled(D:DefAt K mg "settled_marks" YS ["web"])(fr:Free mg ["range"])(ka:Kn P w K mg base 1 "all_leads" ["web"] Zf)(ks:Kn P w K mg base 1 "settled_by" ["settled","beneath"] spStb) :
  Kn P w K mg base 2 "settled_marks" ["web"] Ut:=by
 have sc:FnScope ["web","leads","ahead","settled"] ["web"] (Jl YS):=⟨rfl,rfl,rfl,by decide +kernel,rfl,by decide +kernel,by decide +kernel⟩
 refine D.kn (N:=["web","leads","ahead","settled"]) sc (fun vs H Q E h=>?_) (fun f cdv A outer s H vs Q E hr h=>?_)
 ·obtain ⟨a,t,m,us,ars,rfl,_⟩:=h
  rfl
 ·obtain ⟨a,t,m,us,ars,rfl,W,ga,kk⟩:=h
  have hu:=YW hr
  have m1:=fr "range" (by simp)
  have nd1:(["place"]:List Str).Nodup:=by decide +kernel
  have nd2:(["beneath","ahead"]:List Str).Nodup:=by decide +kernel
  refine ⟨_,Jd (Jn (i:=1) sc.nd rfl (Or.inl rfl) (Jp ka hr (Ja (pv 0) Jc)))
   (Jd (Jn (i:=2) sc.nd rfl (Or.inr rfl) (JZ Jc))
   (Jd (YN (i:=3) (N:=["place"]) (src:=[none]) sc.nd rfl rfl rfl rfl ⟨rfl,rfl,rfl,rfl,trivial,rfl,rfl,rfl⟩ (Jw (i:=0) rfl) (JQ rfl m1 (Ja (Jx JA (pv 0) Ji (fun _ _=>rfl)) Jc)) (fun C s H fp=>⟨Jk (i:=0) nd1 rfl (Or.inl rfl),JG,YD⟩))
   (Jd (Wp PassesOwn.never (Js (op_neL (Nat.lt_of_succ_lt hu)) (pv 3) (pv 2) (Jq _))
    (Jd (Jn (i:=2) sc.nd rfl (Or.inr rfl) (pv 3))
    (Je (YN (i:=3) (N:=["beneath","ahead"]) (src:=[none,some 2]) sc.nd rfl rfl rfl rfl ⟨rfl,rfl,rfl,rfl,⟨⟨rfl,rfl⟩,trivial⟩,rfl,rfl,rfl⟩ (Jw (i:=0) rfl) (JR (pv 1)) (fun C s H fp=>⟨Jk (i:=0) nd2 rfl (Or.inl rfl),JG,Jp ks hr (Ja (pv 1) (Ja (pv 0) Jc))⟩)))))
   (Je (Jm (pv 3)))))),?_⟩
  have hm:=W.mb
  have c0:0≤sizeLine:=by decide
  refine⟨_,rfl,a,t,m,us,ars,rfl,W,ga,fun l rows H1 s1 hlr L1=>?_⟩
  refine⟨c0,fun la hla=>?_⟩
  have s2:=s1.trans (Same.upd (o:=.lst []) hla)
  have L2:=L1.mono (Same.upd (o:=.lst []) hla)
  have hla2:(upd H1 la (.lst [])) la=some (.lst []):=Jb
  generalize upd H1 la (.lst [])=H2 at s2 L2 hla2
  have W2:=W.mono s2
  refine⟨_,rfl,a,_,_,_,rfl,rfl,SqT.of W2.top,rfl,m,rfl,by omega,by omega,Zd (fun i zs H'=>Same H2 H'∧zs=(List.replicate i none).map oV) ⟨Same.refl _,rfl⟩ ?_ ?_ ?_⟩
  ·rintro i zs H' hi ⟨_,rfl⟩
   rw[List.length_map,List.length_replicate]
   exact Nat.le_of_lt (Jj (by omega))
  ·rintro zs H' ⟨s3,rfl⟩ ls hls
   have s4:=s3.trans (Same.upd (o:=.lst ((List.replicate m.toNat none).map oV)) hls)
   have hls4:(upd H' ls (.lst ((List.replicate m.toNat none).map oV))) ls=some (.lst ((List.replicate m.toNat none).map oV)):=Jb
   have nls:H ls=none:=by
    cases e:H ls with
    | none=>rfl
    | some o=>rw [s3 _ _ (s2 _ _ e)] at hls; cases hls
   generalize upd H' ls (.lst ((List.replicate m.toNat none).map oV))=H4 at s4 hls4
   have none0:∀i,fS (List.replicate m.toNat none) i=none:=fun i=>by
    unfold fS
    rw[List.getElem?_replicate]
    split<;>rfl
   refine ⟨fun μ σ H5=>∃ (la ls:Addr) (A S:List (Option Bool)),σ=[some (.ref a),some (.ref l),some (.ref la),some (.ref ls)]∧Same H H5∧LL H5 l rows (fun i=>ldI ars i)∧H ls=none∧H5 la=some (.lst (A.map oV))∧H5 ls=some (.lst (S.map oV))∧S.length=m.toNat ∧
     Told m.toNat (fun i=>ldI ars i) (fS S)∧(∀υ,Yp m.toNat (fun i=>ldI ars i) υ→Le (fS S) υ)∧(S=A→Yp m.toNat (fun i=>ldI ars i) (fS S))∧μ=Zp m.toNat (fS S)+(if S=A then 0 else 1),
    ⟨_,la,ls,[],List.replicate m.toNat none,rfl,s2.trans s4,L2.mono s4,nls,s4 _ _ hla2,hls4,List.length_replicate,fun i b e=>?_,fun υ _ i b e=>?_,fun e i hi=>?_,rfl⟩,?_⟩
   ·rw [none0] at e
    cases e
   ·rw [none0] at e
    cases e
   ·have:=congrArg List.length e
    rw[List.length_replicate]at this
    have:m.toNat=0:=this
    omega
   rintro μ σ H5 ⟨la,ls,A,S,rfl,s5,L5,nls,hla5,hls5,hS,told,sound,clo,rfl⟩
   refine⟨_,rfl,_,rfl,ls,la,_,_,rfl,rfl,SqL.of hls5,SqL.of hla5,oVs_flat _,oVs_flat _,_,rfl,?_⟩
   rw[show(if true=true then !eqVs (S.map oV) (A.map oV)else eqVs (S.map oV) (A.map oV))=!decide (S=A) by rw[eqVs_oV];rfl]
   by_cases hSA:S=A
   ·refine iteNS hSA ?_
    have cl:=clo hSA
    have key:S=WE m ars:=by
     refine fS_ext hS fun i hi=>?_
     exact least_is cl (fun υ hυ j _ b e=>sound υ hυ j b e) i hi
    rw[key]at hls5
    exact⟨_,rfl,kk ls H5 s5 nls hls5⟩
   ·rw [show (!decide (S=A))=true by simp [hSA]]
    refine iteT ?_
    refine ⟨fun σ' H'=>∃ μ',μ' < Zp m.toNat (fS S) + (if S=A then 0 else 1)∧∃ (la ls:Addr) (A S:List (Option Bool)),σ'=[some (.ref a),some (.ref l),some (.ref la),some (.ref ls)]∧Same H H'∧LL H' l rows (fun i=>ldI ars i)∧H ls=none∧H' la=some (.lst (A.map oV))∧H' ls=some (.lst (S.map oV))∧S.length=m.toNat ∧
     Told m.toNat (fun i=>ldI ars i) (fS S)∧(∀ υ,Yp m.toNat (fun i=>ldI ars i) υ→Le (fS S) υ)∧(S=A→Yp m.toNat (fun i=>ldI ars i) (fS S))∧μ'=Zp m.toNat (fS S) + (if S=A then 0 else 1),fun _ _ z=>z,?_⟩
    refine⟨_,rfl,?_⟩
    refine⟨_,rfl,l,rfl,⟨_,SqL.of L5.top⟩,Zm (xs:=rows.map V.ref) (fun i zs H'=>Same H5 H'∧zs=((List.range i).map fun(j:Nat)=>stb (fS S) (ldI ars j)).map oV) ⟨Same.refl _,rfl⟩ ?_ ?_ ?_⟩
    ·rintro i zs H' hi ⟨s6,rfl⟩
     refine⟨SqL.of (s6 _ _ L5.top),?_⟩
     rw[List.length_map]at hi
     rw[List.length_map,List.length_map,List.length_range]
     exact Nat.le_of_lt (Jj (by omega))
    ·rintro zs H' ⟨s6,rfl⟩ l2 hl2
     rw[List.length_map,hlr]
     have s7:=s6.trans (Same.upd (o:=.lst (((List.range m.toNat).map fun(j:Nat)=>stb (fS S) (ldI ars j)).map oV)) hl2)
     have hl7:(upd H' l2 (.lst (((List.range m.toNat).map fun(j:Nat)=>stb (fS S) (ldI ars j)).map oV))) l2=some (.lst (((List.range m.toNat).map fun(j:Nat)=>stb (fS S) (ldI ars j)).map oV)):=Jb
     have nl2:H l2=none:=by
      cases e:H l2 with
      | none=>rfl
      | some o=>rw [s6 _ _ (s5 _ _ e)] at hl2; cases hl2
     generalize upd H' l2 (.lst (((List.range m.toNat).map fun(j:Nat)=>stb (fS S) (ldI ars j)).map oV))=H7 at s7 hl7
     generalize hT:(List.range m.toNat).map (fun(j:Nat)=>stb (fS S) (ldI ars j))=T at hl7
     have lT:T.length=m.toNat:=by rw[← hT];simp
     have fT:∀i,i<m.toNat→fS T i=stb (fS S) (ldI ars i):=fun i hi=>by rw[← hT,fS_map _ _ _ hi]
     have le:Le (fS S) (fS T):=fun i b e=>by rw[fT i (told i b e).1];exact(told i b e).2
     refine⟨_,?_,ls,l2,S,T,rfl,s5.trans s7,L5.mono s7,nl2,s7 _ _ hls5,hl7,lT,fun i b e=>?_,fun υ hυ i b e=>?_,fun e i hi=>?_,rfl⟩
     ·rw [if_neg hSA]
      by_cases hTS:T=S
      ·rw [if_pos hTS,hTS]
       omega
      ·rw [if_neg hTS]
       have:Zp m.toNat (fS T)<Zp m.toNat (fS S):=by
        by_cases z:∃i,i<m.toNat∧fS S i=none∧fS T i≠none
        ·obtain ⟨i,hi,z1,z2⟩:=z
         exact open_lt le hi z1 z2
        ·refine absurd ?_ hTS
         have e1:T=(List.range m.toNat).map (fS S):=fS_ext lT fun i hi=>by
          cases e:fS S i with
          | some b=>exact le i b e
          | none =>
           cases e2:fS T i with
           | none=>rfl
           | some b=>exact absurd ⟨i,hi,e,by rw [e2]; exact fun w=>by cases w⟩ z
         rw[e1]
         exact(fS_ext hS fun i _=>rfl).symm
       omega
     ·have hi:i < m.toNat:=by rw [← lT]; exact fS_some e
      rw[fT i hi]at e
      exact⟨hi,ZF le e⟩
     ·have hi:i < m.toNat:=by rw [← lT]; exact fS_some e
      rw[fT i hi]at e
      rw[hυ i hi]
      exact ZF (sound υ hυ) e
     ·rw [fT i hi,e]
    ·rintro i x zs H' h2 hi ⟨s6,rfl⟩
     rw[List.getElem?_map]at h2
     obtain⟨r,e3,rfl⟩:=Option.map_eq_some_iff.mp h2
     have lj:=ldI_len ars i
     have la':=JS W.ars
     have lw:=W.len
     refine⟨_,rfl,_,rfl,ls,r,S,ldI ars i,rfl,s6 _ _ hls5,s6 _ _ (L5.row i r e3),by omega,fun y hy=>?_,fun H8 s8=>nx hi ⟨s6.trans s8,?_⟩⟩
     ·have:=ldI_in ga y hy
      rw[hS]
      omega
     ·rw [List.range_succ,List.map_append,List.map_append]
      rfl
  ·rintro i zs H' hi ⟨s3,rfl⟩
   refine nx hi ⟨s3,?_⟩
   rw[List.replicate_succ',List.map_append]
   rfl
def Jv(m:Int)(ars:List (Int×Int))(k:Nat):List Int:=((List.range k).filter fun i=>decide (sett m ars i=none)).map fun(i:Nat)=>(i:Int)
theorem restN_len(m:Int)(ars:List (Int×Int))(k:Nat):(Jv m ars k).length≤k:=by
 unfold Jv
 rw[List.length_map]
 have:=List.length_filter_le (fun i=>decide (sett m ars i=none)) (List.range k)
 rw[List.length_range]at this
 exact this
theorem Qs(m:Int)(ars:List (Int×Int))(k:Nat):Jv m ars (k+1)=Jv m ars k++(if sett m ars k=none then[(k:Int)] else[]):=by
 unfold Jv
 rw[List.range_succ,List.filter_append,List.map_append]
 by_cases h:sett m ars k=none
 ·rw [if_pos h]
  simp[h]
 ·rw [if_neg h]
  simp[h]
def spRest:Sp:=fun vs H Q _=>∃(a t:Addr)(m:Int)(us:List V)(ars:List (Int×Int)),vs=[.ref a]∧Web H a t m us ars∧JE m ars ∧
 ∀(q:Addr)(H':Hp),Same H H'→H' q=some (.tup ((Jv m ars m.toNat).map V.int))→Q (.ref q) H'
theorem kn_rest(D:DefAt K mg "rest_of" Uw ["web"])(fr:Free mg ["tuple","enumerate"])(ks:Kn P w K mg base 2 "settled_marks" ["web"] Ut):Kn P w K mg base 3 "rest_of" ["web"] spRest:=by
 have sc:FnScope ["web"] ["web"] (Jl Uw):=⟨rfl,rfl,rfl,by decide +kernel,rfl,by decide +kernel,by decide +kernel⟩
 refine D.kn (N:=["web"]) sc (fun vs H Q E h=>?_) (fun f cdv A outer s H vs Q E hr h=>?_)
 ·obtain ⟨a,t,m,us,ars,rfl,_⟩:=h
  rfl
 ·obtain ⟨a,t,m,us,ars,rfl,W,ga,kk⟩:=h
  have m1:=fr "tuple" (by simp)
  have m2:=fr "enumerate" (by simp)
  have nd:(["place","mark"]:List Str).Nodup:=by decide +kernel
  refine ⟨_,Je (Jm (JK JC rfl m1 JB (Ja (Ye (N:=["place","mark"]) (src:=[none,none]) (cl:=[]) rfl ⟨rfl,rfl,rfl,rfl,trivial,rfl,rfl,rfl⟩ (YF (i:=0) (j:=1) rfl rfl)
   (pi_enumL rfl m2 (Ja (Jp ks hr (Ja (pv 0) Jc)) Jc))
   (fun C s H fp=>⟨YV (n:=2) rfl (Jz (Jk (i:=0) nd rfl (Or.inl rfl)) (Jz (Jk (i:=1) nd rfl (Or.inl rfl)) Yr)),Yb (YU (pc_isN (pv 1))),pv 0⟩)) Jc))),?_⟩
  have hm:=W.mb
  refine⟨_,rfl,a,t,m,us,ars,rfl,W,ga,fun l H1 s1 _ hl1=>?_⟩
  have lS:((WE m ars).map oV).length=m.toNat:=by unfold WE;rw[List.length_map,List.length_map,List.length_range]
  refine⟨l,_,rfl,hl1,lc_enumL (xs:=(WE m ars).map oV) (fun i zs H'=>Same H1 H'∧zs=(Jv m ars i).map V.int) ⟨Same.refl _,rfl⟩ ?_ ?_ ?_⟩
  ·rintro i zs H' hi ⟨s2,rfl⟩
   refine⟨s2 _ _ hl1,?_⟩
   rw[lS]at hi
   rw[List.length_map]
   have:=restN_len m ars i
   exact Nat.le_of_lt (Jj (by omega))
  ·rintro zs H' ⟨s2,rfl⟩ l2 hl2
   rw[lS]
   exact⟨l2,_,rfl,.inl ⟨SqL.of Jb,fun t ht=>kk t _ (s1.trans ((s2.trans (Same.upd hl2)).trans (Same.upd ht))) Jb⟩⟩
  ·rintro i v zs H' q h1 hi ⟨s2,rfl⟩ hq
   have hi':i<m.toNat:=by rw[← lS];exact hi
   have hv:v=oV (sett m ars i):=by
    unfold WE at h1
    rw[List.map_map,List.getElem?_map,List.getElem?_range hi']at h1
    exact(Option.some.inj h1).symm
   subst hv
   refine⟨q,_,rfl,SqT.of Jb,rfl,_,_,rfl,_,_,rfl,rfl,?_⟩
   refine⟨_,rfl,_,rfl,?_⟩
   have hx:decide (oV (sett m ars i)=V.non)=decide (sett m ars i=none):=by
    cases sett m ars i with
    | none=>rfl
    | some b=>simp [oV]
   rw[hx]
   refine ite2 (fun h2=>?_) (fun h2=>?_)
   ·refine ⟨_,rfl,nx hi ⟨s2.trans (Same.upd hq),?_⟩⟩
    rw[Qs,if_pos (of_decide_eq_true h2),List.map_append]
    rfl
   ·refine nx hi ⟨s2.trans (Same.upd hq),?_⟩
    rw[Qs,if_neg (fun z=>h2 (decide_eq_true z)),List.append_nil]
end
end Hk
namespace Hk
open PySem L2
theorem UK{α β:Type}{R:α→β→Prop}{x:α}{y:β}:∀{xs:List α}{ys:List β},Paired R xs ys→R x y→Paired R (xs++[x]) (ys++[y])
 | _,_,.nil,h=>.cons h .nil
 | _,_,.cons a r,h=>.cons a (UK r h)
def Tps(H:Hp):List V→List (List Int)→Prop:=Paired fun v ns=>∃q,v=V.ref q∧H q=some (.tup (ns.map V.int))
theorem Tps.mono{H H':Hp}{ws:List V}{l:List (List Int)}(s:Same H H')(h:Tps H ws l):Tps H' ws l:=Paired.mapP h fun _ _ ⟨q,e,z⟩=>⟨q,e,s _ _ z⟩
theorem Tps.but{H H':Hp}{p:Addr}{xs:List V}{ws:List V}{l:List (List Int)}(hp:H p=some (.lst xs))(s:SameBut p H H')(h:Tps H ws l):Tps H' ws l:=Paired.mapP h fun _ _ ⟨q,e,z⟩=>⟨q,e,s _ _ (ZK z hp (by intro z;cases z)) z⟩
theorem Tps.snoc{H:Hp}{ws:List V}{l:List (List Int)}{q:Addr}{ns:List Int}(h:Tps H ws l)(hq:H q=some (.tup (ns.map V.int))):Tps H (ws++[.ref q]) (l++[ns]):=UK h ⟨q,rfl,hq⟩
theorem Tps.len{H:Hp}{ws:List V}{l:List (List Int)}(h:Tps H ws l):ws.length=l.length:=Paired.length h
end Hk
namespace Hk
open PySem L2
section
variable{P:Program}{w:World}{K:PySem.W.Frag}{mg:Str→Option Value}{base:Heap}
def bitB(N k:Nat):Bool:=decide (((N:Int)/2^k)%2=1)
theorem and_one{x:Int}(h:0≤x):Builtin.bitAnd x 1=x%2:=by
 rw[PyProof.Rows.bitAnd_pp h (by decide)]
 show((x.toNat &&& 1:Nat):Int)=x%2
 rw[Nat.and_one_is_mod]
 omega
theorem bit_val(N k:Nat):decide (V.int (Builtin.bitAnd ((N:Int)/2^k) 1)=V.int 1)=bitB N k:=by
 rw[and_one (Int.ediv_nonneg (by omega) (Int.pow_nonneg (by decide)))]
 unfold bitB
 simp
def Yl(m:Int)(N:Nat):List Int:=((List.range m.toNat).map fun(k:Nat)=>(k:Int)).filter fun k=>bitB N k.toNat
theorem Wz{m:Int}(N:Nat)(hm:0≤m):Rise (Yl m N) m:=by
 refine⟨fun n hn=>?_,?_⟩
 ·unfold Yl at hn
  rw[List.mem_filter,List.mem_map]at hn
  obtain⟨⟨k,hk,rfl⟩,_⟩:=hn
  have:=List.mem_range.mp hk
  omega
 ·unfold Yl
  refine List.Pairwise.filter _ ?_
  rw[List.pairwise_map]
  exact List.pairwise_lt_range.imp fun h=>by omega
def JI(m:Int)(ars:List (Int×Int))(i:Nat):List (List Int):=((List.range i).map (Yl m)).filter (WI m ars)
theorem Ul(m:Int)(ars:List (Int×Int))(i:Nat):JI m ars (i+1)=JI m ars i++(if WI m ars (Yl m i)=true then[Yl m i] else[]):=by
 unfold JI
 rw[List.range_succ,List.map_append,List.filter_append]
 congr 1
 show List.filter (WI m ars) [Yl m i]=_
 rw[List.filter_cons]
 rfl
theorem Wu(m:Int)(ars:List (Int×Int))(i:Nat):(JI m ars i).length≤i:=by
 unfold JI
 refine Nat.le_trans (List.length_filter_le _ _) ?_
 rw[List.length_map,List.length_range]
 exact Nat.le_refl _
theorem pow_small{m:Int}(h0:0≤m)(h1:m≤12):(1:Int)*2^m.toNat=((2^m.toNat:Nat):Int)∧2^m.toNat≤4096:=by
 constructor
 ·rw [Int.one_mul]
  simp
 ·exact Nat.pow_le_pow_right (by decide) (show m.toNat≤12 by omega)
def WL:Sp:=fun vs H Q _=>∃(a t:Addr)(m:Int)(us:List V)(ars:List (Int×Int)),vs=[.ref a]∧Web H a t m us ars∧m≤12 ∧
 ∀(l:Addr)(ws:List V)(H':Hp),Same H H'→H l=none→H' l=some (.lst ws)→Tps H' ws (JI m ars (2^m.toNat))→Q (.ref l) H'
theorem kn_allholds(D:DefAt K mg "_law_held" WP ["web"])(fr:Free mg ["range","tuple"])(kh:Kn P w K mg base 4 "hold_good" ["web","thing"] spHold):Kn P w K mg base 5 "_law_held" ["web"] WL:=by
 have sc:FnScope ["web","found","number","some"] ["web"] (Jl WP):=⟨rfl,rfl,rfl,by decide +kernel,rfl,by decide +kernel,by decide +kernel⟩
 refine D.kn (N:=["web","found","number","some"]) sc (fun vs H Q E h=>?_) (fun f cdv A outer s H vs Q E hr h=>?_)
 ·obtain ⟨a,t,m,us,ars,rfl,_⟩:=h
  rfl
 ·obtain ⟨a,t,m,us,ars,rfl,W,h12,kk⟩:=h
  have m1:=fr "range" (by simp)
  have m2:=fr "tuple" (by simp)
  have nd:(["place","number"]:List Str).Nodup:=by decide +kernel
  refine ⟨_,Jd (Jn (i:=1) sc.nd rfl (Or.inl rfl) (JZ Jc))
   (Jd (Yi PassesOwn.never rfl (JQ rfl m1 (Ja (JM op_shl Ji (Jx JA (pv 0) Ji (fun _ _=>rfl))) Jc)) (Jk (i:=2) sc.nd rfl (Or.inr rfl))
    (Jd (Jn (i:=3) sc.nd rfl (Or.inl rfl) (JK JC rfl m2 JB (Ja (Ye (N:=["place","number"]) (src:=[none,some 2]) rfl ⟨rfl,rfl,rfl,rfl,⟨⟨rfl,rfl⟩,trivial⟩,rfl,rfl,rfl⟩ (Jw (i:=0) rfl) (JQ rfl m1 (Ja (Jx JA (pv 0) Ji (fun _ _=>rfl)) Jc))
     (fun C s H fp=>⟨Jk (i:=0) nd rfl (Or.inl rfl),Yb (Js ZI (JM op_and (JM op_shr (pv 1) (pv 0)) Ji) Ji (Jq _)),pv 0⟩)) Jc)))
    (Je (JU (Yq (Jp kh hr (Ja (pv 0) (Ja (pv 3) Jc)))) (Je (Zo (UJ PySem.F.plainAttrs_list PySem.F.slot_list_append PySem.F.type_list_append YE (pv 1) (Ja (pv 3) Jc)))) Jy))))
   (Je (Jm (pv 1)))),?_⟩
  have hm:=W.mb
  obtain⟨e2,b2⟩:=pow_small hm.1 h12
  have b3:(((2^m.toNat:Nat)):Int)≤4096:=by exact_mod_cast b2
  refine⟨(by show 0≤sizeLine;decide),fun l hl=>?_⟩
  have s0:Same H _:=Same.upd (o:=.lst []) hl
  refine⟨_,rfl,a,_,_,_,rfl,rfl,SqT.of (s0 _ _ W.top),rfl,_,_,rfl,rfl,⟨hm.1,by omega,by decide⟩,_,rfl,by rw[e2];exact Int.le_trans (by decide) (Int.natCast_nonneg _),by rw[e2];exact Int.lt_of_le_of_lt b3 (by decide),?_⟩
  rw[e2,Int.toNat_natCast]
  refine UB (fun i σ H2=>∃(ws:List V)(v2 v3:Option V),σ=[some (.ref a),some (.ref l),v2,v3]∧Same H H2∧H2 l=some (.lst ws)∧Tps H2 ws (JI m ars i)) ⟨[],none,none,rfl,s0,Jb,.nil⟩ ?_ ?_
  ·rintro i σ H2 hi ⟨ws,v2,v3,rfl,s2,hl2,tp⟩
   have W2:=W.mono s2
   refine⟨_,rfl,a,_,_,_,rfl,rfl,SqT.of W2.top,rfl,m,rfl,by omega,by omega,Wt (fun j zs H'=>Same H2 H'∧zs=((((List.range m.toNat).map fun(k:Nat)=>(k:Int)).take j).filter fun k=>bitB i k.toNat).map V.int) ⟨Same.refl _,rfl⟩ ?_ ?_ ?_⟩
   ·rintro j zs H' hj ⟨s3,rfl⟩
    have h2:=List.length_filter_le (fun k:Int=>bitB i k.toNat) (((List.range m.toNat).map fun(k:Nat)=>(k:Int)).take j)
    rw[List.length_take,List.length_map,List.length_range]at h2
    rw[List.length_map]
    exact Nat.le_of_lt (Jj (by omega))
   ·rintro zs H' ⟨s3,rfl⟩ l2 hl2'
    rw[List.take_of_length_le (by simp)]
    refine⟨l2,_,rfl,.inl ⟨SqL.of Jb,fun q hq=>?_⟩⟩
    have s4:Same H2 _:=(s3.trans (Same.upd (o:=.lst ((Yl m i).map V.int)) hl2')).trans (Same.upd (o:=.tup ((Yl m i).map V.int)) hq)
    have hq4:(upd (upd H' l2 (.lst ((Yl m i).map V.int))) q (.tup ((Yl m i).map V.int))) q=some (.tup ((Yl m i).map V.int)):=Jb
    have R:=Wz i hm.1
    have hlr:=R.len
    refine⟨_,rfl,_,rfl,a,t,m,us,ars,.ref q,some ((Yl m i).map V.int),rfl,W2.mono s4,Wb hq4 (by omega),fun ys e=>?_,fun H5 s5=>?_⟩
    ·cases e
     rw[List.length_map]
     omega
    rw[UZ R]
    have s45:=s4.trans s5
    have hl5:=s45 _ _ hl2
    have tp5:=tp.mono s45
    have hlen:=Wu m ars i
    have hlw:=tp.len
    refine⟨_,rfl,ite2 (fun h1=>?_) (fun h1=>?_)⟩
    ·refine ⟨_,rfl,.inl ⟨rfl,_,SqL.of hl5⟩,_,rfl,l,ws,_,rfl,rfl,hl5,Wc (by omega),?_⟩
     refine⟨_,_,_,rfl,fun b o e=>?_,Jb,?_⟩
     ·rw [Jh (Jg e hl)]
      exact s45 _ _ (s2 _ _ e)
     ·rw [Ul,if_pos h1]
      have hq5:=s5 _ _ hq4
      exact Tps.but hl5 SameBut.upd (tp5.snoc hq5)
    ·refine ⟨ws,_,_,rfl,s2.trans s45,hl5,?_⟩
     rw[Ul,if_neg h1,List.append_nil]
     exact tp5
   ·rintro j zs H' hj ⟨s3,rfl⟩
    have e1:((List.range m.toNat).map fun(k:Nat)=>(k:Int))[j]?=some (0+(j:Int)):=by simp[hj]
    refine⟨_,rfl,_,rfl,_,_,rfl,rfl,(by show(0:Int)≤0+j;omega),_,_,rfl,rfl,rfl,_,rfl,?_⟩
    have eb:decide (V.int (Builtin.bitAnd ((0+(i:Int))/2^(0+(j:Int)).toNat) 1)=V.int 1)=bitB i (0+(j:Int)).toNat:=by
     rw[Int.zero_add,Int.zero_add,Int.toNat_natCast]
     exact bit_val i j
    rw[eb]
    refine ite2 (fun h2=>?_) (fun h2=>?_)
    ·refine ⟨_,rfl,nx hj ⟨s3,?_⟩⟩
     rw[JH _ _ _ _ e1,if_pos h2,List.map_append]
     rfl
    ·refine nx hj ⟨s3,?_⟩
     rw[JH _ _ _ _ e1,if_neg h2,List.append_nil]
  ·rintro σ H2 ⟨ws,v2,v3,rfl,s2,hl2,tp⟩
   exact⟨_,rfl,kk l ws H2 s2 hl hl2 tp⟩
end
end Hk
namespace Hk
theorem up_ext:∀{a b:List Int},a.Pairwise (·<·)→b.Pairwise (·<·)→(∀n,n∈a↔n∈b)→a=b
 | [],[],_,_,_=>rfl
 | [],y::_,_,_,h=>by simp at h; exact absurd rfl (h y).1
 | x::_,[],_,_,h=>by simp at h; exact absurd rfl (h x).1
 | x::r,y::q,ha,hb,h=>by
  rw[List.pairwise_cons]at ha hb
  have e:x=y:=by
   have h1:=(h x).mp (by simp)
   have h2:=(h y).mpr (by simp)
   rcases List.mem_cons.mp h1 with z|z
   ·exact z
   ·rcases List.mem_cons.mp h2 with u | u
    ·exact u.symm
    ·have:=ha.1 _ u
     have:=hb.1 _ z
     omega
  subst e
  congr 1
  refine up_ext ha.2 hb.2 fun n=>?_
  constructor
  ·intro hn
   rcases List.mem_cons.mp ((h n).mp (List.mem_cons_of_mem _ hn))with z|z
   ·exact absurd (ha.1 _ hn) (by omega)
   ·exact z
  ·intro hn
   rcases List.mem_cons.mp ((h n).mpr (List.mem_cons_of_mem _ hn))with z|z
   ·exact absurd (hb.1 _ hn) (by omega)
   ·exact z
end Hk
namespace Hk
open PySem L2 PySem.W
theorem UG(N k:Nat):bitB N k=N.testBit k:=by
 unfold bitB
 rw[Nat.testBit_eq_decide_div_mod_eq]
 refine decide_eq_decide.mpr ?_
 have e:((N:Int)/2^k)%2=((N/2^k%2:Nat):Int):=by
  rw[Int.natCast_emod,Int.natCast_ediv,Int.natCast_pow]
  rfl
 rw[e]
 omega
theorem bits_all(f:Nat→Bool):∀m:Nat,∃N,N<2^m∧∀k,k<m→N.testBit k=f k
 | 0=>⟨0,by decide,fun k hk=>absurd hk (Nat.not_lt_zero _)⟩
 | m + 1=>by
  obtain⟨N,h1,h2⟩:=bits_all f m
  have hlt:2^m<2^(m+1):=Nat.pow_lt_pow_right (by decide) (by omega)
  by_cases c:f m=true
  ·refine ⟨N ||| 2 ^ m,Nat.or_lt_two_pow (by omega) hlt,fun k hk=>?_⟩
   rw[Nat.testBit_or,Nat.testBit_two_pow]
   by_cases e:k=m
   ·subst e
    rw[decide_eq_true rfl,Bool.or_true,c]
   ·rw [decide_eq_false (fun z=>e z.symm),Bool.or_false]
    exact h2 k (by omega)
  ·refine ⟨N,by omega,fun k hk=>?_⟩
   by_cases e:k=m
   ·subst e
    rw[Nat.testBit_lt_two_pow h1]
    exact(Bool.eq_false_iff.mpr c).symm
   ·exact h2 k (by omega)
theorem holds_all{m:Int}{ars:List (Int×Int)}{S:List Int}(hm:0≤m)(R:Rise S m)(hb:WI m ars S=true):S∈JI m ars (2^m.toNat):=by
 obtain⟨N,h1,h2⟩:=bits_all (fun k=>decide ((k:Int)∈S)) m.toNat
 have e:Yl m N=S:=by
  refine up_ext (Wz N hm).up R.up fun p=>?_
  unfold Yl
  rw[List.mem_filter,List.mem_map]
  constructor
  ·rintro ⟨⟨k,hk,rfl⟩,hb⟩
   rw[UG,Int.toNat_natCast,h2 k (List.mem_range.mp hk)]at hb
   exact of_decide_eq_true hb
  ·intro hp
   have b:=R.bd p hp
   refine⟨⟨p.toNat,List.mem_range.mpr (by omega),by omega⟩,?_⟩
   rw[UG,h2 p.toNat (by omega),show((p.toNat:Nat):Int)=p by omega]
   exact decide_eq_true hp
 unfold JI
 rw[List.mem_filter]
 exact⟨List.mem_map.mpr ⟨N,List.mem_range.mpr h1,e⟩,hb⟩
theorem holdsTo_ok{m:Int}{ars:List (Int×Int)}{S:List Int}{i:Nat}(hm:0≤m)(h:S∈JI m ars i):Rise S m∧WI m ars S=true:=by
 unfold JI at h
 rw[List.mem_filter]at h
 obtain⟨k,_,rfl⟩:=List.mem_map.mp h.1
 exact⟨Wz k hm,h.2⟩
end Hk
namespace Hk
open PySem L2 PySem.W
theorem mem_tPrs{prs:List (Int×Int)}{a b:Int}:(Tr.tup [.int a,.int b])∈tPrs prs↔(a,b)∈prs:=by
 unfold tPrs
 constructor
 ·intro h
  obtain⟨q,hq,e⟩:=List.mem_map.mp h
  have e:=Tr.tup.inj e
  injection e with e1 e2
  injection e2 with e2 _
  have:q=(a,b):=Prod.ext (Tr.int.inj e1) (Tr.int.inj e2)
  rw[← this]
  exact hq
 ·intro h
  exact List.mem_map.mpr ⟨_,h,rfl⟩
section
variable{P:Program}{w:World}{K:Frag}{mg:Str→Option Value}{base:Heap}
def spUnl(K:Frag):Sp:=fun vs H Q _=>∃(a t c:Addr)(m:Int)(us:List V)(ars:List (Int×Int))(ns:List Int),vs=[.ref a,.ref c]∧Web H a t m us ars∧SqT K H c (ns.map V.int)∧ns.Nodup∧(∀p∈ns,0≤p∧p<m)∧ns.length≤900∧∀H',Same H H'→Q (.bl true) H'
theorem kn_unl(D:DefAt K mg "unlike_places" YR ["web","thing"])(fr:Free mg ["all","isinstance","len","set","tuple"])(kp:Kn P w K mg base 2 "place_good" ["web","thing"] spPlace):Kn P w K mg base 3 "unlike_places" ["web","thing"] (spUnl K):=by
 have sc:FnScope ["web","thing"] ["web","thing"] (Jl YR):=⟨rfl,rfl,rfl,by decide +kernel,rfl,by decide +kernel,by decide +kernel⟩
 refine D.kn (N:=["web","thing"]) sc (fun vs H Q E h=>?_) (fun f cdv A outer s H vs Q E hr h=>?_)
 ·obtain ⟨a,t,c,m,us,ars,ns,rfl,_⟩:=h
  rfl
 ·obtain ⟨a,t,c,m,us,ars,ns,rfl,W,hc,nd,bd,l9,kk⟩:=h
  have m_all:=fr "all" (by simp)
  have m_isinstance:=fr "isinstance" (by simp)
  have m_len:=fr "len" (by simp)
  have m_set:=fr "set" (by simp)
  have m_tuple:=fr "tuple" (by simp)
  have nd0:(["place","web"]:List Str).Nodup:=by decide +kernel
  have nd1:(["place","web"]:List Str).Nodup:=by decide +kernel
  refine⟨_,(Jd (JU (Wo (Yq (Jr call_isiT rfl m_isinstance Wy (Ja (pv 1) (Ja (Ug (v:=.ty "tuple") rfl m_tuple JB rfl) Jc))))) (Je (Jm JY)) Jy) (Je (Jm (Wq (Jr (Yk rfl) rfl m_all YG (Ja (Ye (N:=["place","web"]) (src:=[none,some 0]) rfl ⟨rfl,rfl,rfl,rfl,⟨⟨rfl,rfl⟩,trivial⟩,rfl,rfl,rfl⟩ (Jw (i:=0) rfl) (YC (pv 1)) (fun C s H fp=>⟨(Jk (i:=0) nd1 rfl (Or.inl rfl)),JG,(Jp kp hr (Ja (pv 1) (Ja (pv 0) Jc)))⟩)) Jc)) (WT (Yf ZI (Jr call_lenS rfl m_len PySem.boot_len (Ja (JK (call_set_tup rfl) rfl m_set boot_tset (Ja (pv 1) Jc)) Jc)) (Jr Ym rfl m_len PySem.boot_len (Ja (pv 1) Jc)) (Jq _))))))),?_⟩
  refine⟨_,rfl,c,_,"tuple",rfl,hc,by simp,_,rfl,iteF ?_⟩
  refine⟨_,rfl,c,rfl,⟨_,hc⟩,Uk (xs:=ns.map V.int) (fun j zs H5=>Same H H5∧zs=(List.replicate j true).map V.bl) ⟨Same.refl _,rfl⟩ ?_ ?_ ?_⟩
  ·rintro j zs H5 hj ⟨s5,rfl⟩
   rw[List.length_map]at hj
   rw[List.length_map,List.length_replicate]
   exact⟨Qo s5 hc,Nat.le_of_lt (Jj (by omega))⟩
  ·rintro zs H5 ⟨s5,rfl⟩ l hl
   have s6:=s5.trans (Same.upd (o:=.lst ((List.replicate (ns.map V.int).length true).map V.bl)) hl)
   refine⟨l,_,rfl,SqL.of Jb,_,rfl,?_⟩
   have e:(List.replicate (ns.map V.int).length true).all id=true:=by
    rw[List.all_eq_true]
    intro x hx
    exact(List.eq_of_mem_replicate hx)
   rw[e]
   refine iteT ?_
   generalize upd H5 l (.lst ((List.replicate (ns.map V.int).length true).map V.bl))=H6 at s6
   have hc6:=Qo s6 hc
   refine⟨_,rfl,c,ns,rfl,hc6,by omega,fun p n hp hn hle=>?_⟩
   have en:=hn.mpr nd
   subst en
   have s7:=s6.trans (Same.upd (o:=.set (fun k=>decide (k∈ns)) ns.length) hp)
   refine⟨p,_,_,rfl,Jb,_,rfl,c,_,rfl,.inr (Qo s7 hc),rfl,?_⟩
   rw[List.length_map,decide_eq_true rfl]
   exact kk _ s7
  ·rintro j x zs H5 hx hj ⟨s5,rfl⟩
   rw[List.getElem?_map]at hx
   obtain⟨p,hxp,rfl⟩:=Option.map_eq_some_iff.mp hx
   have gp:=bd p (List.mem_of_getElem? hxp)
   refine⟨_,rfl,_,rfl,a,m,_,_,_,rfl,s5 _ _ W.top,.int p,nx hj ⟨s5,?_⟩⟩
   have e:plG m (.int p)=true:=by
    show(decide ((0:Int)≤p)&&decide (p<m))=true
    rw[decide_eq_true gp.1,decide_eq_true gp.2]
    rfl
   rw[e,List.replicate_succ',List.map_append]
   rfl
theorem cut_head(l:List V):cutV l none (some 1)=l.take 1:=by
 unfold cutV
 show(l.drop 0).take (HT.sIx l.length l.length (some 1)-0)=_
 cases l with
 | nil=>rfl
 | cons x r =>
  have e:HT.sIx (x::r).length (x::r).length (some 1)=1:=by
   unfold HT.sIx
   simp
  rw[e]
  rfl
def spRgG:Sp:=fun vs H Q _=>∃(a t c:Addr)(m:Int)(us:List V)(ars:List (Int×Int))(R:List Int),vs=[.ref a,.ref c]∧Web H a t m us ars∧JE m ars∧H c=some (.tup (R.map V.int))∧RingA ars R∧∀H',Same H H'→Q (.bl true) H'
theorem kn_rgg(D:DefAt K mg "ring_good" Wd ["web","thing"])(fr:Free mg ["all","len","zip"])(ku:Kn P w K mg base 3 "unlike_places" ["web","thing"] (spUnl K)):Kn P w K mg base 4 "ring_good" ["web","thing"] spRgG:=by
 have sc:FnScope ["web","thing"] ["web","thing"] (Jl Wd):=⟨rfl,rfl,rfl,by decide +kernel,rfl,by decide +kernel,by decide +kernel⟩
 refine D.kn (N:=["web","thing"]) sc (fun vs H Q E h=>?_) (fun f cdv A outer s H vs Q E hr h=>?_)
 ·obtain ⟨a,t,c,m,us,ars,R,rfl,_⟩:=h
  rfl
 ·obtain ⟨a,t,c,m,us,ars,R,rfl,W,ga,hc,rg,kk⟩:=h
  obtain⟨r2,nd,r40,ra⟩:=rg
  have hu2:=huN (j:=2) hr (by decide)
  have m_all:=fr "all" (by simp)
  have m_len:=fr "len" (by simp)
  have m_zip:=fr "zip" (by simp)
  have nd0:(["arrow","web"]:List Str).Nodup:=by decide +kernel
  have nd1:(["arrow","web"]:List Str).Nodup:=by decide +kernel
  refine⟨_,(Jd (JU (PW.pt (Qu (Wo (Yq (Jp ku hr (Ja (pv 0) (Ja (pv 1) Jc))))) (WS (Js op_lt (Jr Ym rfl m_len PySem.boot_len (Ja (pv 1) Jc)) Ji (Jq _))))) (Je (Jm JY)) Jy) (Je (Jm (Jr (Yk rfl) rfl m_all YG (Ja (Ye (N:=["arrow","web"]) (src:=[none,some 0]) rfl ⟨rfl,rfl,rfl,rfl,⟨⟨rfl,rfl⟩,trivial⟩,rfl,rfl,rfl⟩ (Jw (i:=0) rfl) (pi_zipN rfl m_zip (Ja (pv 1) (Ja (JM op_cat2 (Ue sl_tup2 (pv 1) (Ud Ji) po_none) (Ue sl_tup2 (pv 1) po_none (Ud Ji))) Jc))) (fun C s H fp=>⟨(Jk (i:=0) nd1 rfl (Or.inl rfl)),JG,(Yf (r:=rInTr K 1) (op_inTr 1 hu2) (pv 0) (Jx (r:=rIxT K) JA (pv 1) Ji (fun _ _=>rfl)) rfl)⟩)) Jc))))),?_⟩
  have bd:∀p∈R,0≤p∧p<m:=fun p hp=>by
   obtain⟨i,hi,rfl⟩:=List.mem_iff_getElem.mp hp
   have hj:(i+1)%R.length<R.length:=Nat.mod_lt _ (by omega)
   have:=ra i hi _ _ (List.getElem?_eq_getElem hi) (List.getElem?_eq_getElem hj)
   obtain⟨g1,g2,_⟩:=ga _ this
   exact⟨g1,g2⟩
  refine⟨_,rfl,_,rfl,a,t,c,m,us,ars,R,rfl,W,SqT.of hc,nd,bd,by omega,fun H1 s1=>⟨_,rfl,iteF ?_⟩⟩
  have hc1:=s1 _ _ hc
  refine⟨_,rfl,c,_,rfl,.inr (SqT.of hc1),_,_,rfl,rfl,_,rfl,?_⟩
  rw[List.length_map,decide_eq_false (by omega:¬ ((R.length:Nat):Int)<2)]
  refine iteF ?_
  -- zip(thing,thing[1:]+thing[:1])
  refine⟨_,rfl,_,rfl,1,rfl,c,_,rfl,hc1,fun q1 H2 s2 hq1=>?_⟩
  have hc2:=s2 _ _ hc1
  refine⟨_,rfl,1,rfl,c,_,rfl,hc2,fun q2 H3 s3 hq2=>?_⟩
  have hq13:=s3 _ _ hq1
  have e1:cutV (R.map V.int) (some 1) none++cutV (R.map V.int) none (some 1)=(R.drop 1++R.take 1).map V.int:=by
   rw[show(1:Int)=((1:Nat):Int)from rfl,cut_from (by rw[List.length_map];omega),show((1:Nat):Int)=1 from rfl,cut_head,List.map_append,List.map_drop,List.map_take]
  refine⟨q1,q2,_,_,rfl,rfl,hq13,hq2,?_,fun q3 H4 s4 hq3=>?_⟩
  ·rw [← List.length_append,e1,List.length_map,List.length_append,List.length_drop,List.length_take]
   exact Nat.le_of_lt (Jj (by omega))
  rw[e1]at hq3
  have s14:=s2.trans (s3.trans s4)
  have hc4:=s14 _ _ hc1
  have s04:=s1.trans s14
  have lS:((R.drop 1++R.take 1).map V.int).length=R.length:=by
   rw[List.length_map,List.length_append,List.length_drop,List.length_take]
   omega
  have W4:=W.mono s04
  refine⟨c,q3,_,_,rfl,hc4,hq3,lc_zip0 (xs:=R.map V.int) (ys:=(R.drop 1++R.take 1).map V.int) (.inr (.inr (by rw[lS,List.length_map]))) (fun j zs H5=>Same H4 H5∧zs=(List.replicate j true).map V.bl) ⟨Same.refl _,rfl⟩ ?_ ?_ ?_⟩
  ·rintro j zs H5 hj ⟨s5,rfl⟩
   rw[lS]at hj
   rw[List.length_map,List.length_replicate]
   exact⟨s5 _ _ hc4,s5 _ _ hq3,Nat.le_of_lt (Jj (by omega))⟩
  ·rintro zs H5 ⟨s5,rfl⟩ l hl
   refine⟨l,_,rfl,SqL.of Jb,?_⟩
   have e:(List.replicate ((R.drop 1++R.take 1).map V.int).length true).all id=true:=by
    rw[List.all_eq_true]
    intro x hx
    exact(List.eq_of_mem_replicate hx)
   rw[e]
   exact kk _ (s04.trans (s5.trans (Same.upd hl)))
  ·rintro j v w' zs H5 q h1 h2 hi ⟨s5,rfl⟩ hq
   rw[List.getElem?_map]at h1 h2
   obtain⟨x,ex,rfl⟩:=Option.map_eq_some_iff.mp h1
   obtain⟨y,ey,rfl⟩:=Option.map_eq_some_iff.mp h2
   have hjl:j<R.length:=(List.getElem?_eq_some_iff.mp ex).1
   have ey2:R[(j+1)%R.length]?=some y:=by
    by_cases c:j+1<R.length
    ·rw [List.getElem?_append_left (by rw [List.length_drop]; omega),List.getElem?_drop] at ey
     rw[Nat.mod_eq_of_lt c,Nat.add_comm]
     exact ey
    ·have ej:j=R.length - 1:=by omega
     rw[List.getElem?_append_right (by rw[List.length_drop];omega),List.length_drop,show j-(R.length-1)=0 by omega,List.getElem?_take_of_lt (by decide)]at ey
     rw[show(j+1)%R.length=0 by rw[show j+1=R.length by omega];exact Nat.mod_self _]
     exact ey
   have mem:=ra j hjl x y ex ey2
   have s6:=s5.trans (Same.upd (o:=.tup [.int x,.int y]) hq)
   have hq6:(upd H5 q (.tup [.int x,.int y])) q=some (.tup [.int x,.int y]):=Jb
   have W6:=W4.mono s6
   generalize upd H5 q (.tup [.int x,.int y])=H6 at s6 hq6 W6
   refine⟨_,rfl,_,rfl,a,_,_,_,rfl,rfl,SqT.of W6.top,rfl,t,_,_,_,rfl,.inr (SqT.of W6.arr),Is.tup (SqT.of hq6) (.cons (Is.int _) (.cons (Is.int _) .nil)),is_ars (d:=0) W6.ars,fun b hb=>nx hi ⟨s6,?_⟩⟩
   have eb:b=true:=hb.mpr (mem_tPrs.mpr mem)
   subst eb
   rw[List.replicate_succ',List.map_append]
   rfl
end
end Hk
namespace Hk
open PySem L2
theorem QB{m:Int}{N:Nat}{k:Nat}(hk:k<m.toNat):(k:Int)∈Yl m N↔N.testBit k=true:=by
 unfold Yl
 rw[List.mem_filter]
 have e:bitB N ((k:Int)).toNat=N.testBit k:=by rw[Int.toNat_natCast];exact UG N k
 rw[e]
 exact⟨fun z=>z.2,fun z=>⟨List.mem_map.mpr ⟨k,List.mem_range.mpr hk,rfl⟩,z⟩⟩
theorem ZC(m:Int)(ars:List (Int×Int)):(JI m ars (2^m.toNat)).Nodup:=by
 unfold JI
 refine List.Pairwise.filter _ ?_
 rw[List.pairwise_map]
 refine List.Pairwise.imp_of_mem (fun {a b} ha hb hab e=>?_) List.pairwise_lt_range
 have ha:=List.mem_range.mp ha
 have hb:=List.mem_range.mp hb
 have:a=b:=Nat.eq_of_testBit_eq fun k=>by
  by_cases hk:k<m.toNat
  ·have e1:=QB (N:=a) hk
   have e2:=QB (N:=b) hk
   rw[e]at e1
   have e3:=e1.symm.trans e2
   cases x:a.testBit k<;>cases y:b.testBit k<;>simp[x,y]at e3 ⊢
  ·have p:=Nat.pow_le_pow_right (n:=2) (by decide) (show m.toNat≤k by omega)
   rw[Nat.testBit_lt_two_pow (by omega),Nat.testBit_lt_two_pow (by omega)]
 omega
structure HoldP(n:Nat)(ars:List (Int×Int))(h:List Int):Prop where
 rise:Rise h (n:Int)
 ind:∀q∈ars,q.1∈h→q.2∉h
 cov:∀x:Int,0≤x→x<n→x∉h→∃b,(x,b)∈ars∧b∈h
theorem WB{n:Nat}{ars:List (Int×Int)}{h:List Int}(hr:Rise h (n:Int)):WI (n:Int) ars h=true↔HoldP n ars h:=by
 unfold WI
 rw[Bool.and_eq_true,List.isEmpty_iff,List.isEmpty_iff,List.filter_eq_nil_iff]
 constructor
 ·rintro ⟨h1,h2⟩
  refine⟨hr,fun q hq a b=>h1 q hq (by unfold both;rw[decide_eq_true a,decide_eq_true b];rfl),fun x h0 h1 hn=>?_⟩
  refine Classical.byContradiction fun z=>?_
  have:x∈Jf (n:Int) ars h:=(JT (by omega)).mpr ⟨⟨h0,h1⟩,hn,fun b hb hbh=>z ⟨b,hb,hbh⟩⟩
  rw[h2]at this
  cases this
 ·intro x
  refine⟨fun q hq z=>?_,List.eq_nil_iff_forall_not_mem.mpr fun y hy=>?_⟩
  ·unfold both at z
   rw[Bool.and_eq_true,decide_eq_true_eq,decide_eq_true_eq]at z
   exact x.ind q hq z.1 z.2
  ·obtain ⟨h0,h1,h2⟩:=(JT (by omega)).mp hy
   obtain⟨b,hb,hbh⟩:=x.cov y h0.1 h0.2 h1
   exact h2 b hb hbh
section
variable{n:Nat}{ars:List (Int×Int)}
theorem sett_t{i:Nat}(h:sett (n:Int) ars i=some true):i<n∧∀b,((i:Int),b)∈ars→sett (n:Int) ars b.toNat=some false:=by
 obtain⟨hi,e⟩:=Yy n (fun i=>ldI ars i) n i true h
 refine⟨hi,fun b hb=>?_⟩
 unfold stb at e
 split at e
 ·cases e
 ·split at e
  ·rename_i c
   have:=List.all_eq_true.mp c b (JW.mpr hb)
   exact eq_of_beq this
  ·cases e
theorem sett_f{i:Nat}(h:sett (n:Int) ars i=some false):i<n∧∃b,((i:Int),b)∈ars∧sett (n:Int) ars b.toNat=some true:=by
 obtain⟨hi,e⟩:=Yy n (fun i=>ldI ars i) n i false h
 refine⟨hi,?_⟩
 unfold stb at e
 split at e
 ·rename_i c
  obtain⟨b,hb,z⟩:=List.any_eq_true.mp c
  exact⟨b,JW.mp hb,eq_of_beq z⟩
 ·split at e <;> cases e
theorem sett_n{i:Nat}(hi:i<n)(h:sett (n:Int) ars i=none):∀b,((i:Int),b)∈ars→sett (n:Int) ars b.toNat≠some true:=fun b hb z=>by
 have e:=WW n (fun i=>ldI ars i) i hi
 have e:sett (n:Int) ars i=stb (sett (n:Int) ars) (ldI ars i):=e
 rw[h]at e
 unfold stb at e
 rw[if_pos (List.any_eq_true.mpr ⟨b,JW.mpr hb,by rw[z];rfl⟩)]at e
 cases e
theorem Uv(ga:JE (n:Int) ars){h:List Int}(x:HoldP n ars h){i:Nat}{b:Bool}(e:sett (n:Int) ars i=some b):b=decide ((i:Int)∈h):=by
 have cl:Yp n (fun i=>ldI ars i) (fun i=>if i<n then some (decide ((i:Int)∈h))else none):=fun i hi=>by
  dsimp only
  rw[if_pos hi]
  unfold stb
  by_cases c:(i:Int)∈h
  ·rw [if_neg,if_pos,decide_eq_true c]
   ·refine List.all_eq_true.mpr fun b hb=>?_
    have hb:=JW.mp hb
    have g:=ga _ hb
    dsimp only at g
    have nb:=x.ind _ hb c
    dsimp only at nb ⊢
    rw[if_pos (by omega),show((b.toNat:Nat):Int)=b by omega,decide_eq_false nb]
    rfl
   ·intro z
    obtain⟨b,hb,z⟩:=List.any_eq_true.mp z
    have hb:=JW.mp hb
    have g:=ga _ hb
    dsimp only at g
    have nb:=x.ind _ hb c
    dsimp only at nb z
    rw[if_pos (by omega),show((b.toNat:Nat):Int)=b by omega,decide_eq_false nb]at z
    cases z
  ·obtain ⟨b,hb,hbh⟩:=x.cov (i:Int) (by omega) (by omega) c
   have g:=ga _ hb
   dsimp only at g
   rw[if_pos,decide_eq_false c]
   refine List.any_eq_true.mpr ⟨b,JW.mpr hb,?_⟩
   dsimp only
   rw[if_pos (by omega),show((b.toNat:Nat):Int)=b by omega,decide_eq_true hbh]
   rfl
 have le:=Wa cl n i b e
 have hi:=(Yy n (fun i=>ldI ars i) n i b e).1
 dsimp only at le
 rw[if_pos hi]at le
 exact(Option.some.inj le).symm
theorem Yc{x:Int}:x∈Jv (n:Int) ars n↔(0≤x∧x<n)∧sett (n:Int) ars x.toNat=none:=by
 unfold Jv
 rw[List.mem_map]
 constructor
 ·rintro ⟨i,hi,rfl⟩
  obtain⟨h1,h2⟩:=List.mem_filter.mp hi
  have:=List.mem_range.mp h1
  rw[Int.toNat_natCast]
  exact⟨by omega,of_decide_eq_true h2⟩
 ·rintro ⟨⟨h0,h1⟩,h2⟩
  exact⟨x.toNat,List.mem_filter.mpr ⟨List.mem_range.mpr (by omega),decide_eq_true h2⟩,by omega⟩
theorem Wm:(Jv (n:Int) ars n).Pairwise (·<·):=by
 unfold Jv
 rw[List.pairwise_map]
 exact(List.Pairwise.filter _ List.pairwise_lt_range).imp fun {a b} h=>by omega
def inL(n:Nat)(ars:List (Int×Int)):List Int:=(plI n).filter fun p=>decide (sett (n:Int) ars p.toNat=some true)
def reM(n:Nat)(ars:List (Int×Int))(g:List Int):List Int:=g.map fun i=>(Jv (n:Int) ars n).getD i.toNat 0
def brF(n:Nat)(ars:List (Int×Int))(g:List Int):List Int:=(plI n).filter fun p=>decide (sett (n:Int) ars p.toNat=some true)||decide (p∈reM n ars g)
theorem re_at{g:List Int}(hg:Rise g ((Jv (n:Int) ars n).length:Int)){x:Int}(hx:x∈reM n ars g):∃i:Nat,(i:Int)∈g∧(Jv (n:Int) ars n)[i]?=some x:=by
 unfold reM at hx
 obtain⟨i,hi,rfl⟩:=List.mem_map.mp hx
 have b:=hg.bd i hi
 refine⟨i.toNat,by rw[show((i.toNat:Nat):Int)=i by omega];exact hi,?_⟩
 rw[List.getD_eq_getElem?_getD,List.getElem?_eq_getElem (by omega)]
 rfl
theorem re_of{g:List Int}{i:Nat}{x:Int}(hi:(i:Int)∈g)(e:(Jv (n:Int) ars n)[i]?=some x):x∈reM n ars g:=by
 unfold reM
 refine List.mem_map.mpr ⟨(i:Int),hi,?_⟩
 rw[Int.toNat_natCast,List.getD_eq_getElem?_getD,e]
 rfl
theorem Uj{g:List Int}(hg:Rise g ((Jv (n:Int) ars n).length:Int)){x:Int}:x∈brF n ars g↔(0≤x∧x<n)∧(sett (n:Int) ars x.toNat=some true∨x∈reM n ars g):=by
 unfold brF
 rw[List.mem_filter,JO,Bool.or_eq_true,decide_eq_true_eq,decide_eq_true_eq]
theorem UT{g:List Int}(hg:Rise g ((Jv (n:Int) ars n).length:Int)){x:Int}(hx:x∈reM n ars g):x∈Jv (n:Int) ars n:=by
 obtain⟨i,_,e⟩:=re_at hg hx
 exact List.mem_of_getElem? e
theorem QO {g:List Int}:Rise (brF n ars g) (n:Int):=⟨fun x hx=>by
 have:=JO.mp (List.mem_filter.mp hx).1
 omega,JP _ _⟩
theorem sub_ar(st:Stc ars){i j:Nat}{x y:Int}(hx:(Jv (n:Int) ars n)[i]?=some x)(hy:(Jv (n:Int) ars n)[j]?=some y):((i:Int),(j:Int))∈am (Jv (n:Int) ars n) ars↔(x,y)∈ars:=by
 rw[(UO Wm st).mem]
 constructor
 ·rintro ⟨a,b,e,p,q,hp,hq,h⟩
  injection e with e1 e2
  have e1:i=a:=by omega
  have e2:j=b:=by omega
  subst e1 e2
  rw[hx]at hp
  rw[hy]at hq
  cases hp
  cases hq
  exact h
 ·exact fun h=>⟨i,j,rfl,x,y,hx,hy,h⟩
theorem br_hold(ga:JE (n:Int) ars)(st:Stc ars){g:List Int}(x:HoldP (Jv (n:Int) ars n).length (am (Jv (n:Int) ars n) ars) g):HoldP n ars (brF n ars g):=by
 have mb:∀{y:Int},y∈brF n ars g↔(0≤y∧y<n)∧(sett (n:Int) ars y.toNat=some true∨y∈reM n ars g):=Uj x.rise
 refine⟨QO,fun q hq h1 h2=>?_,fun y y0 y1 hn=>?_⟩
 ·obtain ⟨b1,c1⟩:=mb.mp h1
  obtain⟨b2,c2⟩:=mb.mp h2
  obtain⟨p,r⟩:=q
  dsimp only at b1 c1 b2 c2
  obtain⟨i,rfl⟩:∃i:Nat,p=(i:Int):=⟨p.toNat,by omega⟩
  rw[Int.toNat_natCast]at c1
  rcases c1 with c1|c1
  ·have f:=(sett_t c1).2 r hq
   rcases c2 with c2|c2
   ·rw [f] at c2
    cases c2
   ·have:=(Yc.mp (UT x.rise c2)).2
    rw[f]at this
    cases this
  ·have nn:=Yc.mp (UT x.rise c1)
   rw[Int.toNat_natCast]at nn
   rcases c2 with c2|c2
   ·exact sett_n (by omega) nn.2 r hq c2
   ·obtain ⟨a,ha,ea⟩:=re_at x.rise c1
    obtain⟨b,hb,eb⟩:=re_at x.rise c2
    exact x.ind _ ((sub_ar st ea eb).mpr hq) ha hb
 ·obtain ⟨i,rfl⟩:∃ i:Nat,y=(i:Int):=⟨y.toNat,by omega⟩
  have hn:¬ (sett (n:Int) ars i=some true∨(i:Int)∈reM n ars g):=fun z=>hn (mb.mpr ⟨⟨y0,y1⟩,by rw[Int.toNat_natCast];exact z⟩)
  cases e:sett (n:Int) ars i with
  | none =>
   have hr:(i:Int)∈Jv (n:Int) ars n:=Yc.mpr ⟨⟨y0,y1⟩,by rw[Int.toNat_natCast];exact e⟩
   obtain⟨a,ea⟩:=List.mem_iff_getElem?.mp hr
   have la:=(List.getElem?_eq_some_iff.mp ea).1
   obtain⟨b,hb,hbg⟩:=x.cov (a:Int) (by omega) (by omega) fun z=>hn (.inr (re_of z ea))
   have bb:=x.rise.bd b hbg
   obtain⟨c,rfl⟩:∃c:Nat,b=(c:Int):=⟨b.toNat,by omega⟩
   have ec:=List.getElem?_eq_getElem (l:=Jv (n:Int) ars n) (i:=c) (by omega)
   have hq:=(sub_ar st ea ec).mp hb
   have rr:=Yc.mp (List.mem_of_getElem? ec)
   exact⟨_,hq,mb.mpr ⟨rr.1,.inr (re_of hbg ec)⟩⟩
  | some b =>
   cases b with
   | true=>exact absurd (.inl e) hn
   | false =>
    obtain⟨_,b,hb,sb⟩:=sett_f e
    have g:=ga _ hb
    dsimp only at g
    exact⟨b,hb,mb.mpr ⟨by omega,.inl sb⟩⟩
theorem hold_br(ga:JE (n:Int) ars)(st:Stc ars){h:List Int}(x:HoldP n ars h):∃g,HoldP (Jv (n:Int) ars n).length (am (Jv (n:Int) ars n) ars) g∧h=brF n ars g:=by
 have mg:∀i:Nat,(i:Int)∈(plI (Jv (n:Int) ars n).length).filter (fun i=>decide ((Jv (n:Int) ars n).getD i.toNat 0∈h))↔∃y,(Jv (n:Int) ars n)[i]?=some y∧y∈h:=fun i=>by
  rw[List.mem_filter,JO,decide_eq_true_eq,Int.toNat_natCast,List.getD_eq_getElem?_getD]
  constructor
  ·rintro ⟨⟨_,h1⟩,h2⟩
   have e:=List.getElem?_eq_getElem (l:=Jv (n:Int) ars n) (i:=i) (by omega)
   rw[e]at h2
   exact⟨_,e,h2⟩
  ·rintro ⟨y,e,h2⟩
   have:=(List.getElem?_eq_some_iff.mp e).1
   rw[e]
   exact⟨by omega,h2⟩
 have rg:Rise ((plI (Jv (n:Int) ars n).length).filter fun i=>decide ((Jv (n:Int) ars n).getD i.toNat 0∈h)) ((Jv (n:Int) ars n).length:Int):=⟨fun y hy=>JO.mp (List.mem_filter.mp hy).1,JP _ _⟩
 refine⟨_,⟨rg,fun q hq h1 h2=>?_,fun y y0 y1 hn=>?_⟩,?_⟩
 ·obtain ⟨p,r⟩:=q
  have b1:=rg.bd _ h1
  have b2:=rg.bd _ h2
  dsimp only at h1 h2 b1 b2
  obtain⟨i,rfl⟩:∃i:Nat,p=(i:Int):=⟨p.toNat,by omega⟩
  obtain⟨j,rfl⟩:∃j:Nat,r=(j:Int):=⟨r.toNat,by omega⟩
  obtain⟨y,ey,hy⟩:=(mg i).mp h1
  obtain⟨z,ez,hz⟩:=(mg j).mp h2
  exact x.ind _ ((sub_ar st ey ez).mp hq) hy hz
 ·obtain ⟨i,rfl⟩:∃ i:Nat,y=(i:Int):=⟨y.toNat,by omega⟩
  have ei:=List.getElem?_eq_getElem (l:=Jv (n:Int) ars n) (i:=i) (by omega)
  have hr:=Yc.mp (List.mem_of_getElem? ei)
  generalize (Jv (n:Int) ars n)[i]=v at ei hr
  have nv:v∉h:=fun z=>hn ((mg i).mpr ⟨v,ei,z⟩)
  obtain⟨b,hb,hbh⟩:=x.cov v hr.1.1 hr.1.2 nv
  have g:=ga _ hb
  dsimp only at g
  have sb:sett (n:Int) ars b.toNat=none:=by
   cases e:sett (n:Int) ars b.toNat with
   | none=>rfl
   | some c =>
    have:=Uv ga x e
    rw[show((b.toNat:Nat):Int)=b by omega,decide_eq_true hbh]at this
    subst this
    have hb':(((v.toNat:Nat):Int),b)∈ars:=by rw[show((v.toNat:Nat):Int)=v by omega];exact hb
    exact absurd e (sett_n (by omega) hr.2 b hb')
  obtain⟨j,ej⟩:=List.mem_iff_getElem?.mp (Yc.mpr ⟨by omega,sb⟩:b∈Jv (n:Int) ars n)
  exact⟨(j:Int),(sub_ar st ei ej).mpr hb,(mg j).mpr ⟨b,ej,hbh⟩⟩
 ·refine Zn x.rise.up QO.up fun y=>?_
  rw[Uj rg]
  constructor
  ·intro hy
   have b:=x.rise.bd y hy
   refine⟨b,?_⟩
   cases e:sett (n:Int) ars y.toNat with
   | none =>
    obtain⟨j,ej⟩:=List.mem_iff_getElem?.mp (Yc.mpr ⟨b,e⟩)
    exact .inr (re_of ((mg j).mpr ⟨y,ej,hy⟩) ej)
   | some c =>
    have:=Uv ga x e
    rw[show((y.toNat:Nat):Int)=y by omega,decide_eq_true hy]at this
    exact .inl (by rw[this])
  ·rintro ⟨b,h1 | h1⟩
   ·have:=Uv ga x h1
    rw[show((y.toNat:Nat):Int)=y by omega]at this
    exact of_decide_eq_true this.symm
   ·obtain ⟨i,hi,e⟩:=re_at rg h1
    obtain⟨z,ez,hz⟩:=(mg i).mp hi
    rw[e]at ez
    cases ez
    exact hz
theorem brF_inj{g g':List Int}(h:Rise g ((Jv (n:Int) ars n).length:Int))(h':Rise g' ((Jv (n:Int) ars n).length:Int))(e:brF n ars g=brF n ars g'):g=g':=by
 have one:∀{g g':List Int},Rise g ((Jv (n:Int) ars n).length:Int)→Rise g' ((Jv (n:Int) ars n).length:Int)→brF n ars g=brF n ars g'→∀x,x∈g→x∈g':=fun {g g'} h h' e x hx=>by
  have b:=h.bd x hx
  obtain⟨i,rfl⟩:∃i:Nat,x=(i:Int):=⟨x.toNat,by omega⟩
  have ei:=List.getElem?_eq_getElem (l:=Jv (n:Int) ars n) (i:=i) (by omega)
  have rr:=Yc.mp (List.mem_of_getElem? ei)
  have m1:=(Uj h).mpr ⟨rr.1,.inr (re_of hx ei)⟩
  rw[e]at m1
  rcases((Uj h').mp m1).2 with z|z
  ·rw [rr.2] at z
   cases z
  ·obtain ⟨j,hj,ej⟩:=re_at h' z
   rw[(Yv Wm ei ej).2 rfl]
   exact hj
 exact Zn h.up h'.up fun x=>⟨one h h' e x,one h' h e.symm x⟩
def brL(n:Nat)(ars:List (Int×Int)):List (List Int):=(JI ((Jv (n:Int) ars n).length:Int) (am (Jv (n:Int) ars n) ars) (2^(Jv (n:Int) ars n).length)).map (brF n ars)
theorem YI{S:List Int}:S∈JI (n:Int) ars (2^n)↔HoldP n ars S:=by
 constructor
 ·intro h
  obtain⟨r,b⟩:=holdsTo_ok (by omega) h
  exact(WB r).mp b
 ·intro h
  have:=holds_all (by omega) h.rise ((WB h.rise).mpr h)
  rw[Int.toNat_natCast]at this
  exact this
theorem brL_mem(ga:JE (n:Int) ars)(st:Stc ars){S:List Int}:S∈brL n ars↔S∈JI (n:Int) ars (2^n):=by
 unfold brL
 rw[List.mem_map,YI]
 constructor
 ·rintro ⟨g,hg,rfl⟩
  exact br_hold ga st (YI.mp hg)
 ·intro h
  obtain⟨g,hg,rfl⟩:=hold_br ga st h
  exact⟨g,YI.mpr hg,rfl⟩
theorem brL_nodup:(brL n ars).Nodup:=by
 unfold brL List.Nodup
 rw[List.pairwise_map]
 have nd:=ZC ((Jv (n:Int) ars n).length:Int) (am (Jv (n:Int) ars n) ars)
 rw[Int.toNat_natCast]at nd
 refine List.Pairwise.imp_of_mem (fun {a b} ha hb hab e=>hab ?_) nd
 exact brF_inj (YI.mp ha).rise (YI.mp hb).rise e
theorem brL_none(e:Jv (n:Int) ars n=[]):brL n ars=[inL n ars]:=by
 have h:JI (([]:List Int).length:Int) (am [] ars) (2^([]:List Int).length)=[[]]:=by
  have ea:am [] ars=[]:=by
   unfold am
   rw[List.filter_eq_nil_iff.mpr]
   ·rfl
   ·intro q _ z
    simp at z
  rw[ea]
  rfl
 unfold brL
 rw[e,h]
 show[brF n ars []]=_
 unfold brF inL reM
 congr 2
 funext p
 simp
theorem re_len(g:List Int):(reM n ars g).length=g.length:=List.length_map _
theorem inL_len:(inL n ars).length≤n:=by
 have:=List.length_filter_le (fun p:Int=>decide (sett (n:Int) ars p.toNat=some true)) (plI n)
 rw[YY]at this
 exact this
theorem br_sorted{g ns:List Int}(hg:Rise g ((Jv (n:Int) ars n).length:Int))(pm:ns.Perm (inL n ars++reM n ars g))(le:ns.Pairwise (·≤·)):ns=brF n ars g:=by
 have up:(reM n ars g).Pairwise (·<·):=by
  unfold reM
  rw[List.pairwise_map]
  refine List.Pairwise.imp_of_mem (fun {i j} hi hj hij=>?_) hg.up
  have bi:=hg.bd i hi
  have bj:=hg.bd j hj
  have ei:=List.getElem?_eq_getElem (l:=Jv (n:Int) ars n) (i:=i.toNat) (by omega)
  have ej:=List.getElem?_eq_getElem (l:=Jv (n:Int) ars n) (i:=j.toNat) (by omega)
  rw[List.getD_eq_getElem?_getD,List.getD_eq_getElem?_getD,ei,ej]
  exact(Yv Wm ei ej).1.mp (by omega)
 have nd:ns.Nodup:=by
  refine pm.nodup_iff.mpr (List.nodup_append.mpr ⟨(JP _ _).imp fun {a b} z e=>by omega,up.imp fun {a b} z e=>by omega,fun a ha b hb e=>?_⟩)
  subst e
  have h1:=of_decide_eq_true (List.mem_filter.mp ha).2
  have h2:=(Yc.mp (UT hg hb)).2
  rw[h1]at h2
  cases h2
 refine Zn (le_lt le nd) QO.up fun x=>?_
 rw[pm.mem_iff,List.mem_append,Uj hg]
 constructor
 ·rintro (z | z)
  ·obtain ⟨h1,h2⟩:=List.mem_filter.mp z
   exact⟨JO.mp h1,.inl (of_decide_eq_true h2)⟩
  ·exact ⟨(Yc.mp (UT hg z)).1,.inr z⟩
 ·rintro ⟨b,z | z⟩
  ·exact .inl (List.mem_filter.mpr ⟨JO.mpr b,decide_eq_true z⟩)
  ·exact .inr z
theorem hold_ne(n1:1≤n){S:List Int}(h:HoldP n ars S):S≠[]:=fun z=>by
 obtain⟨b,_,hb⟩:=h.cov 0 (by omega) (by omega) (by rw[z];simp)
 rw[z]at hb
 cases hb
end
end Hk
namespace Hk
open PySem L2 PySem.W
section
variable{P:Program}{w:World}{K:Frag}{mg:Str→Option Value}{base:Heap}
def spByRest:Sp:=fun vs H Q _=>∃(a t:Addr)(n:Nat)(us:List V)(ars:List (Int×Int)),vs=[.ref a]∧Web H a t (n:Int) us ars∧us.length≤200∧JE (n:Int) ars∧Stc ars∧n≤12 ∧
 ∀(l:Addr)(ws:List V)(H':Hp),Same H H'→H' l=some (.lst ws)→Tps H' ws (brL n ars)→Q (.ref l) H'
theorem kn_byrest(D:DefAt K mg "_law_by_rest" Zx ["web"])(fr:Free mg ["range","sorted","tuple"])(ks:Kn P w K mg base 2 "settled_marks" ["web"] Ut)(ke:Kn P w K mg base 3 "rest_of" ["web"] spRest)(kh:Kn P w K mg base 5 "_law_held" ["web"] WL)(ka:Kn P w K mg base 1 "among_web" ["web","places"] spAmong):Kn P w K mg base 6 "_law_by_rest" ["web"] spByRest:=by
 have sc:FnScope ["web","marks","rest","inner","found","hold"] ["web"] (Jl Zx):=⟨rfl,rfl,rfl,by decide +kernel,rfl,by decide +kernel,by decide +kernel⟩
 refine D.kn (N:=["web","marks","rest","inner","found","hold"]) sc (fun vs H Q E h=>?_) (fun fa cdv A outer s H vs Q E hr h=>?_)
 ·obtain ⟨a,t,n,us,ars,rfl,_⟩:=h
  rfl
 ·obtain ⟨a,t,n,us,ars,rfl,W,l200,ga,st,n12,kk⟩:=h
  have hu:=YW hr
  have r1:=hr.mono (j:=1) (by decide)
  have r2:=hr.mono (j:=2) (by decide)
  have r3:=hr.mono (j:=3) (by decide)
  have m_range:=fr "range" (by simp)
  have m_sorted:=fr "sorted" (by simp)
  have m_tuple:=fr "tuple" (by simp)
  have nd0:(["place","marks"]:List Str).Nodup:=by decide +kernel
  have nd1:(["place","rest"]:List Str).Nodup:=by decide +kernel
  have nd2:(["place","rest"]:List Str).Nodup:=by decide +kernel
  have nd3:(["place","rest"]:List Str).Nodup:=by decide +kernel
  have nd4:(["place","rest"]:List Str).Nodup:=by decide +kernel
  refine⟨_,(Jd (Jn (i:=1) sc.nd rfl (Or.inr rfl) (Jp ks r2 (Ja (pv 0) Jc))) (Jd (Jn (i:=2) sc.nd rfl (Or.inr rfl) (Jp ke r3 (Ja (pv 0) Jc))) (Jd (YN (i:=3) (N:=["place","marks"]) (src:=[none,some 1]) sc.nd rfl rfl rfl rfl ⟨rfl,rfl,rfl,rfl,⟨⟨rfl,rfl⟩,trivial⟩,rfl,rfl,rfl⟩ (Jw (i:=0) rfl) (JQ rfl m_range (Ja (Jx JA (pv 0) Ji (fun _ _=>rfl)) Jc)) (fun C s H fp=>⟨(Jk (i:=0) nd0 rfl (Or.inl rfl)),(Yb (Js op_isC (Jx (r:=rIxL K) JL (pv 1) (pv 0) (fun _ _=>rfl)) JY (Jq _))),(pv 0)⟩)) (Jd (JU (Js (op_eqTN (Nat.lt_of_succ_lt hu)) (pv 2) (Yj Jc) (Jq _)) (Je (Jm (JZ (Ja (JK JC rfl m_tuple JB (Ja (pv 3) Jc)) Jc)))) Jy) (Jd (Jn (i:=4) sc.nd rfl (Or.inl rfl) (JZ Jc)) (Jd (Yi PassesOwn.never rfl (JR (Jp kh hr (Ja (Jp ka r1 (Ja (pv 0) (Ja (pv 2) Jc))) Jc))) (Jk (i:=5) sc.nd rfl (Or.inl rfl)) (Je (Zo (UJ PySem.F.plainAttrs_list PySem.F.slot_list_append PySem.F.type_list_append YE (pv 4) (Ja (JK JC rfl m_tuple JB (Ja (Jr UD rfl m_sorted Yn (Ja (JM op_cat (pv 3) (Ye (N:=["place","rest"]) (src:=[none,some 2]) rfl ⟨rfl,rfl,rfl,rfl,⟨⟨rfl,rfl⟩,trivial⟩,rfl,rfl,rfl⟩ (Jw (i:=0) rfl) (YC (pv 5)) (fun C s H fp=>⟨(Jk (i:=0) nd4 rfl (Or.inl rfl)),JG,(Jx (r:=rIxT K) JA (pv 1) (pv 0) (fun _ _=>rfl))⟩))) Jc)) Jc)) Jc))))) (Je (Jm (pv 4))))))))),?_⟩
  have c0:0≤sizeLine:=by decide
  have c1:1≤sizeLine:=by decide
  have sl:1000≤sizeLine:=by decide
  have tn:((n:Nat):Int).toNat=n:=Int.toNat_natCast n
  refine⟨_,rfl,a,t,(n:Int),us,ars,rfl,W,ga,fun l1 H1 s1 hl1n hl1=>?_⟩
  refine Jo ?_
  dsimp only[List.set]
  refine⟨_,rfl,a,t,(n:Int),us,ars,rfl,W.mono s1,ga,fun q H2 s2 hq=>?_⟩
  rw[tn]at hq
  refine Jo ?_
  dsimp only[List.set]
  have s12:=s1.trans s2
  have W2:=W.mono s12
  have hl2:=s2 _ _ hl1
  have lS:(WE (n:Int) ars).length=n:=by
   unfold WE
   rw[List.length_map,List.length_range,tn]
  -- inner
  refine⟨_,rfl,a,_,_,_,rfl,rfl,SqT.of W2.top,rfl,(n:Int),rfl,by omega,by omega,Wt (n:=((n:Nat):Int).toNat) (fun i zs H'=>Same H2 H'∧zs=(((plI n).take i).filter fun p=>decide (sett (n:Int) ars p.toNat=some true)).map V.int) ⟨Same.refl _,rfl⟩ ?_ ?_ ?_⟩
  ·rintro i zs H' hi ⟨s3,rfl⟩
   have h2:=List.length_filter_le (fun p:Int=>decide (sett (n:Int) ars p.toNat=some true)) ((plI n).take i)
   rw[List.length_take,YY]at h2
   rw[List.length_map]
   omega
  ·rintro zs H3 ⟨s3,rfl⟩ li hli
   rw[tn,List.take_of_length_le (by rw[YY];exact Nat.le_refl _)]
   have ei:(plI n).filter (fun p=>decide (sett (n:Int) ars p.toNat=some true))=inL n ars:=rfl
   rw[ei]
   have s4:=s12.trans (s3.trans (Same.upd (o:=.lst ((inL n ars).map V.int)) hli))
   have hi4:(upd H3 li (.lst ((inL n ars).map V.int))) li=some (.lst ((inL n ars).map V.int)):=Jb
   have hq4:=(s3.trans (Same.upd (o:=.lst ((inL n ars).map V.int)) hli)) _ _ hq
   generalize upd H3 li (.lst ((inL n ars).map V.int))=H4 at s4 hi4 hq4
   have lin:(inL n ars).length≤n:=inL_len
   have lrs:=restN_len (n:Int) ars n
   refine⟨_,rfl,c0,fun e he=>?_⟩
   have se:=Same.upd (o:=.tup []) he
   refine⟨q,e,_,rfl,rfl,SqT.of (se _ _ hq4),SqT.of Jb,_,rfl,?_⟩
   have s5:=s4.trans se
   have hi5:=se _ _ hi4
   have hq5:=se _ _ hq4
   generalize upd H4 e (.tup [])=H5 at s5 hi5 hq5
   refine ite2 (fun c=>?_) (fun c=>?_)
   ·have c:Jv (n:Int) ars n=[]:=by simpa using c
    refine⟨_,rfl,li,_,rfl,.inl ⟨SqL.of hi5,fun tq htq=>⟨c1,fun y hy=>?_⟩⟩⟩
    have sy:=(Same.upd (o:=.tup ((inL n ars).map V.int)) htq).trans (Same.upd (o:=.lst [.ref tq]) hy)
    refine kk y _ _ (s5.trans sy) Jb ?_
    rw[brL_none c]
    exact .cons ⟨tq,rfl,Same.upd hy _ _ Jb⟩ .nil
   ·refine ⟨c0,fun f0 hf0=>?_⟩
    have sf:=Same.upd (o:=.lst []) hf0
    have s6:=s5.trans sf
    have hi6:=sf _ _ hi5
    have hq6:=sf _ _ hq5
    have hf6:(upd H5 f0 (.lst [])) f0=some (.lst []):=Jb
    have hfN:H f0=none:=Ya s5 hf0
    show Zr 4 (.ref f0) _ (upd H5 f0 (.lst [])) _
    generalize upd H5 f0 (.lst [])=H6 at s6 hi6 hq6 hf6
    refine Jo ?_
    dsimp only[List.set]
    refine⟨_,rfl,_,rfl,a,t,(n:Int),us,ars,q,_,rfl,W.mono s6,l200,st,hq6,Wm,by omega,fun a' t' us' sub H7 s7 W7 am7 l7=>?_⟩
    obtain rfl:=am7.uniq (UO Wm st)
    refine⟨a',t',_,us',_,rfl,W7,by omega,fun hl ws H8 s8 hlN hl8 tps=>?_⟩
    have tk:(((Jv (n:Int) ars n).length:Nat):Int).toNat=(Jv (n:Int) ars n).length:=Int.toNat_natCast _
    rw[tk]at tps
    have s78:=s7.trans s8
    have hi8:=s78 _ _ hi6
    have hq8:=s78 _ _ hq6
    have hf8:=s78 _ _ hf6
    have s68:=s6.trans s78
    have nhf:hl≠f0:=fun z=>by rw[z,s7 _ _ hf6]at hlN;cases hlN
    have nif:li≠f0:=fun z=>by rw[z]at hi5;rw[hi5]at hf0;cases hf0
    have lws:=tps.len
    have lH:=Wu (((Jv (n:Int) ars n).length:Nat):Int) (am (Jv (n:Int) ars n) ars) (2^(Jv (n:Int) ars n).length)
    have p12:2^(Jv (n:Int) ars n).length≤4096:=Nat.le_trans (Nat.pow_le_pow_right (by decide) (show(Jv (n:Int) ars n).length≤12 by omega)) (by decide)
    refine⟨hl,rfl,⟨_,SqL.of hl8⟩,YO (K:=K) (xs:=ws) (fun i σ H9=>∃(zs:List V)(v5:Option V),σ=[some (.ref a),some (.ref l1),some (.ref q),some (.ref li),some (.ref f0),v5]∧SameBut f0 H8 H9∧H9 f0=some (.lst zs)∧Tps H9 zs (((JI (((Jv (n:Int) ars n).length:Nat):Int) (am (Jv (n:Int) ars n) ars) (2^(Jv (n:Int) ars n).length)).take i).map (brF n ars))) ⟨[],_,rfl,SameBut.refl _ _,hf8,.nil⟩ (fun i σ H9 _ ⟨_,_,_,s9,_⟩=>SqL.of (s9 _ _ nhf hl8)) ?_ ?_⟩
    ·rintro i x σ H9 hx ⟨zs,v5,rfl,s9,hf9,tz⟩
     obtain⟨g,eg,p,rfl,hp⟩:=Paired.get' tps hx
     have hgP:=YI.mp (List.mem_of_getElem? eg)
     have gl:=hgP.rise.len
     rw[tk]at gl
     have npf:p≠f0:=ZK hp hf8 (fun z=>nomatch z)
     have nqf:q≠f0:=ZK hq8 hf8 (fun z=>nomatch z)
     have hp9:=s9 _ _ npf hp
     have hq9:=s9 _ _ nqf hq8
     have hi9:=s9 _ _ nif hi8
     have ts:=Ju _ _ _ eg
     have lzs:=tz.len
     rw[List.length_map,List.length_take]at lzs
     have il:i<ws.length:=(List.getElem?_eq_some_iff.mp hx).1
     refine⟨_,rfl,.inl ⟨rfl,_,SqL.of hf9⟩,_,rfl,_,rfl,p,rfl,⟨_,SqT.of hp9⟩,Uk (xs:=g.map V.int) (fun j ys H'=>Same H9 H'∧ys=(reM n ars (g.take j)).map V.int) ⟨Same.refl _,rfl⟩ ?_ ?_ ?_⟩
     ·rintro j ys H' hj ⟨sA,rfl⟩
      refine⟨SqT.of (sA _ _ hp9),?_⟩
      rw[List.length_map,re_len,List.length_take]
      omega
     ·rintro ys HA ⟨sA,rfl⟩ y hy
      rw[List.length_map,List.take_of_length_le (Nat.le_refl _)]
      have sy:=Same.upd (o:=.lst ((reM n ars g).map V.int)) hy
      refine⟨li,y,_,_,rfl,rfl,sy _ _ (sA _ _ hi9),Jb,?_,fun m3 hm3=>?_⟩
      ·rw [List.length_map,List.length_map,re_len]
       omega
      rw[← List.map_append]
      have s3':=Same.upd (o:=.lst ((inL n ars++reM n ars g).map V.int)) hm3
      refine⟨m3,_,rfl,SqL.of Jb,?_,fun D ns' HB sB hD pm le=>?_⟩
      ·rw [List.length_append,re_len]
       omega
      obtain rfl:=br_sorted hgP.rise pm le
      refine⟨D,_,rfl,.inl ⟨SqL.of hD,fun tq htq=>?_⟩⟩
      have sC:=sA.trans (sy.trans (s3'.trans (sB.trans (Same.upd (o:=.tup ((brF n ars g).map V.int)) htq))))
      have hfC:=sC _ _ hf9
      refine⟨f0,zs,_,rfl,rfl,hfC,Wc (by omega),?_⟩
      refine⟨zs++[.ref tq],_,rfl,fun b o nb e=>?_,Jb,?_⟩
      ·rw [Jh nb]
       exact sC _ _ (s9 _ _ nb e)
      ·rw [ts,List.map_append]
       exact Tps.but hfC SameBut.upd ((tz.mono sC).snoc Jb)
     ·rintro j x ys H' hx hj ⟨sA,rfl⟩
      rw[List.getElem?_map]at hx
      obtain⟨k,e1,rfl⟩:=Option.map_eq_some_iff.mp hx
      have bk:=hgP.rise.bd k (List.mem_of_getElem? e1)
      refine⟨_,rfl,_,rfl,q,_,_,_,rfl,rfl,SqT.of (sA _ _ hq9),UH bk.1 bk.2,nx hj ⟨sA,?_⟩⟩
      unfold reM
      rw[Ju _ _ _ e1,List.map_append,List.map_append]
      rfl
    ·rintro σ H9 ⟨zs,v5,rfl,s9,hf9,tz⟩
     rw[lws,List.take_of_length_le (Nat.le_refl _)]at tz
     refine⟨_,rfl,kk f0 zs H9 (fun b o e=>s9 _ _ (fun z=>?_) (s68 _ _ e)) hf9 tz⟩
     rw[z,hfN]at e
     cases e
  ·rintro i zs H' hi ⟨s3,rfl⟩
   have hi':i<n:=by omega
   have e1:(plI n)[i]?=some (0+(i:Int)):=by rw[Int.zero_add];exact plI_at hi'
   have fs:=JH (fun p:Int=>decide (sett (n:Int) ars p.toNat=some true)) _ _ _ e1
   have ef:fS (WE (n:Int) ars) (0+(i:Int)).toNat=sett (n:Int) ars (0+(i:Int)).toNat:=by
    unfold WE
    rw[fS_map]
    rw[tn]
    omega
   refine⟨_,rfl,_,rfl,l1,_,_,_,rfl,rfl,SqL.of (s3 _ _ hl2),at_oV (by omega) (by omega),_,_,rfl,rfl,_,rfl,?_⟩
   rw[ef]
   have eb:(sett (n:Int) ars (0+(i:Int)).toNat==some true)=decide (sett (n:Int) ars (0+(i:Int)).toNat=some true):=by
    cases sett (n:Int) ars (0+(i:Int)).toNat with
    | none=>rfl
    | some b=>cases b <;> rfl
   rw[eb]
   refine ite2 (fun h2=>?_) (fun h2=>?_)
   ·refine ⟨_,rfl,nx hi ⟨s3,?_⟩⟩
    rw[fs,if_pos h2,List.map_append]
    rfl
   ·refine nx hi ⟨s3,?_⟩
    rw[fs,if_neg h2,List.append_nil]
end
end Hk
namespace Hk
open PySem L2 PySem.W
theorem side_ex{m:Int}{ars:List (Int×Int)}(ga:JE m ars)(no:¬ ∃s:Int,0≤s∧s<m∧Rc2 (ldF ars) s s 1)(m0:0≤m):∃ks:List Int,(ks.length:Int)=m∧SideP (grC (ldF ars) m.toNat) m.toNat ars ks:=by
 have ok:=QH ga
 have ex:∀p:Nat,∃k:Int,p<m.toNat→Rc2 (ldF ars) (lstF (grC (ldF ars) m.toNat) (p:Int)) (p:Int) k:=fun p=>by
  by_cases hp:p<m.toNat
  ·obtain ⟨_,a2,_⟩:=ok.lst hp
   obtain⟨_,r2⟩:=((ok.gr p hp).mem _).mp a2
   obtain⟨k,hk⟩:=r2.rc2
   exact⟨k,fun _=>hk⟩
  ·exact ⟨0,fun z=>absurd z hp⟩
 refine⟨(List.range m.toNat).map fun p=>Classical.choose (ex p),?_,?_⟩
 ·rw [List.length_map,List.length_range]
  omega
 ·refine Classical.byContradiction fun z=>no ?_
  refine walk_side ga ok ?_ (fun p hp=>?_) z
  ·rw [List.length_map,List.length_range]
   omega
  ·rw [List.getD_eq_getElem?_getD,List.getElem?_map,List.getElem?_range hp]
   exact Classical.choose_spec (ex p) hp
theorem ev_all{n:Nat}{ars:List (Int×Int)}(ga:JE (n:Int) ars)(st:Stc ars)(no:¬ ∃s:Int,0≤s∧s<(n:Int)∧Rc2 (ldF ars) s s 1):∀k,Hf (n:Int) ars (evH (n:Int) ars k)∧(Jf (n:Int) ars (evH (n:Int) ars k)=[]∨k≤(evH (n:Int) ars k).length)
 | 0=>⟨Hf.empty _ _,.inr (Nat.zero_le _)⟩
 | k + 1=>by
  obtain⟨hf,h⟩:=ev_all ga st no k
  by_cases c:Jf (n:Int) ars (evH (n:Int) ars k)=[]
  ·have e:evH (n:Int) ars (k + 1)=evH (n:Int) ars k:=ev_stay (by omega) hf.rise c
   rw[e]
   exact⟨hf,.inl c⟩
  ·have gs:JE ((Jf (n:Int) ars (evH (n:Int) ars k)).length:Int) (am (Jf (n:Int) ars (evH (n:Int) ars k)) ars):=(UO (Ys (by omega)).up st).good ga
   obtain⟨ks,ln,sp⟩:=side_ex gs (no_sub (by omega) st no) (by omega)
   rw[Int.toNat_natCast]at sp
   obtain⟨hf',lt⟩:=ev_step (by omega) ga st hf c (by omega) sp
   rcases h with h|h
   ·exact absurd h c
   ·exact ⟨hf',.inr (by show k + 1≤(evS (n:Int) ars (evH (n:Int) ars k)).length; omega)⟩
theorem hold_ex{n:Nat}{ars:List (Int×Int)}(ga:JE (n:Int) ars)(st:Stc ars)(no:¬ ∃s:Int,0≤s∧s<(n:Int)∧Rc2 (ldF ars) s s 1):∃S,S∈JI (n:Int) ars (2^n):=by
 obtain⟨hf,h⟩:=ev_all ga st no (n+1)
 have e:Jf (n:Int) ars (evH (n:Int) ars (n+1))=[]:=by
  rcases h with h|h
  ·exact h
  ·have:=hf.rise.len
   omega
 have hg:=hf.hold e
 rw[UZ hf.rise]at hg
 exact⟨_,YI.mpr ((WB hf.rise).mp hg)⟩
theorem odd_of{n:Nat}{ars:List (Int×Int)}(hf:∀p:Nat,∀b∈ldF ars p,0≤b∧b<(n:Nat)){R:List Int}(io:IsOR (ldF ars) n (some R)):∃s:Int,0≤s∧s<(n:Int)∧Rc2 (ldF ars) s s 1:=by
 obtain⟨i,e,_⟩:=io
 obtain⟨s,hs,e2⟩:=UX.mp (List.mem_of_getElem? e)
 have ow:=UV hf hs
 rw[e2]at ow
 have ow:OW (ldF ars) s R:=ow
 have w3:=(ow.gw.wk.step ow.ls).rc2
 have l1:=ow.gw.last.1
 have od:=ow.od
 rw[show(((R.length-1+1)%2:Nat):Int)=1 by omega]at w3
 exact⟨s,hs.1,by omega,w3⟩
theorem ringA_odd{m:Int}{ars:List (Int×Int)}(m40:m≤40){R:List Int}(h:RingG (ldF ars) R)(hr:∀x∈R,0≤x∧x<(m.toNat:Nat))(ln:R.length≤m.toNat):RingA ars R:=by
 refine⟨h.1,h.2.1,by omega,fun k hk x y hx hy=>?_⟩
 have e:=h.2.2 k hk x y hx hy
 have e:y∈ldI ars ((x.toNat:Nat):Int):=e
 rw[show((x.toNat:Nat):Int)=x by have:=hr x (List.mem_of_getElem? hx);omega]at e
 exact JW.mp e
theorem all_isI38(ks:List Int):(ks.map V.int).all isI=true:=List.all_eq_true.mpr fun x hx=>by
 obtain⟨n,_,rfl⟩:=List.mem_map.mp hx
 rfl
section
variable{P:Program}{w:World}{K:Frag}{mg:Str→Option Value}{base:Heap}
def spLaw(K:Frag):Sp:=fun vs H Q _=>∃(a:Addr)(ns:List Int),vs=[.ref a]∧SqL K H a (ns.map V.int)∧ns.length≤63∧∀H',Q (.bl true) H'
theorem ok_law{fl:Addr}{fd:FuncData}(F:Fun K "law" "law" Qp fl fd)(fr:Free mg ["sorted"])
  (kc:Kn P w K mg base 1 "_law_cell_at" ["script","k"] (spCell K)) (kp:Kn P w K mg base 1 "_law_pen_of" ["cell"] spPen) (kd:Kn P w K mg base 2 "_law_draw" ["pen","many"] spDraw) (kw:Kn P w K mg base 3 "_law_web_by" ["pen","most"] spWebByS)
  (ke:Kn P w K mg base 5 "_law_held" ["web"] WL) (kb:Kn P w K mg base 6 "_law_by_rest" ["web"] spByRest) (ko:Kn P w K mg base 2 "odd_ring" ["web"] spOR) (kr:Kn P w K mg base 4 "ring_good" ["web","thing"] spRgG) (ks:Kn P w K mg base 6 "sides_of" ["web"] Qi) (kg:Kn P w K mg base 5 "sides_good" ["web","thing"] spSideG) (kh:Kn P w K mg base 9 "hold_or_ring" ["web"] spHOR) :
  FnOk P w K mg base CX0 10 fl fd ["script"] (spLaw K):=by
 have sc:FnScope ["script","cell","pen","web","holds","ring","sides","word","thing"] ["script"] (Jl Qp):=⟨rfl,rfl,rfl,by decide +kernel,rfl,by decide +kernel,by decide +kernel⟩
 refine F.ok (N:=["script","cell","pen","web","holds","ring","sides","word","thing"]) sc (fun vs H Q E h=>?_) (fun cdv A outer s H vs Q E hr h=>?_)
 ·obtain ⟨a,ns,rfl,_⟩:=h
  rfl
 ·obtain ⟨a,ns,rfl,ha,hn,kk⟩:=h
  have hu:=YW hr
  have r1:=hr.mono (j:=1) (by decide)
  have r2:=hr.mono (j:=2) (by decide)
  have r3:=hr.mono (j:=3) (by decide)
  have r4:=hr.mono (j:=4) (by decide)
  have r5:=hr.mono (j:=5) (by decide)
  have r6:=hr.mono (j:=6) (by decide)
  have m_sorted:=fr "sorted" (by simp)
  refine⟨_,(Jd (Yi PassesOwn.never rfl (JR (JM op_cat (JZ (Ja (Jp kc r1 (Ja (pv 0) (Ja Ji Jc))) Jc)) (Ue sl_list (pv 0) (Ud Ji) (Ud Ji)))) (Jk (i:=1) sc.nd rfl (Or.inl rfl)) (Jd (Jn (i:=2) sc.nd rfl (Or.inl rfl) (Jp kp r1 (Ja (pv 1) Jc))) (Jd (Jn (i:=3) sc.nd rfl (Or.inl rfl) (Jp kw r3 (Ja (pv 2) (Ja (Jx JL (JZ (Ja Ji (Ja Ji (Ja Ji Jc)))) (Jp kd r2 (Ja (pv 2) (Ja Ji Jc))) (fun _ _=>rfl)) Jc)))) (Jd (Jn (i:=4) sc.nd rfl (Or.inl rfl) (Jp ke r5 (Ja (pv 3) Jc))) (Jd (JU (Js (op_neLT hu) (Jr ZZ rfl m_sorted Yn (Ja (Jp kb r6 (Ja (pv 3) Jc)) Jc)) (Jr ZZ rfl m_sorted Yn (Ja (pv 4) Jc)) (Jq _)) (Je (Jm JY)) Jy) (Jd (Jn (i:=5) sc.nd rfl (Or.inl rfl) (Jp ko r2 (Ja (pv 3) Jc))) (Jd (JU (PW.pt (Qu (PW.pt (ZS (Js (Qy (Nat.lt_of_succ_lt hu)) (pv 4) (JZ Jc) (Jq _)) (YX (Js op_isN (pv 5) YD (Jq _))))) (WS (PW.pt (ZS (Js Uh (pv 5) YD (Jq _)) (YX (Js op_isnotB (Jp kr r4 (Ja (pv 3) (Ja (pv 5) Jc))) JY (Jq _)))))))) (Je (Jm JY)) Jy) (Jd (Jn (i:=6) sc.nd rfl (Or.inl rfl) (Jp ks r6 (Ja (pv 3) Jc))) (Jd (JU (PW.pt (Qu (Js UL (Yf op_isN (pv 6) YD (Jq _)) (Yf Uh (pv 5) YD (Jq _)) (Jq _)) (WS (PW.pt (ZS (Js Uh (pv 6) YD (Jq _)) (YX (Js op_isnotB (Jp kg r5 (Ja (pv 3) (Ja (pv 6) Jc))) JY (Jq _)))))))) (Je (Jm JY)) Jy) (Jd (ps_asg (Jp kh hr (Ja (pv 3) Jc)) (YV (n:=2) rfl (Jz (Jk (i:=7) sc.nd rfl (Or.inl rfl)) (Jz (Jk (i:=8) sc.nd rfl (Or.inl rfl)) Yr)))) (Je (JU (PW.pt (Qu (Js UL (Yf ZI (pv 7) pe_str (Jq _)) (Yf Uh (pv 5) YD (Jq _)) (Jq _)) (WS (PW.pt (ZS (Js ZI (pv 7) pe_str (Jq _)) (YX (Js (op_notInTps hu) (pv 8) (pv 4) rfl))))))) (Je (Jm JY)) Jy)))))))))))) (Je (Jm JY))),?_⟩
  have c0:0≤sizeLine:=by decide
  have c1:1≤sizeLine:=by decide
  have c3:3≤sizeLine:=by decide
  refine⟨_,rfl,a,ns,0,rfl,ha,fun n0=>⟨c1,fun l1 hl1=>?_⟩⟩
  have ha3:SqL K _ a (ns.map V.int):=(Same.upd (o:=.lst [.int n0]) hl1).seq ha
  refine⟨_,rfl,1,rfl,3,rfl,a,_,rfl,ha3,fun l2 hl2=>?_⟩
  refine⟨l1,l2,_,_,rfl,rfl,Same.upd hl2 _ _ Jb,Jb,?_,fun M2 hM2=>?_⟩
  ·have:=Wv (ns.map V.int) (some 1) (some 3)
   rw[List.length_map]at this
   show 1+_≤sizeLine
   exact Nat.le_of_lt (Jj (by omega))
  have allInt:∀v∈[V.int n0]++cutV (ns.map V.int) (some 1) (some 3),∃n:Int,v=.int n:=by
   intro v hv
   rcases List.mem_append.mp hv with z|z
   ·exact ⟨n0,by simpa using z⟩
   ·unfold cutV at z
    obtain⟨n,_,rfl⟩:=List.mem_map.mp (List.mem_of_mem_drop (List.mem_of_mem_take z))
    exact⟨n,rfl⟩
  have hM3:(upd (upd (upd H l1 (.lst [.int n0])) l2 (.lst (cutV (ns.map V.int) (some 1) (some 3)))) M2 (.lst ([V.int n0]++cutV (ns.map V.int) (some 1) (some 3)))) M2=some (.lst ([V.int n0]++cutV (ns.map V.int) (some 1) (some 3))):=Jb
  generalize upd (upd (upd H l1 (.lst [.int n0])) l2 (.lst (cutV (ns.map V.int) (some 1) (some 3)))) M2 (.lst ([V.int n0]++cutV (ns.map V.int) (some 1) (some 3)))=HF at hM3
  generalize [V.int n0]++cutV (ns.map V.int) (some 1) (some 3)=CS at hM3 allInt
  refine⟨M2,rfl,⟨_,SqL.of hM3⟩,YO (K:=K) (xs:=CS) (fun i σ H3=>∃v1 v2 v3 v4 v5 v6 v7 v8:Option V,σ=[some (.ref a),v1,v2,v3,v4,v5,v6,v7,v8]∧Same HF H3) ⟨_,_,_,_,_,_,_,_,rfl,Same.refl _⟩ (fun i σ H2 _ ⟨_,_,_,_,_,_,_,_,_,s2⟩=>SqL.of (s2 _ _ hM3)) ?_ ?_⟩
  ·rintro ii y σ H7 hi ⟨v1,v2,v3,v4,v5,v6,v7,v8,rfl,s7⟩
   obtain⟨n0,rfl⟩:=allInt y (List.mem_of_getElem? hi)
   have pick:∀r:Int,0≤r→r<3→∃most:Int,1≤most∧most≤8∧atI [V.int 3,V.int 6,V.int 8] r=some (.int most):=fun r h0 h4=>by
    rcases(show r=0∨r=1∨r=2 by omega)with rfl|rfl|rfl
    ·exact ⟨3,by decide,by decide,rfl⟩
    ·exact ⟨6,by decide,by decide,rfl⟩
    ·exact ⟨8,by decide,by decide,rfl⟩
   refine⟨_,rfl,n0,rfl,fun p H8 s8 hp7 hp8=>?_⟩
   refine Jo ?_
   dsimp only[List.set]
   have hFp:HF p=none:=Ya s7 hp7
   refine⟨_,rfl,c3,fun q hq=>⟨_,rfl,p,3,rfl,PenAt.mono (Same.upd hq) hp8,by decide,by decide,fun z H9 z0 z3 s9 hp9=>?_⟩⟩
   have hq9:H9 q=some (.lst [.int 3,.int 6,.int 8]):=s9 _ _ (newp hp8 hq) Jb
   obtain⟨most,g1',g2',ea⟩:=pick z z0 z3
   refine⟨q,_,z,.int most,rfl,rfl,SqL.of hq9,ea,p,most,rfl,hp9,g1',by omega,fun wa t m us ars H10 s10 hp10 W m1 mm ga l200 st=>?_⟩
   have s89:SameBut p H8 H10:=((Same.upd (o:=.lst [.int 3,.int 6,.int 8]) hq).but.trans s9).trans s10
   have f10:Same HF H10:=fun b o e=>s89 _ _ (fun u=>by rw[u,hFp]at e;cases e) ((s7.trans s8) _ _ e)
   obtain⟨n,rfl⟩:∃n:Nat,m=(n:Int):=⟨m.toNat,by omega⟩
   have st:Stc ars:=st
   refine Jo ?_
   dsimp only[List.set]
   have tn:((n:Nat):Int).toNat=n:=Int.toNat_natCast n
   have n1:1≤n:=by omega
   have p12:2^n≤4096:=Nat.le_trans (Nat.pow_le_pow_right (by decide) (show n≤12 by omega)) (by decide)
   -- holds
   refine⟨_,rfl,wa,t,(n:Int),us,ars,rfl,W,by omega,fun lh wh H11 s11 hlN hl11 tp11=>?_⟩
   rw[tn]at tp11
   refine Jo ?_
   dsimp only[List.set]
   have hL:=Wu (n:Int) ars (2^n)
   have lwh:=tp11.len
   -- sorted(_law_by_rest(web)) != sorted(holds)
   refine⟨_,rfl,wa,t,n,us,ars,rfl,W.mono s11,l200,ga,st,by omega,fun lb wb H12 s12 hb12 tb=>?_⟩
   have bm:∀S,S∈brL n ars↔S∈JI (n:Int) ars (2^n):=fun S=>brL_mem ga st
   have lbr:wb.length≤4096:=by
    have e1:=tb.len
    have e2:=((List.perm_ext_iff_of_nodup brL_nodup (by have:=ZC (n:Int) ars;rw[tn]at this;exact this)).mpr bm).length_eq
    omega
   refine⟨lb,wb,brL n ars,rfl,hb12,tb,fun S hS=>hold_ne n1 (YI.mp ((bm S).mp hS)),by omega,fun D1 w1 L1 H13 s13 hD1N hD1 t1 pm1 ri1=>?_⟩
   have s123:=s12.trans s13
   refine⟨_,rfl,lh,wh,JI (n:Int) ars (2^n),rfl,s123 _ _ hl11,tp11.mono s123,fun S hS=>hold_ne n1 (YI.mp hS),by omega,fun D2 w2 L2 H14 s14 hD2N hD2 t2 pm2 ri2=>?_⟩
   have eL:L2=L1:=by
    have nd:=ZC (n:Int) ars
    rw[tn]at nd
    refine StcL.uniq (Wl ri2 (pm2.nodup_iff.mpr nd)) (Wl ri1 (pm1.nodup_iff.mpr brL_nodup)) fun S=>?_
    rw[pm2.mem_iff,pm1.mem_iff]
    exact(bm S).symm
   subst eL
   refine⟨D1,D2,w1,w2,L2,rfl,rfl,s14 _ _ hD1,hD2,tpiM t1 s14,t2,_,rfl,iteF ?_⟩
   have s1114:=s123.trans s14
   have W14:=W.mono (s11.trans s1114)
   have hl14:=s1114 _ _ hl11
   have tp14:=tp11.mono s1114
   have f14:=f10.trans (s11.trans s1114)
   -- ring
   refine⟨_,rfl,wa,t,(n:Int),us,ars,rfl,W14,ga,by omega,by omega,fun o v H15 s15 io hv=>?_⟩
   rw[tn]at io
   refine Jo ?_
   dsimp only[List.set]
   have hfg:∀q:Nat,∀b∈ldF ars q,(0≤b∧b<(n:Nat))∧b≠(q:Int):=fun q b hb=>by
    have:=ZM ga q b hb
    rw[tn]at this
    exact this
   have ok:=io.ok hfg
   have gok:GrOk (ldF ars) ((n:Nat):Int).toNat (grC (ldF ars) ((n:Nat):Int).toNat):=QH ga
   have W15:=W14.mono s15
   have hl15:=s15 _ _ hl14
   have tp15:=tp14.mono s15
   have f15:=f14.trans s15
   cases o with
   | none =>
    have hv:v=.non:=hv
    subst hv
    have no:¬ ∃s:Int,0≤s∧s<(n:Int)∧Rc2 (ldF ars) s s 1:=ok
    obtain⟨S0,hS0⟩:=hold_ex ga st no
    have wne:wh.isEmpty=false:=by
     cases wh with
     | nil =>
      rw[List.length_eq_zero_iff.mp lwh.symm]at hS0
      cases hS0
     | cons _ _=>rfl
    refine⟨_,rfl,c0,fun z hz=>⟨lh,z,_,rfl,rfl,SqL.of (Same.upd hz _ _ hl15),SqL.of Jb,_,rfl,?_⟩⟩
    rw[wne]
    have sz:=Same.upd (o:=.lst []) hz
    refine iteF (iteF ?_)
    refine⟨_,rfl,rfl,_,rfl,iteF (iteF ?_)⟩
    have W16:=W15.mono sz
    have hl16:=sz _ _ hl15
    have tp16:=tp15.mono sz
    have f16:=f15.trans sz
    generalize upd H15 z (.lst [])=H16 at sz W16 hl16 tp16 f16
    -- sides
    refine⟨_,rfl,wa,t,(n:Int),us,ars,_,rfl,W16,ga,by omega,by omega,gok,fun z=>absurd z no,fun qs ks H17 s17 hqs lk sp=>?_⟩
    refine Jo ?_
    dsimp only[List.set]
    refine⟨_,rfl,rfl,_,rfl,rfl,rfl,_,rfl,iteF ?_⟩
    refine⟨_,rfl,rfl,_,rfl,iteT ?_⟩
    have lk':(ks.map V.int).length≤1000:=by rw[List.length_map];omega
    refine⟨_,rfl,_,rfl,wa,t,(n:Int),us,ars,_,.ref qs,some (ks.map V.int),rfl,W16.mono s17,ga,by omega,by omega,gok,Wb hqs (by omega),(fun ys e=>by cases e;exact lk'),fun b H18 s18 hb=>?_⟩
    have eb:b=true:=hb.mpr ⟨_,rfl,by rw[List.length_map];exact lk,all_isI38 ks,by rw[Yt];exact sp⟩
    subst eb
    refine⟨_,_,rfl,rfl,_,rfl,iteF ?_⟩
    have s178:=s17.trans s18
    have W18:=W16.mono s178
    -- word,thing
    refine⟨_,rfl,wa,t,(n:Int),us,ars,rfl,W18,l200,ga,st,by omega,by omega,fun o' wd q2 r hns H19 s19 io' hr19 hq19 cs=>?_⟩
    rw[tn]at io' cs
    obtain rfl:=io.uniq io'
    rcases cs with⟨_,rfl,en,rs,hg⟩|⟨z,_⟩
    case inr=>cases z
    refine⟨r,_,rfl,SqT.of hr19,rfl,_,_,rfl,_,_,rfl,rfl,?_⟩
    have s189:=s178.trans s19
    refine⟨_,rfl,rfl,_,rfl,rfl,rfl,_,rfl,iteF ?_⟩
    refine⟨_,rfl,rfl,_,rfl,iteT ?_⟩
    refine⟨_,rfl,_,rfl,q2,lh,hns,wh,_,rfl,rfl,hq19,s189 _ _ hl16,tp16.mono s189,_,rfl,?_⟩
    have hin:hns∈JI (n:Int) ars (2^n):=by
     rw[UZ rs]at hg
     exact YI.mpr ((WB rs).mp hg)
    show if (!decide (hns∈JI (n:Int) ars (2^n)))=true then _ else _
    rw[decide_eq_true hin]
    exact iteF ⟨_,_,_,_,_,_,_,_,rfl,f16.trans s189⟩
   | some R =>
    obtain⟨qr,rfl,hqr⟩:=hv
    have od:=odd_of (fun p b hb=>(hfg p b hb).1) io
    obtain⟨g1,g2,g3,g4⟩:=ok
    have rA:RingA ars R:=ringA_odd (m:=(n:Int)) (by omega) g1 (by rw[tn];exact g2) (by rw[tn];exact g3)
    refine seq_invRt (a:=tIfS _ _ _) (fun σ H'=>σ=[some (.ref a),some (.int n0),some (.ref p),some (.ref wa),some (.ref lh),some (.ref qr),v6,v7,v8]∧Same H15 H') (fun D' _ nx1=>?_) ?_
    ·refine ⟨_,rfl,c0,fun z hz=>⟨lh,z,_,rfl,rfl,SqL.of (Same.upd hz _ _ hl15),SqL.of Jb,_,rfl,?_⟩⟩
     have sz:=Same.upd (o:=.lst []) hz
     have W16:=W15.mono sz
     have hqr16:=sz _ _ hqr
     generalize upd H15 z (.lst [])=H16 at sz W16 hqr16
     refine ite2 (fun c=>?_) (fun c=>?_)
     ·refine ⟨_,rfl,rfl,_,rfl,iteF ?_⟩
      refine⟨_,rfl,rfl,_,rfl,iteT ?_⟩
      refine⟨_,rfl,_,rfl,wa,t,qr,(n:Int),us,ars,R,rfl,W16,ga,hqr16,rA,fun H17 s17=>⟨_,_,rfl,rfl,_,rfl,iteF (nx1 _ _ ⟨rfl,sz.trans s17⟩)⟩⟩
     ·refine iteF ?_
      refine⟨_,rfl,rfl,_,rfl,iteT ?_⟩
      refine⟨_,rfl,_,rfl,wa,t,qr,(n:Int),us,ars,R,rfl,W16,ga,hqr16,rA,fun H17 s17=>⟨_,_,rfl,rfl,_,rfl,iteF (nx1 _ _ ⟨rfl,sz.trans s17⟩)⟩⟩
    rintro σ H17 ⟨rfl,s17⟩
    have W17:=W15.mono s17
    -- sides
    refine⟨_,rfl,wa,t,(n:Int),us,ars,_,rfl,W17,ga,by omega,by omega,gok,fun _ H18 s18=>?_,fun qs ks H18 s18 hqs lk sp=>?_⟩
    ·refine Jo ?_
     dsimp only[List.set]
     refine⟨_,rfl,rfl,_,rfl,rfl,rfl,_,rfl,iteF ?_⟩
     refine⟨_,rfl,rfl,_,rfl,iteF (iteF ?_)⟩
     -- word,thing
     refine⟨_,rfl,wa,t,(n:Int),us,ars,rfl,W17.mono s18,l200,ga,st,by omega,by omega,fun o' wd q2 r hns H19 s19 io' hr19 hq19 cs=>?_⟩
     rw[tn]at io' cs
     obtain rfl:=io.uniq io'
     rcases cs with⟨z,_⟩|⟨_,rfl⟩
     ·cases z
     refine⟨r,_,rfl,SqT.of hr19,rfl,_,_,rfl,_,_,rfl,rfl,?_⟩
     refine⟨_,rfl,rfl,_,rfl,rfl,rfl,_,rfl,iteF ?_⟩
     refine⟨_,rfl,rfl,_,rfl,iteF (iteF ?_)⟩
     exact⟨_,_,_,_,_,_,_,_,rfl,f15.trans (s17.trans (s18.trans s19))⟩
    ·obtain ⟨s0,h0,h1,r0⟩:=od
     exact absurd r0 (side_even ga gok sp lk ⟨h0,h1⟩)
  ·rintro σ H3 ⟨v1,v2,v3,v4,v5,v6,v7,v8,rfl,s3⟩
   exact kk H3
end
end Hk
namespace Hk
open PySem L2
structure DF(K:PySem.W.Frag)(x:Str)(st:Stmt):Prop where
 ex:∃(f:Addr)(oc:Value)(od an:Option Addr)(osl:Array (Option Value))(kV doc pm cdv ct:Value),PySem.W.nsIn K mainGlobals x=some (some (.ref f)) ∧
  K.lookup f=some ⟨oc,od,.func (PySem.W.fnOf x x (Zt st) (YJ st) (Jl st) .none kV doc pm an cdv ct),osl⟩∧PySem.W.codeIn K cdv x=true∧PySem.W.keepIn K (.ref f)=true
theorem DF.of{K:PySem.W.Frag}{x:Str}{st:Stmt}{f:Addr}{oc:Value}{od an:Option Addr}{osl:Array (Option Value)}{kV doc pm cdv ct:Value}(a:PySem.W.nsIn K mainGlobals x=some (some (.ref f)))
  (l:K.lookup f=some ⟨oc,od,.func (PySem.W.fnOf x x (Zt st) (YJ st) (Jl st) .none kV doc pm an cdv ct),osl⟩) (c:PySem.W.codeIn K cdv x=true) (k:PySem.W.keepIn K (.ref f)=true):DF K x st:=⟨⟨f,oc,od,an,osl,kV,doc,pm,cdv,ct,a,l,c,k⟩⟩
theorem DF.at{K:PySem.W.Frag}{h:Heap}{mg:Str→Option Value}{x:Str}{st:Stmt}{ps:List Str}(D:DF K x st)(X:K.In h)(G:h.Ns mainGlobals mg)
  (hb:∀(kV doc pm:Value)(an:Option Addr)(cdv ct:Value)(us:List Value),us.length=ps.length→bindArgs (PySem.W.fnOf x x (Zt st) (YJ st) (Jl st) .none kV doc pm an cdv ct) ⟨us,[]⟩=pure (ps.zip us)):DefAt K mg x st ps:=by
 obtain⟨f,oc,od,an,osl,kV,doc,pm,cdv,ct,a,l,c,k⟩:=D.ex
 exact⟨f,_,fun_mk l c k,PySem.W.mg_of X G a,(fun_mk l c k).binds hb⟩
theorem all_mk{P:Program}{w:World}{K:PySem.W.Frag}{h:Heap}{mg:Str→Option Value}{fa:Addr}(X:K.In h)(G:h.Ns mainGlobals mg)(hfa:mg "law"=some (.ref fa))
  (d0:DF K "whole_good" Ua) (d1:DF K "place_good" Ub) (d2:DF K "rises" s_rises) (d3:DF K "places_good" WF) (d4:DF K "all_leads" Wj) (d5:DF K "among_web" Wi) (d6:DF K "unlike_places" YR) (d7:DF K "ring_good" Wd) (d8:DF K "come_places" Zy) (d9:DF K "groups_of" Wh) (d10:DF K "marked" We) (d12:DF K "tied_arrows" Zu) (d13:DF K "lost_places" Zv) (d14:DF K "hold_good" Wf) (d15:DF K "half_good" Wg) (d16:DF K "refuse_no_half" Yz) (d17:DF K "left_by" Ux) (d18:DF K "odd_way_back" Zh) (d19:DF K "odd_ring" WN) (d20:DF K "least_places" Zi) (d21:DF K "group_arrows" Zl) (d22:DF K "sides_good" ZO) (d23:DF K "walked_sides" Zg) (d24:DF K "sides_of" WM) (d25:DF K "bottom_places" YT) (d26:DF K "bottom_half" Zz) (d27:DF K "hold_of_even" Zk) (d28:DF K "hold_or_ring" Zj) (d29:DF K "settled_by" ZP) (d30:DF K "settled_marks" YS) (d31:DF K "rest_of" Uw) (d32:DF K "_law_cell_at" Zw) (d33:DF K "_law_next" WO) (d34:DF K "_law_pen_of" ZR) (d35:DF K "_law_draw" WQ) (d36:DF K "_law_web_by" ZQ) (d37:DF K "_law_held" WP) (d38:DF K "_law_by_rest" Zx) (d39:DF K "law" Qp)
  (z0:PySem.W.nsIn K mainGlobals "all"=some none) (z1:PySem.W.nsIn K mainGlobals "any"=some none) (z2:PySem.W.nsIn K mainGlobals "bool"=some none) (z3:PySem.W.nsIn K mainGlobals "dict"=some none) (z4:PySem.W.nsIn K mainGlobals "enumerate"=some none) (z5:PySem.W.nsIn K mainGlobals "int"=some none) (z6:PySem.W.nsIn K mainGlobals "isinstance"=some none) (z7:PySem.W.nsIn K mainGlobals "len"=some none) (z8:PySem.W.nsIn K mainGlobals "list"=some none) (z9:PySem.W.nsIn K mainGlobals "max"=some none) (z10:PySem.W.nsIn K mainGlobals "min"=some none) (z11:PySem.W.nsIn K mainGlobals "range"=some none) (z12:PySem.W.nsIn K mainGlobals "set"=some none) (z13:PySem.W.nsIn K mainGlobals "sorted"=some none) (z14:PySem.W.nsIn K mainGlobals "tuple"=some none) (z15:PySem.W.nsIn K mainGlobals "zip"=some none) :
  ∃fd:FuncData,(∀(s:Shared)(v:Value),BindsTo s fd ⟨[v],[]⟩ [("script",v)])∧∀base:Heap,K.In base→base.Ns mainGlobals mg→FnOk P w K mg base CX0 10 fa fd ["script"] (spLaw K):=by
 have D0:=d0.at (ps:=["thing"]) X G fun _ _ _ _ _ _ us hl=>match us,hl with|[_],_=>rfl
 have D1:=d1.at (ps:=["web","thing"]) X G fun _ _ _ _ _ _ us hl=>match us,hl with|[_,_],_=>rfl
 have D2:=d2.at (ps:=["things"]) X G fun _ _ _ _ _ _ us hl=>match us,hl with|[_],_=>rfl
 have D3:=d3.at (ps:=["web","thing"]) X G fun _ _ _ _ _ _ us hl=>match us,hl with|[_,_],_=>rfl
 have D4:=d4.at (ps:=["web"]) X G fun _ _ _ _ _ _ us hl=>match us,hl with|[_],_=>rfl
 have D5:=d5.at (ps:=["web","places"]) X G fun _ _ _ _ _ _ us hl=>match us,hl with|[_,_],_=>rfl
 have D6:=d6.at (ps:=["web","thing"]) X G fun _ _ _ _ _ _ us hl=>match us,hl with|[_,_],_=>rfl
 have D7:=d7.at (ps:=["web","thing"]) X G fun _ _ _ _ _ _ us hl=>match us,hl with|[_,_],_=>rfl
 have D8:=d8.at (ps:=["leads","place"]) X G fun _ _ _ _ _ _ us hl=>match us,hl with|[_,_],_=>rfl
 have D9:=d9.at (ps:=["web"]) X G fun _ _ _ _ _ _ us hl=>match us,hl with|[_],_=>rfl
 have D10:=d10.at (ps:=["places"]) X G fun _ _ _ _ _ _ us hl=>match us,hl with|[_],_=>rfl
 have D12:=d12.at (ps:=["web","places"]) X G fun _ _ _ _ _ _ us hl=>match us,hl with|[_,_],_=>rfl
 have D13:=d13.at (ps:=["web","places"]) X G fun _ _ _ _ _ _ us hl=>match us,hl with|[_,_],_=>rfl
 have D14:=d14.at (ps:=["web","thing"]) X G fun _ _ _ _ _ _ us hl=>match us,hl with|[_,_],_=>rfl
 have D15:=d15.at (ps:=["web","thing"]) X G fun _ _ _ _ _ _ us hl=>match us,hl with|[_,_],_=>rfl
 have D16:=d16.at (ps:=["web","thing"]) X G fun _ _ _ _ _ _ us hl=>match us,hl with|[_,_],_=>rfl
 have D17:=d17.at (ps:=["web","half"]) X G fun _ _ _ _ _ _ us hl=>match us,hl with|[_,_],_=>rfl
 have D18:=d18.at (ps:=["leads","start"]) X G fun _ _ _ _ _ _ us hl=>match us,hl with|[_,_],_=>rfl
 have D19:=d19.at (ps:=["web"]) X G fun _ _ _ _ _ _ us hl=>match us,hl with|[_],_=>rfl
 have D20:=d20.at (ps:=["web"]) X G fun _ _ _ _ _ _ us hl=>match us,hl with|[_],_=>rfl
 have D21:=d21.at (ps:=["web"]) X G fun _ _ _ _ _ _ us hl=>match us,hl with|[_],_=>rfl
 have D22:=d22.at (ps:=["web","thing"]) X G fun _ _ _ _ _ _ us hl=>match us,hl with|[_,_],_=>rfl
 have D23:=d23.at (ps:=["web"]) X G fun _ _ _ _ _ _ us hl=>match us,hl with|[_],_=>rfl
 have D24:=d24.at (ps:=["web"]) X G fun _ _ _ _ _ _ us hl=>match us,hl with|[_],_=>rfl
 have D25:=d25.at (ps:=["web"]) X G fun _ _ _ _ _ _ us hl=>match us,hl with|[_],_=>rfl
 have D26:=d26.at (ps:=["web"]) X G fun _ _ _ _ _ _ us hl=>match us,hl with|[_],_=>rfl
 have D27:=d27.at (ps:=["web"]) X G fun _ _ _ _ _ _ us hl=>match us,hl with|[_],_=>rfl
 have D28:=d28.at (ps:=["web"]) X G fun _ _ _ _ _ _ us hl=>match us,hl with|[_],_=>rfl
 have D29:=d29.at (ps:=["settled","beneath"]) X G fun _ _ _ _ _ _ us hl=>match us,hl with|[_,_],_=>rfl
 have D30:=d30.at (ps:=["web"]) X G fun _ _ _ _ _ _ us hl=>match us,hl with|[_],_=>rfl
 have D31:=d31.at (ps:=["web"]) X G fun _ _ _ _ _ _ us hl=>match us,hl with|[_],_=>rfl
 have D32:=d32.at (ps:=["script","k"]) X G fun _ _ _ _ _ _ us hl=>match us,hl with|[_,_],_=>rfl
 have D33:=d33.at (ps:=["seed"]) X G fun _ _ _ _ _ _ us hl=>match us,hl with|[_],_=>rfl
 have D34:=d34.at (ps:=["cell"]) X G fun _ _ _ _ _ _ us hl=>match us,hl with|[_],_=>rfl
 have D35:=d35.at (ps:=["pen","many"]) X G fun _ _ _ _ _ _ us hl=>match us,hl with|[_,_],_=>rfl
 have D36:=d36.at (ps:=["pen","most"]) X G fun _ _ _ _ _ _ us hl=>match us,hl with|[_,_],_=>rfl
 have D37:=d37.at (ps:=["web"]) X G fun _ _ _ _ _ _ us hl=>match us,hl with|[_],_=>rfl
 have D38:=d38.at (ps:=["web"]) X G fun _ _ _ _ _ _ us hl=>match us,hl with|[_],_=>rfl
 obtain⟨f,oc,od,an,osl,kV,doc,pm,cdv,ct,a,l,c,k⟩:=d39.ex
 have e:=hfa.symm.trans (PySem.W.mg_of X G a)
 cases e
 have F:=fun_mk (st:=Qp) l c k
 have y0:=PySem.W.mg_none_of X G z0
 have y1:=PySem.W.mg_none_of X G z1
 have y2:=PySem.W.mg_none_of X G z2
 have y3:=PySem.W.mg_none_of X G z3
 have y4:=PySem.W.mg_none_of X G z4
 have y5:=PySem.W.mg_none_of X G z5
 have y6:=PySem.W.mg_none_of X G z6
 have y7:=PySem.W.mg_none_of X G z7
 have y8:=PySem.W.mg_none_of X G z8
 have y9:=PySem.W.mg_none_of X G z9
 have y10:=PySem.W.mg_none_of X G z10
 have y11:=PySem.W.mg_none_of X G z11
 have y12:=PySem.W.mg_none_of X G z12
 have y13:=PySem.W.mg_none_of X G z13
 have y14:=PySem.W.mg_none_of X G z14
 have y15:=PySem.W.mg_none_of X G z15
 refine⟨PySem.W.fnOf "law" "law" (Zt Qp) (YJ Qp) (Jl Qp) .none kV doc pm an cdv ct,fun s v=>.of_eq rfl,fun base _ _=>?_⟩
 have K0:=kn_whole (P:=P) (w:=w) (base:=base) D0 (fun z hz=>by
   simp only[List.mem_cons,List.not_mem_nil,or_false]at hz
   rcases hz with rfl|rfl|rfl
   ·exact y6
   ·exact y5
   ·exact y2) 
 have K1:=kn_place (P:=P) (w:=w) (base:=base) D1  K0
 have K2:=kn_rises (P:=P) (w:=w) (base:=base) D2 (fun z hz=>by
   simp only[List.mem_cons,List.not_mem_nil,or_false]at hz
   rcases hz with rfl|rfl
   ·exact y0
   ·exact y15) 
 have K3:=kn_places (P:=P) (w:=w) (base:=base) D3 (fun z hz=>by
   simp only[List.mem_cons,List.not_mem_nil,or_false]at hz
   rcases hz with rfl|rfl|rfl
   ·exact y6
   ·exact y14
   ·exact y0) K1 K2
 have K4:=kn_allleads (P:=P) (w:=w) (base:=base) D4 (fun z hz=>by
   simp only[List.mem_cons,List.not_mem_nil,or_false]at hz
   rcases hz with rfl
   ·exact y11) 
 have K5:=kn_among (P:=P) (w:=w) (base:=base) D5 (fun z hz=>by
   simp only[List.mem_cons,List.not_mem_nil,or_false]at hz
   rcases hz with rfl|rfl|rfl
   ·exact y4
   ·exact y7
   ·exact y14) 
 have K6:=kn_unl (P:=P) (w:=w) (base:=base) D6 (fun z hz=>by
   simp only[List.mem_cons,List.not_mem_nil,or_false]at hz
   rcases hz with rfl|rfl|rfl|rfl|rfl
   ·exact y0
   ·exact y6
   ·exact y7
   ·exact y12
   ·exact y14) K1
 have K7:=kn_rgg (P:=P) (w:=w) (base:=base) D7 (fun z hz=>by
   simp only[List.mem_cons,List.not_mem_nil,or_false]at hz
   rcases hz with rfl|rfl|rfl
   ·exact y0
   ·exact y7
   ·exact y15) K6
 have K8:=kn_come (P:=P) (w:=w) (base:=base) D8  
 have K9:=kn_groups (P:=P) (w:=w) (base:=base) D9 (fun z hz=>by
   simp only[List.mem_cons,List.not_mem_nil,or_false]at hz
   rcases hz with rfl|rfl|rfl|rfl
   ·exact y4
   ·exact y11
   ·exact y13
   ·exact y14) K4 K8
 have K10:=kn_marked (P:=P) (w:=w) (base:=base) D10  
 have K11:=kn_markedL (P:=P) (w:=w) (base:=base) D10  
 have K12:=kn_tied (P:=P) (w:=w) (base:=base) D12  K10
 have K13:=kn_lost (P:=P) (w:=w) (base:=base) D13 (fun z hz=>by
   simp only[List.mem_cons,List.not_mem_nil,or_false]at hz
   rcases hz with rfl|rfl
   ·exact y3
   ·exact y11) K10
 have K14:=kn_hold (P:=P) (w:=w) (base:=base) D14  K3 K12 K13
 have K15:=kn_half (P:=P) (w:=w) (base:=base) D15 (fun z hz=>by
   simp only[List.mem_cons,List.not_mem_nil,or_false]at hz
   rcases hz with rfl
   ·exact y1) K3 K12 K13 K10 K11
 have K16:=kn_refH0 (P:=P) (w:=w) (base:=base) D16  K15
 have K17:=kn_left0 (P:=P) (w:=w) (base:=base) D17 (fun z hz=>by
   simp only[List.mem_cons,List.not_mem_nil,or_false]at hz
   rcases hz with rfl
   ·exact y14) K16 K13
 have K18:=kn_owb (P:=P) (w:=w) (base:=base) D18 (fun z hz=>by
   simp only[List.mem_cons,List.not_mem_nil,or_false]at hz
   rcases hz with rfl
   ·exact y7) 
 have K19:=kn_oring (P:=P) (w:=w) (base:=base) D19 (fun z hz=>by
   simp only[List.mem_cons,List.not_mem_nil,or_false]at hz
   rcases hz with rfl|rfl|rfl
   ·exact y7
   ·exact y10
   ·exact y11) K4 K18
 have K20:=kn_leastp (P:=P) (w:=w) (base:=base) D20 (fun z hz=>by
   simp only[List.mem_cons,List.not_mem_nil,or_false]at hz
   rcases hz with rfl
   ·exact y11) K9
 have K21:=kn_garr (P:=P) (w:=w) (base:=base) D21  K20
 have K22:=kn_sideG (P:=P) (w:=w) (base:=base) D22 (fun z hz=>by
   simp only[List.mem_cons,List.not_mem_nil,or_false]at hz
   rcases hz with rfl|rfl|rfl|rfl|rfl
   ·exact y0
   ·exact y1
   ·exact y6
   ·exact y7
   ·exact y14) K0 K9 K21
 have K23:=kn_walk (P:=P) (w:=w) (base:=base) D23 (fun z hz=>by
   simp only[List.mem_cons,List.not_mem_nil,or_false]at hz
   rcases hz with rfl|rfl
   ·exact y11
   ·exact y14) K4 K9 K21
 have K24:=kn_sidesE (P:=P) (w:=w) (base:=base) D24  K23 K22
 have K25:=kn_botP (P:=P) (w:=w) (base:=base) D25 (fun z hz=>by
   simp only[List.mem_cons,List.not_mem_nil,or_false]at hz
   rcases hz with rfl
   ·exact y11) K20 K11
 have K26:=kn_botH (P:=P) (w:=w) (base:=base) D26  K24 K25
 have K27:=kn_heven (P:=P) (w:=w) (base:=base) D27 (fun z hz=>by
   simp only[List.mem_cons,List.not_mem_nil,or_false]at hz
   rcases hz with rfl|rfl
   ·exact y13
   ·exact y14) K17 K26 K5
 have K28:=kn_hor (P:=P) (w:=w) (base:=base) D28  K19 K27
 have K29:=kn_stb (P:=P) (w:=w) (base:=base) D29 (fun z hz=>by
   simp only[List.mem_cons,List.not_mem_nil,or_false]at hz
   rcases hz with rfl|rfl
   ·exact y1
   ·exact y0) 
 have K30:=kn_settled (P:=P) (w:=w) (base:=base) D30 (fun z hz=>by
   simp only[List.mem_cons,List.not_mem_nil,or_false]at hz
   rcases hz with rfl
   ·exact y11) K4 K29
 have K31:=kn_rest (P:=P) (w:=w) (base:=base) D31 (fun z hz=>by
   simp only[List.mem_cons,List.not_mem_nil,or_false]at hz
   rcases hz with rfl|rfl
   ·exact y14
   ·exact y4) K30
 have K32:=kn_cell (P:=P) (w:=w) (base:=base) D32 (fun z hz=>by
   simp only[List.mem_cons,List.not_mem_nil,or_false]at hz
   rcases hz with rfl
   ·exact y7) 
 have K33:=kn_next (P:=P) (w:=w) (base:=base) D33  
 have K34:=kn_pen (P:=P) (w:=w) (base:=base) D34 (fun z hz=>by
   simp only[List.mem_cons,List.not_mem_nil,or_false]at hz
   rcases hz with rfl|rfl
   ·exact y9
   ·exact y5) 
 have K35:=kn_draw (P:=P) (w:=w) (base:=base) D35  K33
 have K36:=kn_webby2S (P:=P) (w:=w) (base:=base) D36 (fun z hz=>by
   simp only[List.mem_cons,List.not_mem_nil,or_false]at hz
   rcases hz with rfl|rfl|rfl|rfl|rfl|rfl
   ·exact y11
   ·exact y14
   ·exact y13
   ·exact y8
   ·exact y10
   ·exact y9) K35
 have K37:=kn_allholds (P:=P) (w:=w) (base:=base) D37 (fun z hz=>by
   simp only[List.mem_cons,List.not_mem_nil,or_false]at hz
   rcases hz with rfl|rfl
   ·exact y11
   ·exact y14) K14
 have K38:=kn_byrest (P:=P) (w:=w) (base:=base) D38 (fun z hz=>by
   simp only[List.mem_cons,List.not_mem_nil,or_false]at hz
   rcases hz with rfl|rfl|rfl
   ·exact y11
   ·exact y13
   ·exact y14) K30 K31 K37 K5
 exact ok_law F (fun z hz=>by
   simp only[List.mem_cons,List.not_mem_nil,or_false]at hz
   rcases hz with rfl
   ·exact y13) K32 K34 K35 K36 K37 K38 K19 K7 K24 K22 K28
theorem walk{l:PySem.W.OpenLaw}{q:Program}{loose:List Str}{XP:(Str→Option Value)→Heap→Prop}{YP:World→Heap→Prop}{d:DefRec}{K:Params→PySem.W.Frag}(hn:l.most=some 63)(hdf:d.params.defaults=[])
  (hY:∀(w:World)(h:Heap),YP w h→(K w.params).In h)
  (F:∀ (w:World) (mg:Str→Option Value) (fa:Addr) (h:Heap),(K w.params).In h→h.Ns mainGlobals mg→mg d.name=some (.ref fa) →
   ∃ fd:FuncData,(∀ (s:Shared) (u:Value),BindsTo s fd ⟨[u],[]⟩ [("script",u)])∧∀ base:Heap,(K w.params).In base→base.Ns mainGlobals mg→FnOk l.prog w (K w.params) mg base CX0 10 fa fd ["script"] (spLaw (K w.params))) :
  PySem.W.WalkO q loose XP YP l.row.toRowW d [] (fun f vs=>PySem.call f vs) :=
 L2.walk_of (n:=63) (k:=10) (x:="script") (CX:=fun _=>CX0) (sp:=fun w=>spLaw (K w.params)) hn (by decide) hdf ⟨rfl,by decide,by decide,rfl⟩ hY F (fun _ _ a ns hl _ hS=>⟨a,ns,rfl,hS,hl,fun _=>rfl⟩) fun _ _ _ _ _ z=>z
end Hk
open PySem PySem.W PyProof.Rows
set_option maxRecDepth 100000 in
set_option maxHeartbeats 0 in
theorem PySem.Challenge.cw_holdsets_k38_whole_settled_and_held_holds : PySem.Challenge.rw_holdsets_k38_whole_settled_and_held.Holds := by
 w_on;o_law;k_head;(case hw=>w_witness2)
 k_fill
 refine Hk.walk (l:=PySem.Challenge.rw_holdsets_k38_whole_settled_and_held) rfl rfl (fun w h Y=>PySem.W.kIn_of Y) ?F
 case F =>
  intro w mg fa h KX G hmg
  refine' Hk.all_mk KX G hmg  ?d0 ?d1 ?d2 ?d3 ?d4 ?d5 ?d6 ?d7 ?d8 ?d9 ?d10 ?d12 ?d13 ?d14 ?d15 ?d16 ?d17 ?d18 ?d19 ?d20 ?d21 ?d22 ?d23 ?d24 ?d25 ?d26 ?d27 ?d28 ?d29 ?d30 ?d31 ?d32 ?d33 ?d34 ?d35 ?d36 ?d37 ?d38 ?d39 ?z0 ?z1 ?z2 ?z3 ?z4 ?z5 ?z6 ?z7 ?z8 ?z9 ?z10 ?z11 ?z12 ?z13 ?z14 ?z15
  (case d0=>refine' Hk.DF.of ?a ?l ?c ?k;(case a=>k_is);(case l=>k_is);(case c=>k_is);(case k=>k_is))
  (case d1=>refine' Hk.DF.of ?a ?l ?c ?k;(case a=>k_is);(case l=>k_is);(case c=>k_is);(case k=>k_is))
  (case d2=>refine' Hk.DF.of ?a ?l ?c ?k;(case a=>k_is);(case l=>k_is);(case c=>k_is);(case k=>k_is))
  (case d3=>refine' Hk.DF.of ?a ?l ?c ?k;(case a=>k_is);(case l=>k_is);(case c=>k_is);(case k=>k_is))
  (case d4=>refine' Hk.DF.of ?a ?l ?c ?k;(case a=>k_is);(case l=>k_is);(case c=>k_is);(case k=>k_is))
  (case d5=>refine' Hk.DF.of ?a ?l ?c ?k;(case a=>k_is);(case l=>k_is);(case c=>k_is);(case k=>k_is))
  (case d6=>refine' Hk.DF.of ?a ?l ?c ?k;(case a=>k_is);(case l=>k_is);(case c=>k_is);(case k=>k_is))
  (case d7=>refine' Hk.DF.of ?a ?l ?c ?k;(case a=>k_is);(case l=>k_is);(case c=>k_is);(case k=>k_is))
  (case d8=>refine' Hk.DF.of ?a ?l ?c ?k;(case a=>k_is);(case l=>k_is);(case c=>k_is);(case k=>k_is))
  (case d9=>refine' Hk.DF.of ?a ?l ?c ?k;(case a=>k_is);(case l=>k_is);(case c=>k_is);(case k=>k_is))
  (case d10=>refine' Hk.DF.of ?a ?l ?c ?k;(case a=>k_is);(case l=>k_is);(case c=>k_is);(case k=>k_is))
  (case d12=>refine' Hk.DF.of ?a ?l ?c ?k;(case a=>k_is);(case l=>k_is);(case c=>k_is);(case k=>k_is))
  (case d13=>refine' Hk.DF.of ?a ?l ?c ?k;(case a=>k_is);(case l=>k_is);(case c=>k_is);(case k=>k_is))
  (case d14=>refine' Hk.DF.of ?a ?l ?c ?k;(case a=>k_is);(case l=>k_is);(case c=>k_is);(case k=>k_is))
  (case d15=>refine' Hk.DF.of ?a ?l ?c ?k;(case a=>k_is);(case l=>k_is);(case c=>k_is);(case k=>k_is))
  (case d16=>refine' Hk.DF.of ?a ?l ?c ?k;(case a=>k_is);(case l=>k_is);(case c=>k_is);(case k=>k_is))
  (case d17=>refine' Hk.DF.of ?a ?l ?c ?k;(case a=>k_is);(case l=>k_is);(case c=>k_is);(case k=>k_is))
  (case d18=>refine' Hk.DF.of ?a ?l ?c ?k;(case a=>k_is);(case l=>k_is);(case c=>k_is);(case k=>k_is))
  (case d19=>refine' Hk.DF.of ?a ?l ?c ?k;(case a=>k_is);(case l=>k_is);(case c=>k_is);(case k=>k_is))
  (case d20=>refine' Hk.DF.of ?a ?l ?c ?k;(case a=>k_is);(case l=>k_is);(case c=>k_is);(case k=>k_is))
  (case d21=>refine' Hk.DF.of ?a ?l ?c ?k;(case a=>k_is);(case l=>k_is);(case c=>k_is);(case k=>k_is))
  (case d22=>refine' Hk.DF.of ?a ?l ?c ?k;(case a=>k_is);(case l=>k_is);(case c=>k_is);(case k=>k_is))
  (case d23=>refine' Hk.DF.of ?a ?l ?c ?k;(case a=>k_is);(case l=>k_is);(case c=>k_is);(case k=>k_is))
  (case d24=>refine' Hk.DF.of ?a ?l ?c ?k;(case a=>k_is);(case l=>k_is);(case c=>k_is);(case k=>k_is))
  (case d25=>refine' Hk.DF.of ?a ?l ?c ?k;(case a=>k_is);(case l=>k_is);(case c=>k_is);(case k=>k_is))
  (case d26=>refine' Hk.DF.of ?a ?l ?c ?k;(case a=>k_is);(case l=>k_is);(case c=>k_is);(case k=>k_is))
  (case d27=>refine' Hk.DF.of ?a ?l ?c ?k;(case a=>k_is);(case l=>k_is);(case c=>k_is);(case k=>k_is))
  (case d28=>refine' Hk.DF.of ?a ?l ?c ?k;(case a=>k_is);(case l=>k_is);(case c=>k_is);(case k=>k_is))
  (case d29=>refine' Hk.DF.of ?a ?l ?c ?k;(case a=>k_is);(case l=>k_is);(case c=>k_is);(case k=>k_is))
  (case d30=>refine' Hk.DF.of ?a ?l ?c ?k;(case a=>k_is);(case l=>k_is);(case c=>k_is);(case k=>k_is))
  (case d31=>refine' Hk.DF.of ?a ?l ?c ?k;(case a=>k_is);(case l=>k_is);(case c=>k_is);(case k=>k_is))
  (case d32=>refine' Hk.DF.of ?a ?l ?c ?k;(case a=>k_is);(case l=>k_is);(case c=>k_is);(case k=>k_is))
  (case d33=>refine' Hk.DF.of ?a ?l ?c ?k;(case a=>k_is);(case l=>k_is);(case c=>k_is);(case k=>k_is))
  (case d34=>refine' Hk.DF.of ?a ?l ?c ?k;(case a=>k_is);(case l=>k_is);(case c=>k_is);(case k=>k_is))
  (case d35=>refine' Hk.DF.of ?a ?l ?c ?k;(case a=>k_is);(case l=>k_is);(case c=>k_is);(case k=>k_is))
  (case d36=>refine' Hk.DF.of ?a ?l ?c ?k;(case a=>k_is);(case l=>k_is);(case c=>k_is);(case k=>k_is))
  (case d37=>refine' Hk.DF.of ?a ?l ?c ?k;(case a=>k_is);(case l=>k_is);(case c=>k_is);(case k=>k_is))
  (case d38=>refine' Hk.DF.of ?a ?l ?c ?k;(case a=>k_is);(case l=>k_is);(case c=>k_is);(case k=>k_is))
  (case d39=>refine' Hk.DF.of ?a ?l ?c ?k;(case a=>k_is);(case l=>k_is);(case c=>k_is);(case k=>k_is))
  (case z0=>k_is)
  (case z1=>k_is)
  (case z2=>k_is)
  (case z3=>k_is)
  (case z4=>k_is)
  (case z5=>k_is)
  (case z6=>k_is)
  (case z7=>k_is)
  (case z8=>k_is)
  (case z9=>k_is)
  (case z10=>k_is)
  (case z11=>k_is)
  (case z12=>k_is)
  (case z13=>k_is)
  (case z14=>k_is)
  (case z15=>k_is)
