import PyProof.Rows.All
import Wide.All
import OpenK.AllK
import Wide.FinOn
import Lean
import PyProof.EqAt
import PyProof.EqKinds
import PyProof.TupleCall
import PySem.Challenge.RW_holdsets_k30_whole_holds_counted
import PyProof.NeKinds
import KE.KSortTup
import KE.KDictSum
import PyProof.Draws
import PyProof.EnumFor
import PyProof.EnumMake
import PyProof.ListRange
import PyProof.TupleOfStr
import OpenK.KMake
import OpenK.KOwn
import OpenK.KRaise
import OpenK.KMore
import KE.KTryMore
import KE.KTryOn
import PyProof.NsDelKeeps
import PyProof.Rows.SumAny
import KE.BitLaws
import KE.KMinKey
import PyProof.Rows.CallKwBuiltin
import PyProof.WalksMore
import PyProof.Rows.TupIter
import PyProof.RangeFor
import PyProof.Rows.SeqRoads
import PyProof.Rows.SeqRange
import PyProof.Rows.FStr
import PyProof.DictWalks
import PyProof.Rows.Range3
import PyProof.Rows.TupIn
import PyProof.ReprRoads
import PyProof.ReprLen
import PyProof.FitsInt
import PyProof.AttrMissHeap
import PyProof.AttrMiss
import PyProof.DictUpdate
import PyProof.CollectWalk
import KE.KDictOf
import PyProof.Walks
import PyProof.WalksS
import KE.KIntText
import PyProof.StrLawsTight
import PyProof.ToksMono
import PyProof.StrCalls6
import PyProof.StrOps2
set_option Elab.async false
set_option linter.all false
set_option maxRecDepth 100000
set_option maxHeartbeats 4000000
abbrev VQ:=PySem.Value->PySem.Shared->Prop
abbrev VZ:=PySem.Str->Option PySem.Value
abbrev VX:=List (Int×Int)
abbrev VW:=List (PySem.Addr×PySem.Obj)
abbrev VU:=List PySem.Value
abbrev VJ:=List PySem.Str
abbrev VY:=List Int
abbrev VG:=PySem.W.Frag
abbrev VH:=Option PySem.Value
abbrev VP:=PySem.Shared
abbrev VR:=PySem.Value
abbrev VB:=PySem.Addr
abbrev VC:=PySem.Program
abbrev VD:=PySem.Around
abbrev VF:=PySem.World
abbrev VL:=@PySem.wpAny_bind
abbrev VM:=@PySem.wpAny_pure
abbrev VN:=@PySem.Heap.get?_push_of_some
abbrev VT:=@PySem.Heap.get?_push_size
abbrev SQ:=@PySem.Heap.lt_size
abbrev SZ:=@Nat.le_of_lt
abbrev SX:=@Option.map_eq_some_iff
abbrev SW:=@Nat.lt_irrefl
abbrev SV:=@List.pairwise_singleton
abbrev SU:=@List.length_filter_le
abbrev SJ:=@Nat.le_refl
abbrev SY:=@List.getElem?_eq_some_iff
abbrev SG:=@List.mem_cons_self
abbrev SH:=@List.mem_singleton
abbrev SK:=@List.mem_of_getElem?
abbrev SR:=@List.mem_filter
abbrev SB:=@List.mem_append_right
abbrev SC:=@Nat.lt_of_lt_of_le
abbrev SD:=@List.mem_cons_of_mem
abbrev SF:=@Nat.ne_of_lt
abbrev SL:=@List.mem_map
abbrev SM:=@List.all_eq_true
abbrev SN:=@List.getElem?_eq_getElem
abbrev SS:=@List.mem_append
abbrev LQ:=@Nat.le_trans
abbrev LZ:=@List.mem_range
abbrev LX:=@Nat.zero_le
abbrev LW:=@List.getElem_of_mem
abbrev LV:=@List.getElem_mem
abbrev LU:=@Nat.le_succ
abbrev LJ:=@Nat.lt_succ_of_lt
namespace PySem.W.Fast
def tw14977265741771849732:=()
def tw8481182966183298925:=()
def tw14337456690886611745:=()
def tw10529070519248411608:=()
def tw3487573279190697192:=()
def tw3051110165420969579:=()
def tw2183456030916247761:=()
def tw16879770186074329871:=()
def tw13022152045771396173:=()
def tw5547732416391889163:=()
def tw14218814641084975544:=()
def tw9326837914721664916:=()
def tw14179601484595729983:=()
def tw2191729142546810763:=()
def tw7203196072858619207:=()
def tw8094205910636178885:=()
def tw8718933085759377857:=()
def tw11284033954866867789:=()
def tw16069294257586385330:=()
def tw12421817698326709939:=()
def tw2737371934818336116:=()
def tw2888470842713101457:=()
def tw7384981969422565608:=()
def tw9330820275055787194:=()
def tw17394200486006704418:=()
def tw14020380454893334382:=()
def tw5603653308189526509:=()
def tw17837569736140683216:=()
def tw11542808810034553599:=()
def tw3400274524943251455:=()
def tw16382564804005221972:=()
def tw11210121375768661409:=()
def tw3806910944320066634:=()
def tw210979531789332966:=()
def tw798352051907180434:=()
def tw14634155482011575404:=()
def tw9129390756145855247:=()
def tw17965208059601828647:=()
def tw12266562733263552838:=()
def tw13780966324776037854:=()
def tw7568212417034485176:=()
def tw1007160549024382617:=()
def tw4258559102545223845:=()
def tw10419461872635826449:=()
def tw14685810893304817133:=()
def tw18409881649443840502:=()
def tw1905950699304698383:=()
def tw10675688330573905266:=()
def tw17099137222504877923:=()
def tw9354894747447810447:=()
def tw6063361003506179576:=()
def tw7617598430676193428:=()
def tw14978446659649225313:=()
def tw12769970045997046903:=()
def tw9085531732208699330:=()
def tw14496397190854901192:=()
def tw13511468262763629418:=()
def tw16017381884577192629:=()
def tw4534647875383092168:=()
def tw17715001289371821553:=()
def tw2580074669125950424:=()
def tw4939952200797799120:=()
def tw10922343708149078236:=()
def tw11695368867029864157:=()
def tw7832302651483246665:=()
def tw2880562804720151563:=()
def tw1042446837206548568:=()
def tw10493817576810379120:=()
def tw13287123936473182490:=()
def tw629422750758232211:=()
def tw11080407814041219759:=()
def tw2214871858898612217:=()
def tw11029171942172824562:=()
def tw3462759898389150242:=()
def tw9539674560058517718:=()
def tw1615721897115760992:=()
def tw3177359136686023551:=()
def tw9727137971873570660:=()
def tw12481740548533119992:=()
def tw18240542501240317108:=()
end PySem.W.Fast
namespace L2
open PySem PySem.Spec PyProof.Rows
abbrev Key:=Sum Int Str
def Uv:Key->VR->Bool
 | .inl k,v=>Value.isInt k v
 | .inr x,v=>Value.isStrOf x v
def keyH(w:VF):Key->Int
 | .inl k=>hashInt k
 | .inr x=>hashStr w x
theorem JZ:∀{k:Key}{v:VR},Uv k v=true->(∃i t,k=Sum.inl i/\v=Value.int i t)\/(∃x t,k=Sum.inr x/\v=Value.str x t)
 | .inl i,v,h=>by obtain⟨t,e⟩:=Value.isInt_shape (k:=i) (v:=v) h;exact .inl ⟨i,t,rfl,e⟩
 | .inr x,v,h=>by obtain⟨t,e⟩:=Value.isStrOf_shape (x:=x) (v:=v) h;exact .inr ⟨x,t,rfl,e⟩
theorem Jlv(i:Int)(t:Tok):Uv (.inl i) (.int i t)=true:=by simp[Uv,Value.isInt]
theorem Jlu(x:Str)(t:Tok):Uv (.inr x) (.str x t)=true:=by simp[Uv,Value.isStrOf]
theorem Jwd(a b:Int):decide ((Sum.inl a:Key)=Sum.inl b)=(a==b):=by
 by_cases e:a=b
 ·subst e; simp
 ·have h:¬ (Sum.inl a:Key)=Sum.inl b:=fun q=>e (Sum.inl.inj q);rw[decide_eq_false h];exact(beq_eq_false_iff_ne.mpr e).symm
theorem Jwa(a b:Str):decide ((Sum.inr a:Key)=Sum.inr b)=decide (a=b):=by
 by_cases e:a=b
 ·subst e; simp
 ·have h:¬ (Sum.inr a:Key)=Sum.inr b:=fun q=>e (Sum.inr.inj q);rw[decide_eq_false h,decide_eq_false e]
theorem Jwc(a:Int)(b:Str):decide ((Sum.inl a:Key)=Sum.inr b)=false:=decide_eq_false (fun q=>nomatch q)
theorem Jwb(a:Str)(b:Int):decide ((Sum.inr a:Key)=Sum.inl b)=false:=decide_eq_false (fun q=>nomatch q)
def JX(prog:VC)(w:VF):PySem.KeyKind prog w Key where
 is:=Uv
 hash:=keyH w
 inj:=fun v a b ha hb=>by
  rcases JZ ha with⟨i,t,rfl,rfl⟩|⟨x,t,rfl,rfl⟩
  ·rcases JZ hb with ⟨j,u,rfl,e⟩ | ⟨y,u,rfl,e⟩
   ·injection e with e1 _; rw [e1]
   ·exact nomatch e
  ·rcases JZ hb with ⟨j,u,rfl,e⟩ | ⟨y,u,rfl,e⟩
   ·exact nomatch e
   ·injection e with e1 _; rw [e1]
 byValue:=fun k v h=>by rcases JZ h with⟨i,t,rfl,rfl⟩|⟨x,t,rfl,rfl⟩<;>rfl
 pyHash:=fun hv h=>by
  rcases JZ hv with⟨i,t,rfl,rfl⟩|⟨x,t,rfl,rfl⟩
  ·exact wpAny_pyHash_int h
  ·exact wpAny_pyHash_str h
 eqBool:=fun hu hv h=>by
  rcases JZ hu with⟨i,t,rfl,rfl⟩|⟨x,t,rfl,rfl⟩
  ·rcases JZ hv with ⟨j,u,rfl,rfl⟩ | ⟨y,u,rfl,rfl⟩
   ·rw [Jwd] at h; exact wpAny_eqBool_int h
   ·rw [Jwc] at h; exact SeqAt.EqAt.int_str i t y u _ _ _ _ h
  ·rcases JZ hv with ⟨j,u,rfl,rfl⟩ | ⟨y,u,rfl,rfl⟩
   ·rw [Jwb] at h; exact SeqAt.EqAt.str_int x t j u _ _ _ _ h
   ·rw [Jwa] at h; exact wpAny_eqBool_str h
 «strs»:=fun k x t v h=>by
  rcases JZ h with⟨i,u,rfl,e⟩|⟨y,u,rfl,e⟩
  ·exact nomatch e
  ·injection e with e1 _
   subst e1;cases v<;>rfl
theorem Jft(prog:VC)(w:VF)(i:Int)(t:Tok):(JX prog w).is (.inl i) (.int i t)=true:=Jlv i t
theorem Jfs(prog:VC)(w:VF)(x:Str)(t:Tok):(JX prog w).is (.inr x) (.str x t)=true:=Jlu x t
inductive V where
 | non | bl (b:Bool) | int (i:Int) | str (x:Str) | byt (b:Array UInt8) | flt (b:UInt64) | ref (a:VB) | ty (n:String)
 deriving DecidableEq
abbrev VS:=List V
def RelV:V->VR->Prop
 | .non,u=>u=Value.none
 | .bl b,u=>u=Value.bool b
 | .int i,u=>∃ t,u=Value.int i t
 | .str x,u=>∃ t,u=Value.str x t
 | .byt b,u=>∃ t,u=Value.bytes b t
 | .flt b,u=>∃ t,u=Value.float b t
 | .ref a,u=>u=Value.ref a
 | .ty n,u=>u=Value.type n
abbrev Vals:VS->VU->Prop:=Paired RelV
theorem Vals.length{xs:VS}{us:VU}(r:Vals xs us):xs.length=us.length:=Paired.length r
theorem Vals.get:∀{xs:VS}{us:VU}{i:Nat}{x:V},Vals xs us->xs[i]?=some x->∃u,us[i]?=some u/\RelV x u
 | _,_,_,_,.nil,e=>by simp at e
 | _,_,0,_,.cons r _,e=>by simp at e; subst e; exact ⟨_,rfl,r⟩
 | _,_,i + 1,x,.cons _ t,e=>by obtain⟨u,h1,h2⟩:=Vals.get (i:=i) (x:=x) t (by simpa using e);exact⟨u,by simpa using h1,h2⟩
theorem Vals.set{x:V}{u:VR}(r:RelV x u):∀{xs:VS}{us:VU}(i:Nat),Vals xs us->Vals (xs.set i x) (us.set i u)
 | _,_,_,.nil=>.nil
 | _,_,0,.cons _ t=>.cons r t
 | _,_,i + 1,.cons q t=>.cons q (Vals.set r i t)
theorem Vals.append:∀{xs ys:VS}{us ws:VU},Vals xs us->Vals ys ws->Vals (xs++ys) (us++ws)
 | _,_,_,_,.nil,s=>s
 | _,_,_,_,.cons r t,s=>.cons r (Vals.append t s)
theorem Vals.take:∀{xs:VS}{us:VU}(n:Nat),Vals xs us->Vals (xs.take n) (us.take n)
 | _,_,0,_=>.nil
 | _,_,_ + 1,.nil=>.nil
 | _,_,n + 1,.cons r t=>.cons r (Vals.take n t)
theorem Vals.drop:∀{xs:VS}{us:VU}(n:Nat),Vals xs us->Vals (xs.drop n) (us.drop n)
 | _,_,0,r=>r
 | _,_,_ + 1,.nil=>.nil
 | _,_,n + 1,.cons _ t=>Vals.drop n t
def RelO:Option V->VH->Prop
 | some v,some u=>RelV v u
 | none,none=>True
 | _,_=>False
def KV{κ:Type}:List (κ×V)->List (κ×VR)->Prop:=Paired fun(p:κ×V) (q:κ×VR)=>p.1=q.1/\RelV p.2 q.2
def kV:Key->V
 | .inl i=>.int i
 | .inr x=>.str x
inductive HO where
 /-- a list -/
 | lst (xs:VS)
 /-- a tuple (never changes) -/
 | tup (xs:VS)
 /-- a dict whose keys are ints and texts;one whose keys are tuples of ints and texts (the empty one is both) -/
 | dK (kvs:List (Key×V)) | dT (kvs:List (List Key×V))
 /-- a set of ints: its members,its size -/
 | set (S:Int->Bool) (n:Nat)
 /-- an instance of the class at C,its dict at dx,its attributes -/
 | ins (C dx:VB) (fs:List (Str×V))
 /-- the dict of the instance at x -/
 | own (x:VB)
 /-- the dict of an exception -/
 | xd (fs:List (Str×V))
 /-- a bound method,f of x -/
 | met (f x:VB)
 /-- a range object lo,lo+1,.. below hi -/
 | rng (lo hi:Int)
 /-- a thing that is known to the object (the script;a dict while a loop walks it): read,never written while it is so -/
 | frz (o:Obj) (u:HO)
 /-- a code object's table -/
 | tbl (ps:Array VR)
 /-- any other thing,by what is true of its one object (a def of one's own: SetO a S n:=HO.ext fun h=>..) -/
 | ext (φ:Heap->Prop)
abbrev Hp:=VB->Option HO
def upd(H:Hp)(a:VB)(o:HO):Hp:=fun b=>if b=a then some o else H b
theorem Jc{H:Hp}{a:VB}{o:HO}:upd H a o a=some o:=by unfold upd;rw[if_pos rfl]
theorem Jj{H:Hp}{a b:VB}{o:HO}(h:b≠a):upd H a o b=H b:=by unfold upd;rw[if_neg h]
theorem Wt{H:Hp}{a b:VB}{o u:HO}(h:H a=some o)(h':H b=some u)(d:o≠u):a≠b:=by intro e;subst e;rw[h]at h';exact d (Option.some.inj h')
theorem Jg{H:Hp}{a b:VB}{o:HO}(h:H a=some o)(h':H b=none):a≠b:=by intro e;subst e;rw[h]at h';cases h'
section
variable(P:VC)(w:VF)
def ObjOk(H:Hp)(h:Heap)(a:VB):HO->Prop
 | .lst xs=>xs.length<=sizeLine/\∃ (its:VU) (n:Nat),Vals xs its/\h.get? a=some { cls:=.type "list",data:=.seq its.toArray n }
 | .tup xs=>xs.length<=sizeLine/\∃ its:VU,Vals xs its/\IsTup h a its.toArray
 | .dK kvs=>kvs.length<=sizeLine/\(a == sysModules)=false/\∃ vs,KV kvs vs/\h.DictOf (JX P w) a vs
 | .dT kvs=>kvs.length<=sizeLine/\(a == sysModules)=false/\∃ xs:List (List Key×VB×VR),
   Paired (fun(p:List Key×V) (q:List Key×VB×VR)=>p.1=q.1/\H q.2.1=some (.tup (p.1.map kV))/\RelV p.2 q.2.2) kvs xs /\
   ∃o es ep,h.get? a=some o/\o.ExactDict/\o.data=.dict es ep/\es.toList=xs.map (entryOfKey (tupleKind (JX P w)))/\(xs.map (·.1)).Nodup
 | .set S n=>h.SetOf (intKind P w) a S n
 | .ins C dx fs=>H dx=some (.own a)/\fs.length<=1000/\dx≠a/\h.get? a=some (PySem.W.instObj C dx) /\
   ∃mA,h.Ns1 dx mA/\(∀f,RelO (fs.lookup f) (mA f))/\PySem.Within mA (fs.map (·.1))
 | .own _=>∃ o,h.get? a=some o
 | .xd fs=>∃ mA,h.Ns1 a mA/\∀ f,RelO (fs.lookup f) (mA f)
 | .rng lo hi=>∃ t u v,h.get? a=some { cls:=.type "range",data:=.fields #[.int lo t,.int hi u,.int 1 v] }
 | .frz o u=>h.get? a=some o/\ObjOk H h a u
 | .tbl ps=>h.get? a=some { cls:=.none,data:=.fields ps }
 | .met f x=>h.get? a=some (PySem.W.methodObj (.ref f) (.ref x))
 | .ext φ=>φ h/\(∃ o,h.get? a=some o)/\∀ h1 h2:Heap,φ h1->(∀ o,h1.get? a=some o->h2.get? a=some o)->φ h2
def HOk(H:Hp)(h:Heap):Prop:=∀a o,H a=some o->ObjOk P w H h a o
end
section
variable{P:VC}{w:VF}{H H':Hp}{h h':Heap}{a:VB}{o:HO}
theorem ObjOk.lt(x:ObjOk P w H h a o):a<h.objs.size:=by
 cases o with
 | lst xs=>obtain ⟨_,_,_,_,e⟩:=x; exact SQ e
 | tup xs=>obtain ⟨_,_,_,p⟩:=x; exact p.lt
 | dK kvs=>obtain ⟨_,_,_,_,o,_,_,e,_⟩:=x; exact SQ e
 | dT kvs=>obtain ⟨_,_,_,_,o,_,_,e,_⟩:=x; exact SQ e
 | set S n=>obtain ⟨o,_,_,_,e,_⟩:=x; exact SQ e
 | ins C dx fs=>obtain ⟨_,_,_,e,_⟩:=x; exact SQ e
 | own y=>obtain ⟨_,e⟩:=x; exact SQ e
 | xd fs=>obtain ⟨_,⟨_,_,_,e,_⟩,_⟩:=x; exact SQ e
 | rng lo hi=>obtain ⟨_,_,_,e⟩:=x; exact SQ e
 | frz ob u=>obtain ⟨e,_⟩:=x; exact SQ e
 | tbl ps=>exact SQ (show h.get? a=some _ from x)
 | met f y=>exact SQ (show h.get? a=some _ from x)
 | ext φ=>obtain ⟨_,⟨_,e⟩,_⟩:=x; exact SQ e
theorem Paired.mapP{α β:Type}{F G:α->β->Prop}:∀{l₁:List α}{l₂:List β},Paired F l₁ l₂->(∀a b,F a b->G a b)->Paired G l₁ l₂
 | _,_,.nil,_=>.nil
 | _,_,.cons r t,f=>.cons (f _ _ r) (Paired.mapP t f)
theorem ObjOk.stay(x:ObjOk P w H h a o)(k:∀b u,(b=a\/H b=some (.own a))->h.get? b=some u->h'.get? b=some u)
  (ho:∀b,H b=some (.own a)->H' b=some (.own a)) (ht:∀b xs,H b=some (.tup xs)->H' b=some (.tup xs)):ObjOk P w H' h' a o:=by
 induction o with
 | lst xs=>obtain ⟨z,its,n,r,e⟩:=x; exact ⟨z,its,n,r,k _ _ (.inl rfl) e⟩
 | tup xs=>obtain ⟨z,its,r,ob,e,c⟩:=x; exact ⟨z,its,r,ob,k _ _ (.inl rfl) e,c⟩
 | dK kvs=>obtain ⟨z,y,vs,r,ob,es,ep,e,c⟩:=x; exact ⟨z,y,vs,r,ob,es,ep,k _ _ (.inl rfl) e,c⟩
 | dT kvs =>
  obtain⟨z,y,xs,r,ob,es,ep,e,c⟩:=x;exact⟨z,y,xs,Paired.mapP r fun p q z=>⟨z.1,ht _ _ z.2.1,z.2.2⟩,ob,es,ep,k _ _ (.inl rfl) e,c⟩
 | set S n=>obtain ⟨ob,es,ep,t,e,c⟩:=x; exact ⟨ob,es,ep,t,k _ _ (.inl rfl) e,c⟩
 | ins C dx fs =>
  obtain⟨d,z,ne,e,mA,⟨od,es,ep,e2,c⟩,r⟩:=x;exact⟨ho _ d,z,ne,k _ _ (.inl rfl) e,mA,⟨od,es,ep,k _ _ (.inr d) e2,c⟩,r⟩
 | own y=>obtain ⟨ob,e⟩:=x; exact ⟨ob,k _ _ (.inl rfl) e⟩
 | xd fs=>obtain ⟨mA,⟨od,es,ep,e,c⟩,r⟩:=x; exact ⟨mA,⟨od,es,ep,k _ _ (.inl rfl) e,c⟩,r⟩
 | rng lo hi=>obtain ⟨t,u,v,e⟩:=x; exact ⟨t,u,v,k _ _ (.inl rfl) e⟩
 | frz ob u ih=>obtain ⟨e,q⟩:=x; exact ⟨k _ _ (.inl rfl) e,ih q⟩
 | tbl ps =>
  have e:h.get? a=some { cls:=.none,data:=.fields ps }:=x;show h'.get? a=some { cls:=.none,data:=.fields ps };exact k a _ (.inl rfl) e
 | met f y =>
  have e:h.get? a=some (PySem.W.methodObj (.ref f) (.ref y)):=x;show h'.get? a=some (PySem.W.methodObj (.ref f) (.ref y));exact k a _ (.inl rfl) e
 | ext φ=>obtain ⟨p,⟨o,e⟩,st⟩:=x; exact ⟨st _ _ p fun o q=>k _ _ (.inl rfl) q,⟨o,k _ _ (.inl rfl) e⟩,st⟩
theorem HOk.lt(x:HOk P w H h)(e:H a=some o):a<h.objs.size:=(x a o e).lt
theorem HOk.fresh(x:HOk P w H h)(e:h.objs.size<=a):H a=none:=by
 cases q:H a with
 | none=>rfl
 | some u=>exact absurd (SC (x.lt q) e) (SW _)
theorem HOk.kept(x:HOk P w H h)(k:∀b u,h.get? b=some u->h'.get? b=some u):HOk P w H h':=fun a o e =>
 (x a o e).stay (fun b u _ q=>k b u q) (fun _ q=>q) fun _ _ q=>q
theorem HOk.laid(x:HOk P w H h)(k:∀b u,h.get? b=some u->h'.get? b=some u)(hp:h.objs.size<=a)(new:ObjOk P w (upd H a o) h' a o):HOk P w (upd H a o) h':=fun b u e=>by
 have hn:=x.fresh hp;by_cases hb:b=a
 ·subst hb; rw [Jc] at e; cases e; exact new
 ·rw [Jj hb] at e;exact(x b u e).stay (fun c v _ q=>k c v q) (fun c q=>by rw[Jj (Jg q hn)];exact q) fun c xs q=>by rw[Jj (Jg q hn)];exact q
end
def Rd(H:Hp)(a:VB)(u:HO):Prop:=H a=some u\/∃o,H a=some (.frz o u)
theorem Rd.ok{P:VC}{w:VF}{H:Hp}{h:Heap}{a:VB}{u:HO}(r:Rd H a u)(x:HOk P w H h):ObjOk P w H h a u:=by
 rcases r with r|⟨o,r⟩
 ·exact x a u r
 ·obtain ⟨_,q⟩:=x a _ r;exact q
def Mut:Option HO->Prop
 | some (.lst _)=>True
 | some (.dK _)=>True
 | some (.dT _)=>True
 | some (.set _ _)=>True
 | some (.ins _ _ _)=>True
 | some (.ext _)=>True
 | _=>False
section
variable{P:VC}{w:VF}{H:Hp}{h h':Heap}{x e:VB}{o':HO}
theorem HOk.write(ok:HOk P w H h)(mu:Mut (H x))(he:e=x\/H e=some (.own x))(k:∀b u,b≠e->h.get? b=some u->h'.get? b=some u)(heo:∃u,h'.get? e=some u)
  (new:ObjOk P w (upd H x o') h' x o'):HOk P w (upd H x o') h':=fun b u q=>by
 have nown:∀c y,H c=some (.own y)->c≠x:=fun c y r z=>by subst z;rw[r]at mu;exact mu
 have ntup:∀c xs,H c=some (.tup xs)->c≠x:=fun c xs r z=>by subst z;rw[r]at mu;exact mu
 by_cases hb:b=x
 ·subst hb; rw [Jc] at q; cases q; exact new
 ·rw [Jj hb] at q;by_cases hbe:b=e
  ·have q':H b=some (.own x):=by
    rcases he with z|z
    ·exact absurd (hbe.trans z) hb
    ·rw [hbe]; exact z
   rw[q]at q';cases q';obtain⟨v,hv⟩:=heo;exact⟨v,by rw[hbe];exact hv⟩
  ·refine (ok b u q).stay (fun c v hc r=>k c v ?_ r) (fun c r=>by rw [Jj (nown c b r)]; exact r) fun c xs r=>by rw [Jj (ntup c xs r)]; exact r
   rcases hc with rfl|hc
   ·exact hbe
   ·rintro rfl;rcases he with z|z
    ·exact nown c b hc z
    ·rw [hc] at z; cases z; exact hb rfl
end
structure Un(fs ex:List VB)(H H':Hp)(h h':Heap):Prop where
 keep:∀b o,h.get? b=some o->H b=none->b∉fs->b∉ex->h'.get? b=some o
 slot:∀b o,h.get? b=some o->H b=none->b∈fs->b∉ex->∃sl,h'.get? b=some { o with slots:=sl }
 free:∀b o,h.get? b=some o->H b=none->b∉ex->H' b=none
 there:∀b o,h.get? b=some o->b∉ex->∃o',h'.get? b=some o'
 tups:∀b xs,H b=some (.tup xs)->H' b=some (.tup xs)
 frzs:∀b o u,H b=some (.frz o u)->H' b=some (.frz o u)
 tbls:∀b ps,H b=some (.tbl ps)->∃more,H' b=some (.tbl (ps++more))
section
variable{fs fs' ex ex':List VB}{H H1 H2:Hp}{h h1 h2 h':Heap}{a x e:VB}{o:HO}
theorem Un.any(u:Un fs ex H H1 h h1){b:VB}{ob:Obj}(q:h.get? b=some ob)(n:H b=none)(hx:b∉ex):∃sl,h1.get? b=some { ob with slots:=sl }:=by
 by_cases hb:b∈fs
 ·exact u.slot b ob q n hb hx
 ·exact ⟨ob.slots,u.keep b ob q n hb hx⟩
theorem Un.kept(k:∀b u,h.get? b=some u->h'.get? b=some u):Un fs ex H H h h' :=
 ⟨fun b ob q _ _ _=>k b ob q,fun b ob q _ _ _=>⟨ob.slots,k b ob q⟩,fun _ _ _ n _=>n,fun b ob q _=>⟨ob,k b ob q⟩,fun _ _ q=>q,fun _ _ _ q=>q,fun _ ps q=>⟨#[],by rw[q];simp⟩⟩
theorem Un.refl:Un fs ex H H h h:=Un.kept fun _ _ q=>q
theorem Un.laid(k:∀b u,h.get? b=some u->h'.get? b=some u)(hp:h.objs.size<=a)(hn:H a=none):Un fs ex H (upd H a o) h h' where
 keep:=fun b u q _ _ _=>k b u q
 slot:=fun b u q _ _ _=>⟨u.slots,k b u q⟩
 free:=fun b u q n _=>by rw[Jj (Nat.ne_of_lt (Nat.lt_of_lt_of_le (Heap.lt_size q) hp))];exact n
 there:=fun b u q _=>⟨u,k b u q⟩
 tups:=fun b xs q=>by rw[Jj (Jg q hn)];exact q
 frzs:=fun b u xs q=>by rw[Jj (Jg q hn)];exact q
 tbls:=fun b ps q=>⟨#[],by rw[Jj (Jg q hn),q];simp⟩
theorem Un.write(mu:Mut (H x))(he:e=x\/H e=some (.own x))(k:∀b u,b≠e->h.get? b=some u->h'.get? b=some u)(heo:∃u,h'.get? e=some u):Un fs ex H (upd H x o) h h':=by
 have hx:∀b,H b=none->b≠x:=fun b n z=>by subst z;rw[n]at mu;exact mu
 have hb:∀b,H b=none->b≠e:=fun b n z=>by
  subst z;rcases he with r|r
  ·exact hx b n r
  ·rw [n] at r; cases r
 have hm:∀b u,H b=some u->¬ Mut (some u)->b≠x:=fun b u q nm z=>by subst z;rw[q]at mu;exact nm mu
 refine ⟨fun b u q n _ _=>k b u (hb b n) q,fun b u q n _ _=>⟨u.slots,k b u (hb b n) q⟩,fun b u q n _=>by rw [Jj (hx b n)]; exact n,fun b u q _=>?_,
  fun b xs q=>by rw [Jj (hm b _ q fun z=>z)]; exact q,fun b u xs q=>by rw [Jj (hm b _ q fun z=>z)]; exact q,fun b ps q=>⟨#[],by rw [Jj (hm b _ q fun z=>z),q]; simp⟩⟩
 by_cases hbe:b=e
 ·subst hbe; exact heo
 ·exact ⟨u,k b u hbe q⟩
end
def trk(h:Heap)(H:Hp):List VB:=(List.range h.objs.size).filter fun a=>(H a).isSome
def hidT(h:Heap)(H:Hp):Heap:=PySem.W.hideAll h (trk h H)
theorem Jma(h:Heap)(H:Hp):(hidT h H).objs.size=h.objs.size:=PySem.W.hideAll_size _ _
theorem Jpl{h:Heap}{H:Hp}{b:VB}{o:Obj}(e:h.get? b=some o)(n:H b=none):(hidT h H).get? b=some o :=
 PySem.W.hideAll_get _ e fun hm=>by have q:(H b).isSome=true:=(SR.mp hm).2;rw[n]at q;simp at q
theorem Jrq{h:Heap}{H:Hp}{b:VB}{o:Obj}(e:(hidT h H).get? b=some o):h.get? b=some o/\H b=none:=by
 have e':h.get? b=some o:=PySem.W.of_hideAll (trk h H) e;refine⟨e',?_⟩;cases q:H b with
 | none=>rfl
 | some x =>
  have hm:b∈trk h H:=SR.mpr ⟨LZ.mpr (SQ e'),by simp[q]⟩;have z:(hidT h H).get? b=none:=PySem.W.hideAll_none (trk h H) hm;rw[z]at e;cases e
structure Mod(K:VG)(mg:VZ)(base:Heap):Prop where
 kin:K.In base
 glob:base.Ns mainGlobals mg
 blt:∃mb,base.Ns builtinsNs mb/\∀x:Str,x≠"__name__"->mb x=bootBuiltins x
 nolimit:base.NoLimit
structure Cx where
 prog:VC
 w:VF
 K:VG
 mg:VZ
 base:Heap
 A:VD
 N:VJ
 s₀:VP
 H₀:Hp
 env:Env
 outer:List Env
 stack:List Env
 ex:List VB
 fn:Str->Bool
 calm:Bool
 pn:VW
 xe:VQ
def frs(l:List Env):List VB:=l.filterMap (·.frame)
abbrev Cx.fs(X:Cx):List VB:=frs X.outer
def Vis(sc:Scope)(x:Str):Prop:=sc.names.lookup x=some .local\/sc.names.lookup x=some .cell\/sc.names.lookup x=some .free
def Loc(sc:Scope)(x:Str):Prop:=sc.names.lookup x=some .local\/sc.names.lookup x=some .cell
def Look(env:Env)(h:Heap)(m:VZ)(x:Str)(u:VR):Prop :=
 (env.kindOf x=some .local/\m x=some u)\/((env.kindOf x=some .cell\/env.kindOf x=some .free)/\∃c,env.cells.lookup x=some c/\h.IsCell c (some u))
structure Cx.Ok(X:Cx):Prop where
 mod:Mod X.K X.mg X.base
 kind:X.env.scope.kind=.function
 glob:X.env.globals=mainGlobals
 blt:X.env.builtins=builtinsNs
 above:X.s₀.heap.objs.size<=X.env.locals
 inj:∀x y c,X.env.cells.lookup x=some c->X.env.cells.lookup y=some c->x=y
 has:∀x,(X.env.kindOf x=some .cell\/X.env.kindOf x=some .free)->∃c,X.env.cells.lookup x=some c
 cab:∀x c,X.fn x=true->X.env.cells.lookup x=some c->X.s₀.heap.objs.size<=c
 hd:X.calm=true->X.A.handled=none
 frames:X.A.frames=some X.stack
 stk:X.stack=X.outer\/(X.stack=X.env::X.outer/\X.env.frame=some X.env.locals)
 exf:∀b∈X.ex,b≠X.env.locals/\∀x c,X.env.cells.lookup x=some c->c≠b
 bs:∀b o,X.base.get? b=some o->X.s₀.heap.get? b=some o/\X.H₀ b=none
 bsz:X.base.objs.size<=X.s₀.heap.objs.size
 noex:∀b o,X.base.get? b=some o->b∉X.ex
 exfs:∀b∈X.ex,b∉X.fs
 funs:X.s₀.heap.FunFrames X.base X.outer
 frf:∀b∈X.fs,X.H₀ b=none
structure Inv(X:Cx)(pins:VW)(σ:List (Option V))(H:Hp)(s:VP):Prop where
 ok:X.Ok
 os:s.os=X.s₀.os
 bare:AllBare s.gens
 base:Un X.fs X.ex X.H₀ H X.s₀.heap s.heap
 loc:∃m,s.heap.Ns X.env.locals m/\∀(i:Nat)(x:Str)(v:V),X.N[i]?=some x->σ[i]?=some (some v)->Vis X.env.scope x->∃u,RelV v u/\Look X.env s.heap m x u
 cell:∀x c,X.env.cells.lookup x=some c->∃v,s.heap.IsCell c v
 free:H X.env.locals=none
 freeC:∀x c,X.env.cells.lookup x=some c->H c=none
 pin:∀p∈X.pn++pins,s.heap.get? p.1=some p.2/\H p.1=none/\p.1≠X.env.locals/\p.1∉X.fs/\∀v,p.2.data≠.cell v
 hok:HOk X.prog X.w H s.heap
 len:σ.length=X.N.length
section
variable{X:Cx}{pins:VW}{σ:List (Option V)}{H H':Hp}{s:VP}{h':Heap}
theorem Cx.Ok.nofr(ok:X.Ok){b:VB}{o:Obj}(e:X.base.get? b=some o):b∉X.fs:=fun hb=>by have:=(ok.funs.mem hb).1;rw[e]at this;cases this
theorem Inv.bs(I:Inv X pins σ H s):∀b o,X.base.get? b=some o->s.heap.get? b=some o/\H b=none:=fun b o e =>
 ⟨I.base.keep b o (I.ok.bs b o e).1 (I.ok.bs b o e).2 (I.ok.nofr e) (I.ok.noex b o e),I.base.free b o (I.ok.bs b o e).1 (I.ok.bs b o e).2 (I.ok.noex b o e)⟩
theorem Inv.bk(I:Inv X pins σ H s):∀b o,X.base.get? b=some o->s.heap.get? b=some o:=fun b o e=>(I.bs b o e).1
theorem Inv.mod(I:Inv X pins σ H s):Mod X.K X.mg X.base:=I.ok.mod
theorem Inv.kIn(I:Inv X pins σ H s):X.K.In s.heap:=I.ok.mod.kin.keeps I.bk
theorem Inv.lt(I:Inv X pins σ H s):X.env.locals<s.heap.objs.size:=let⟨_,hn,_⟩:=I.loc;hn.lt
theorem Inv.sz(I:Inv X pins σ H s):X.s₀.heap.objs.size<=s.heap.objs.size:=LQ I.ok.above (SZ I.lt)
theorem Inv.nofs(I:Inv X pins σ H s){a:VB}(h:s.heap.objs.size<=a):a∉X.fs:=fun hb=>by obtain⟨_,o,ho,_⟩:=I.ok.funs.mem hb;exact absurd (SC (SQ ho) (LQ I.sz h)) (SW _)
theorem Inv.cne(I:Inv X pins σ H s):∀x c,X.env.cells.lookup x=some c->c≠X.env.locals:=fun x c e z=>by obtain⟨v,o,ho,hd⟩:=I.cell x c e;obtain⟨m,⟨o',es,ep,ho',hd',_⟩,_⟩:=I.loc;rw[z,ho']at ho;cases ho;rw[hd']at hd;cases hd
theorem Inv.funs(I:Inv X pins σ H s):s.heap.FunFrames X.base X.outer:=by
 have all:∀(l:List Env),(∀b∈frs l,b∈X.fs)->X.s₀.heap.FunFrames X.base l->s.heap.FunFrames X.base l:=by
  intro l;induction l with
  | nil=>intro _ _; trivial
  | cons env r ih =>
   intro hs hl;obtain⟨hk,⟨L,o,hf,hn,ho,hd⟩,hr⟩:=hl;have hL:L∈X.fs:=hs L (by unfold frs;rw[List.filterMap_cons,hf];exact SG);obtain⟨sl,e⟩:=I.base.slot L o ho (I.ok.frf L hL) hL fun z=>I.ok.exfs L z hL;exact⟨hk,⟨L,_,hf,hn,e,hd⟩,ih (fun b hb=>hs b (by unfold frs;rw[List.filterMap_cons,hf];exact SD _ hb)) hr⟩
 exact all X.outer (fun _ hb=>hb) I.ok.funs
theorem Inv.stack(I:Inv X pins σ H s):s.heap.FunFrames X.base X.stack:=by
 rcases I.ok.stk with e|⟨e,hf⟩
 ·rw [e]; exact I.funs
 ·rw [e];obtain⟨m,hn,_⟩:=I.loc;refine .cons (by rw[I.ok.kind];decide) hf hn ?_ I.funs;exact Heap.get?_none_of_le (LQ I.ok.bsz I.ok.above)
theorem Inv.stkSub(I:Inv X pins σ H s):∀b∈frs X.stack,b∈X.env.locals::X.fs:=fun b hb=>by
 rcases I.ok.stk with e|⟨e,hf⟩
 ·rw [e] at hb; exact SD _ hb
 ·rw [e] at hb;unfold frs at hb;rw[List.filterMap_cons,hf]at hb;exact hb
theorem Inv.stkFree(I:Inv X pins σ H s):∀b∈frs X.stack,H b=none:=fun b hb=>by
 rcases List.mem_cons.mp (I.stkSub b hb)with e|hb
 ·rw [e]; exact I.free
 ·obtain ⟨_,o,ho,_⟩:=I.ok.funs.mem hb;exact I.base.free b o ho (I.ok.frf b hb) fun z=>I.ok.exfs b z hb
theorem Inv.step{g':Array GenState}{t':Nat}{d':Drawn}{ch:List VB}(I:Inv X pins σ H s)
  (hch:∀b∈ch,(b∈X.ex\/X.s₀.heap.objs.size<=b)/\b≠X.env.locals/\(∀x c,X.env.cells.lookup x=some c->c≠b)/\∀p∈X.pn++pins,p.1≠b)
  (keep:∀b o,b≠X.env.locals->b∉X.fs->b∉ch->s.heap.get? b=some o->H b=none->h'.get? b=some o)
  (slot:∀b o,b≠X.env.locals->b∈X.fs->b∉ch->s.heap.get? b=some o->H b=none->∃sl,h'.get? b=some { o with slots:=sl }) (free:∀b o,b∉ch->s.heap.get? b=some o->H b=none->H' b=none)
  (there:∀b o,b∉ch->s.heap.get? b=some o->∃o',h'.get? b=some o')
  (tups:∀b xs,H b=some (.tup xs)->H' b=some (.tup xs)) (frzs:∀b o u,H b=some (.frz o u)->H' b=some (.frz o u)) (tbls:∀b ps,H b=some (.tbl ps)->∃more,H' b=some (.tbl (ps++more)))
  (ns:∀m,s.heap.Ns X.env.locals m->h'.Ns X.env.locals m) (hok:HOk X.prog X.w H' h') (hg:AllBare g') :
  Inv X pins σ H' { s with heap:=h',gens:=g',drawn:=d',toks:=t' }:=by
 have neL:∀b o,X.s₀.heap.get? b=some o->b≠X.env.locals:=fun b o e=>SF (SC (SQ e) I.ok.above);have neC:∀b o,X.s₀.heap.get? b=some o->b∉X.ex->b∉ch:=fun b o e hx hb=>by
  rcases(hch b hb).1 with z|z
  ·exact hx z
  ·exact absurd (SC (SQ e) z) (SW _)
 have cellK:∀x c,X.env.cells.lookup x=some c->∀v,s.heap.IsCell c v->h'.IsCell c v:=fun x c e v ⟨o,ho,hd⟩=>by
  have nch:c∉ch:=fun z=>(hch c z).2.2.1 x c e rfl;by_cases hc:c∈X.fs
  ·obtain ⟨sl,q⟩:=slot c o (I.cne x c e) hc nch ho (I.freeC x c e);exact⟨_,q,hd⟩
  ·exact ⟨o,keep c o (I.cne x c e) hc nch ho (I.freeC x c e),hd⟩
 refine⟨I.ok,I.os,hg,⟨fun b o e n hb hx=>?_,fun b o e n hb hx=>?_,fun b o e n hx=>?_,fun b o e hx=>?_,fun b xs e=>tups b xs (I.base.tups b xs e),fun b o xs e=>frzs b o xs (I.base.frzs b o xs e),fun b ps e=>?_⟩,?_,fun x c e=>?_,?_,fun x c e=>?_,fun p hp=>?_,hok,I.len⟩
 ·exact keep b o (neL b o e) hb (neC b o e hx) (I.base.keep b o e n hb hx) (I.base.free b o e n hx)
 ·obtain ⟨sl,e1⟩:=I.base.slot b o e n hb hx;obtain⟨sl',e2⟩:=slot b _ (neL b o e) hb (neC b o e hx) e1 (I.base.free b o e n hx);exact⟨sl',e2⟩
 ·obtain ⟨o',e1⟩:=I.base.there b o e hx;exact free b o' (neC b o e hx) e1 (I.base.free b o e n hx)
 ·obtain ⟨o',e1⟩:=I.base.there b o e hx;exact there b o' (neC b o e hx) e1
 ·obtain ⟨m1,e1⟩:=I.base.tbls b ps e;obtain⟨m2,e2⟩:=tbls b _ e1;exact⟨m1++m2,by rw[e2,Array.append_assoc]⟩
 ·obtain ⟨m,hn,hl⟩:=I.loc;refine⟨m,ns m hn,fun i x v e1 e2 e3=>?_⟩;obtain⟨u,r,l⟩:=hl i x v e1 e2 e3;refine⟨u,r,?_⟩;rcases l with l|⟨k,c,e,z⟩
  ·exact .inl l
  ·exact .inr ⟨k,c,e,cellK x c e _ z⟩
 ·obtain ⟨v,z⟩:=I.cell x c e;exact⟨v,cellK x c e v z⟩
 ·obtain ⟨m,⟨o,_,_,ho,_⟩,_⟩:=I.loc;exact free _ o (fun z=>(hch _ z).2.1 rfl) ho I.free
 ·obtain ⟨v,o,ho,hd⟩:=I.cell x c e;exact free c o (fun z=>(hch c z).2.2.1 x c e rfl) ho (I.freeC x c e)
 ·obtain ⟨e,n,ne,nf,d⟩:=I.pin p hp;have nch:p.1∉ch:=fun z=>(hch p.1 z).2.2.2 p hp rfl;exact⟨keep p.1 p.2 ne nf nch e n,free p.1 p.2 nch e n,ne,nf,d⟩
theorem Inv.un{t':Nat}(I:Inv X pins σ H s)(u:Un X.fs [] H H' s.heap h')(hok:HOk X.prog X.w H' h'):Inv X pins σ H' { s with heap:=h',toks:=t' }:=by
 obtain⟨m,⟨o,es,ep,ho,r⟩,_⟩:=id I.loc;obtain⟨sl,hL⟩:=u.any ho I.free (by simp);exact I.step (g':=s.gens) (d':=s.drawn) (ch:=[]) (fun _ z=>nomatch z) (fun b o _ hb _ e n=>u.keep b o e n hb (by simp)) (fun b o _ hb _ e n=>u.slot b o e n hb (by simp)) (fun b o _ e n=>u.free b o e n (by simp)) (fun b o _ e=>u.there b o e (by simp)) u.tups u.frzs u.tbls (fun m' hm=>by
  obtain⟨o',es',ep',ho',r'⟩:=hm;rw[ho]at ho';cases ho'
  exact ⟨_,es',ep',hL,r'⟩) hok I.bare
theorem Inv.call{g':Array GenState}{t':Nat}{d':Drawn}{ch:List VB}(I:Inv X pins σ H s)(u:Un (frs X.stack) ch H H' s.heap h')(hok:HOk X.prog X.w H' h')(hg:AllBare g')
  (hch:∀b∈ch,(b∈X.ex\/X.s₀.heap.objs.size<=b)/\b≠X.env.locals/\(∀x c,X.env.cells.lookup x=some c->c≠b)/\∀p∈X.pn++pins,p.1≠b) :
  Inv X pins σ H' { s with heap:=h',gens:=g',drawn:=d',toks:=t' }:=by
 obtain⟨m,⟨o,es,ep,ho,r⟩,_⟩:=id I.loc;obtain⟨sl,hL⟩:=u.any ho I.free fun z=>(hch _ z).2.1 rfl;exact I.step (ch:=ch) hch (fun b o hL hb hc e n=>u.keep b o e n (fun z=>(List.mem_cons.mp (I.stkSub b z)).elim hL hb) hc) (fun b o _ _ hc e n=>u.any e n hc) (fun b o hc e n=>u.free b o e n hc) (fun b o hc e=>u.there b o e hc) u.tups u.frzs u.tbls (fun m' hm=>by
  obtain⟨o',es',ep',ho',r'⟩:=hm;rw[ho]at ho';cases ho'
  exact ⟨_,es',ep',hL,r'⟩) hok hg
theorem Inv.turned{t':Nat}{it:VB}(I:Inv X pins σ H s)(k:∀b o,b≠it->s.heap.get? b=some o->h'.get? b=some o)(hn:H it=none)(hL:it≠X.env.locals)
  (h1:it∈X.ex\/X.s₀.heap.objs.size<=it) (h2:∀x c,X.env.cells.lookup x=some c->c≠it) (h3:∀p∈X.pn++pins,p.1≠it):Inv X pins σ H { s with heap:=h',toks:=t' }:=by
 have nit:∀b u,H b=some u->b≠it:=fun b u e z=>by rw[z,hn]at e;cases e
 refine I.step (g':=s.gens) (d':=s.drawn) (ch:=[it]) (fun b hb=>?_) (fun b o _ _ hc e _=>k b o (fun z=>hc (by simp[z])) e) (fun b o _ _ hc e _=>⟨o.slots,k b o (fun z=>hc (by simp[z])) e⟩) (fun _ _ _ _ n=>n)
  (fun b o hc e=>⟨o,k b o (fun z=>hc (by simp[z])) e⟩) (fun _ _ e=>e) (fun _ _ _ e=>e) (fun b ps e=>⟨#[],by rw[e];simp⟩) (fun m hm=>?_) (fun b u e=>?_) I.bare
 ·have e:b=it:=by simpa using hb
  subst e;exact⟨h1,hL,h2,h3⟩
 ·obtain ⟨o,es,ep,ho,r⟩:=hm;exact⟨o,es,ep,k _ o (Ne.symm hL) ho,r⟩
 ·refine (I.hok b u e).stay (fun c v hc q=>k c v ?_ q) (fun _ q=>q) fun _ _ q=>q;rcases hc with z|z
  ·rw [z]; exact nit b u e
  ·exact nit c _ z
theorem Inv.tok(I:Inv X pins σ H s)(t:Nat):Inv X pins σ H { s with toks:=t }:=I.un (h':=s.heap) (t':=t) Un.refl I.hok
theorem Inv.kept{t':Nat}(I:Inv X pins σ H s)(k:∀b u,s.heap.get? b=some u->h'.get? b=some u):Inv X pins σ H { s with heap:=h',toks:=t' }:=I.un (Un.kept k) (I.hok.kept k)
theorem Inv.laid{a:VB}{o:HO}{t':Nat}(I:Inv X pins σ H s)(k:∀b u,s.heap.get? b=some u->h'.get? b=some u)(hp:s.heap.objs.size<=a)(new:ObjOk X.prog X.w (upd H a o) h' a o) :
  Inv X pins σ (upd H a o) { s with heap:=h',toks:=t' }:=I.un (Un.laid k hp (I.hok.fresh hp)) (I.hok.laid k hp new)
theorem Inv.write{x e:VB}{o:HO}{t':Nat}(I:Inv X pins σ H s)(mu:Mut (H x))(he:e=x\/H e=some (.own x))(k:∀b u,b≠e->s.heap.get? b=some u->h'.get? b=some u)(heo:∃u,h'.get? e=some u)
  (new:ObjOk X.prog X.w (upd H x o) h' x o):Inv X pins σ (upd H x o) { s with heap:=h',toks:=t' }:=I.un (Un.write mu he k heo) (I.hok.write mu he k heo new)
theorem Inv.weak{σ':List (Option V)}(I:Inv X pins σ H s)(hl:σ'.length=σ.length)(w:∀(i:Nat) v,σ'[i]?=some (some v)->σ[i]?=some (some v)):Inv X pins σ' H s :=
 ⟨I.ok,I.os,I.bare,I.base,let⟨m,hn,hl'⟩:=I.loc;⟨m,hn,fun i x v e1 e2 e3=>hl' i x v e1 (w i v e2) e3⟩,I.cell,I.free,I.freeC,I.pin,I.hok,hl.trans I.len⟩
theorem Inv.pins_of{pins':VW}(I:Inv X pins σ H s)(h:∀p∈pins',s.heap.get? p.1=some p.2/\H p.1=none/\p.1≠X.env.locals/\p.1∉X.fs/\∀v,p.2.data≠.cell v):Inv X pins' σ H s :=
 ⟨I.ok,I.os,I.bare,I.base,I.loc,I.cell,I.free,I.freeC,fun p hp=>(SS.mp hp).elim (fun z=>I.pin p (List.mem_append_left _ z)) (h p),I.hok,I.len⟩
theorem Jfp{N:VJ}(hN:N.Nodup){i j:Nat}{x:Str}(a:N[i]?=some x)(b:N[j]?=some x):i=j:=by obtain⟨h1,e1⟩:=SY.mp a;obtain⟨h2,e2⟩:=SY.mp b;exact(List.getElem_inj hN).mp (e1.trans e2.symm)
theorem Jcc{M:Model}{A:VD}{E:VQ}{i:Nat}{x:Str}{v:V}{u:VR}{Q:Unit->VP->Prop}(I:Inv X pins σ H s)(hN:X.N.Nodup)(hi:X.N[i]?=some x)(hx:Loc X.env.scope x)(r:RelV v u)
  (h:∀s',Inv X pins (σ.set i (some v)) H s'->(∃a,Heap.SameBut a s.heap s'.heap/\(a=X.env.locals\/X.env.cells.lookup x=some a))->Q () s') (hf:X.fn x=true\/X.env.scope.names.lookup x=some .local:=by first|exact .inl rfl|exact .inr rfl|assumption):wpAny M A (storeName X.env x u) Q E s:=by
 obtain⟨m,hn,hl⟩:=id I.loc;have hcls:(X.env.scope.kind==.class||(X.env.scope.kind==.module&&X.env.locals != X.env.globals))=false:=by rw[I.ok.kind];rfl
 have hiσ:i<σ.length:=by rw[I.len];exact(SY.mp hi).1
 have cne:=I.cne;have tracked:∀{a:VB}{h':Heap},(∃o,s.heap.get? a=some o/\H a=none)->Heap.SameBut a s.heap h'->HOk X.prog X.w H h':=fun {a h'} ha hs b ob e=>by
  obtain⟨_,_,hfree⟩:=ha;refine(I.hok b ob e).stay (fun c w' hc q=>(hs.2 c ?_).trans q) (fun _ q=>q) fun _ _ q=>q;rintro rfl;rcases hc with rfl|hc
  ·rw [hfree] at e; cases e
  ·rw [hfree] at hc; cases hc
 rcases hx with hk|hk
 ·refine wpAny_storeName_local hk hn (fun h' hn' hs=>?_) hcls;obtain⟨oL,_,_,hoL,_⟩:=id hn;refine h _ ⟨I.ok,I.os,I.bare,⟨fun b o e n hb hx=>?_,fun b o e n hb hx=>?_,I.base.free,fun b o e hx=>?_,I.base.tups,I.base.frzs,I.base.tbls⟩,⟨_,hn',fun j y v' e1 e2 e3=>?_⟩,fun y c e=>?_,I.free,I.freeC,fun p hp=>?_,tracked ⟨oL,hoL,I.free⟩ hs,by simpa using I.len⟩ ⟨_,hs,.inl rfl⟩
  ·exact (hs.2 b (SF (SC (SQ e) I.ok.above))).trans (I.base.keep b o e n hb hx)
  ·obtain ⟨sl,e1⟩:=I.base.slot b o e n hb hx;exact⟨sl,(hs.2 b (SF (SC (SQ e) I.ok.above))).trans e1⟩
  ·obtain ⟨o',e1⟩:=I.base.there b o e hx;exact⟨o',(hs.2 b (SF (SC (SQ e) I.ok.above))).trans e1⟩
  ·by_cases hj:j=i
   ·subst hj;rw[hi]at e1;cases e1;rw[List.getElem?_set_self hiσ]at e2;cases e2;exact⟨u,r,.inl ⟨hk,by simp⟩⟩
   ·rw [List.getElem?_set_ne (Ne.symm hj)] at e2;obtain⟨u',r',q⟩:=hl j y v' e1 e2 e3;refine⟨u',r',?_⟩;rcases q with⟨k,e⟩|⟨k,c,e,z⟩
    ·refine .inl ⟨k,?_⟩;have:y≠x:=fun e=>hj (Jfp hN e1 (e▸hi));simp[this,e]
    ·exact .inr ⟨k,c,e,z.sameBut hs (cne y c e)⟩
  ·obtain ⟨w',z⟩:=I.cell y c e;exact⟨w',z.sameBut hs (cne y c e)⟩
  ·obtain ⟨e,n,ne,nf,d⟩:=I.pin p hp;exact⟨(hs.2 p.1 ne).trans e,n,ne,nf,d⟩
 ·have hfn:X.fn x=true:=by
   rcases hf with z|z
   ·exact z
   ·rw [z] at hk; cases hk
  obtain⟨c,hc⟩:=I.ok.has x (.inl hk);obtain⟨w',z⟩:=I.cell x c hc;refine wpAny_storeName_cell I.ok.kind hk hc z (fun h' hc' hs=>?_);obtain⟨oc,hoc,hocd⟩:=id z;refine h { s with heap:=h' } ⟨I.ok,I.os,I.bare,⟨fun b o e n hb hx=>?_,fun b o e n hb hx=>?_,I.base.free,fun b o e hx=>?_,I.base.tups,I.base.frzs,I.base.tbls⟩,⟨m,hn.sameBut hs (Ne.symm (cne x c hc)),fun j y v' e1 e2 e3=>?_⟩,fun y c' e=>?_,I.free,I.freeC,fun p hp=>?_,tracked ⟨oc,hoc,I.freeC x c hc⟩ hs,by simpa using I.len⟩ ⟨c,hs,.inr hc⟩
  ·exact (hs.2 b (SF (SC (SQ e) (I.ok.cab x c hfn hc)))).trans (I.base.keep b o e n hb hx)
  ·obtain ⟨sl,e1⟩:=I.base.slot b o e n hb hx;exact⟨sl,(hs.2 b (SF (SC (SQ e) (I.ok.cab x c hfn hc)))).trans e1⟩
  ·obtain ⟨o',e1⟩:=I.base.there b o e hx;exact⟨o',(hs.2 b (SF (SC (SQ e) (I.ok.cab x c hfn hc)))).trans e1⟩
  ·by_cases hj:j=i
   ·subst hj;rw[hi]at e1;cases e1;rw[List.getElem?_set_self hiσ]at e2;cases e2;exact⟨u,r,.inr ⟨.inl hk,c,hc,hc'⟩⟩
   ·rw [List.getElem?_set_ne (Ne.symm hj)] at e2;obtain⟨u',r',q⟩:=hl j y v' e1 e2 e3;refine⟨u',r',?_⟩;rcases q with q|⟨k,c',e,z'⟩
    ·exact .inl q
    ·refine .inr ⟨k,c',e,z'.sameBut hs ?_⟩;rintro rfl;exact hj (Jfp hN e1 (I.ok.inj _ _ _ e hc▸hi))
  ·by_cases hcc:c'=c
   ·subst hcc; exact ⟨_,hc'⟩
   ·obtain ⟨w2,z2⟩:=I.cell y c' e;exact⟨w2,z2.sameBut hs hcc⟩
  ·obtain ⟨e,n,ne,nf,d⟩:=I.pin p hp;refine⟨(hs.2 p.1 ?_).trans e,n,ne,nf,d⟩;intro q;rw[q,hoc]at e;have q':oc=p.2:=Option.some.inj e;exact d w' (by rw[<- q'];exact hocd)
theorem UN{M:Model}{A:VD}{E:VQ}{i:Nat}{x:Str}{v:V}{u:VR}{Q:Unit->VP->Prop}(I:Inv X pins σ H s)(hN:X.N.Nodup)(hi:X.N[i]?=some x)(hx:Loc X.env.scope x)(r:RelV v u)
  (h:∀s',Inv X pins (σ.set i (some v)) H s'->Q () s') (hf:X.fn x=true\/X.env.scope.names.lookup x=some .local:=by first|exact .inl rfl|exact .inr rfl|assumption):wpAny M A (storeName X.env x u) Q E s :=
 Jcc I hN hi hx r (fun s' I' _=>h s' I') hf
theorem Inv.call'{s':VP}{ch:List VB}(I:Inv X pins σ H s)(ho:s'.os=s.os)(u:Un (frs X.stack) ch H H' s.heap s'.heap)(hok:HOk X.prog X.w H' s'.heap)(hg:AllBare s'.gens)
  (hch:∀b∈ch,(b∈X.ex\/X.s₀.heap.objs.size<=b)/\b≠X.env.locals/\(∀x c,X.env.cells.lookup x=some c->c≠b)/\∀p∈X.pn++pins,p.1≠b):Inv X pins σ H' s':=by
 obtain⟨h',g',d',t',o'⟩:=s';have e:o'=s.os:=ho;subst e;exact I.call (g':=g') (t':=t') (d':=d') u hok hg hch
end
abbrev XK:=VR->Option VB->Hp->Prop
abbrev St:=List (Option V)
abbrev VK:=V->Hp->Prop
abbrev TE:=St->Hp->VK->Prop
abbrev TT:=St->Hp->(Bool->Hp->Prop)->Prop
abbrev TA:=St->Hp->(VS->Hp->Prop)->Prop
structure Ends where
 nx:St->Hp->Prop
 rt:VK
 bk:St->Hp->Prop:=fun _ _=>False
 ct:St->Hp->Prop:=fun _ _=>False
abbrev TS:=Ends->St->Hp->Prop
def EP(X:Cx)(pins:VW)(σ:St)(Q:VK)(u:VR)(s':VP):Prop:=∃v H',Inv X pins σ H' s'/\RelV v u/\Q v H'
def TP(X:Cx)(pins:VW)(σ:St)(Q:Bool->Hp->Prop)(b:Bool)(s':VP):Prop:=∃H',Inv X pins σ H' s'/\Q b H'
def AP(X:Cx)(pins:VW)(σ:St)(Q:VS->Hp->Prop)(us:VU)(s':VP):Prop:=∃vs H',Inv X pins σ H' s'/\Vals vs us/\Q vs H'
def SP(X:Cx)(pins:VW)(D:Ends)(f:Flow)(s':VP):Prop :=
 match f with
 | .next=>∃ σ' H',Inv X pins σ' H' s'/\D.nx σ' H'
 | .brk=>∃ σ' H',Inv X pins σ' H' s'/\D.bk σ' H'
 | .cont=>∃ σ' H',Inv X pins σ' H' s'/\D.ct σ' H'
 | .ret u=>∃ v σ' H',Inv X pins σ' H' s'/\RelV v u/\D.rt v H'
def PE(X:Cx)(e:Expr)(t:TE):Prop :=
 ∀(pins:VW)(s:VP)(σ:St)(H:Hp)(Q:VK),Inv X pins σ H s->t σ H Q->wpAny (model X.prog X.w) X.A (eval e X.env) (EP X pins σ Q) X.xe s
def PT(X:Cx)(e:Expr)(t:TT):Prop :=
 ∀(pins:VW)(s:VP)(σ:St)(H:Hp)(Q:Bool->Hp->Prop),Inv X pins σ H s->t σ H Q->wpAny (model X.prog X.w) X.A (isTrue e X.env (eval e X.env)) (TP X pins σ Q) X.xe s
def PW(X:Cx)(e:Expr)(t:TT):Prop :=
 ∀(whole:Sem VR)(pins:VW)(s:VP)(σ:St)(H:Hp)(Q:Bool->Hp->Prop),Inv X pins σ H s->t σ H Q->wpAny (model X.prog X.w) X.A (isTrue e X.env whole) (TP X pins σ Q) X.xe s
theorem PW.pt{X:Cx}{e:Expr}{t:TT}(h:PW X e t):PT X e t:=h _
def PA(X:Cx)(es:List Expr)(t:TA):Prop :=
 ∀(pos:Pos)(pins:VW)(s:VP)(σ:St)(H:Hp)(Q:VS->Hp->Prop),Inv X pins σ H s->t σ H Q->wpAny (model X.prog X.w) X.A (spliced (backTo pos (starEach es X.env))) (AP X pins σ Q) X.xe s
def PS(X:Cx)(st:Stmt)(t:TS):Prop :=
 ∀(pins:VW)(s:VP)(σ:St)(H:Hp)(D:Ends),Inv X pins σ H s->t D σ H->wpAny (model X.prog X.w) X.A (exec st X.env) (SP X pins D) X.xe s
def PSs(X:Cx)(st:List Stmt)(t:TS):Prop :=
 ∀(pins:VW)(s:VP)(σ:St)(H:Hp)(D:Ends),Inv X pins σ H s->t D σ H->wpAny (model X.prog X.w) X.A (execs st X.env) (SP X pins D) X.xe s
theorem thn{α:Type}{t:Sem α}{Q Q':α->VP->Prop}{M:Model}{A:VD}{E:VQ}{s:VP}(h:wpAny M A t Q E s)(hQ:∀a s,Q a s->Q' a s):wpAny M A t Q' E s:=wpAny_mono h hQ fun _ _ x=>x
section
variable{X:Cx}
def tVar(i:Nat):TE:=fun σ H Q=>∃v,σ[i]?=some (some v)/\Q v H
def tC(v:V):TE:=fun _ H Q=>Q v H
theorem Jun{i:Nat}{x:Str}{pos:Pos}(hN:X.N[i]?=some x)(hv:Vis X.env.scope x)(hd:(x==("__debug__":Str))=false:=by decide)(hcd:(x==("__classdict__":Str))=false:=by decide):PE X (.Name x pos) (tVar i):=by
 intro pins s σ H Q I h;obtain⟨v,e,h⟩:=h;obtain⟨m,hn,hl⟩:=I.loc;obtain⟨u,r,l⟩:=hl i x v hN e hv;have fin:EP X pins σ Q u s:=⟨v,H,I,r,h⟩;rcases l with⟨hk,hm⟩|⟨hk,c,hc,hcell⟩
 ·exact wpAny_Name (wpAny_loadName_local I.ok.kind hk hn hm fin) hd
 ·rcases hk with hk | hk
  ·exact wpAny_Name (wpAny_loadName_cell I.ok.kind hk hc hcell fin) hd
  ·exact wpAny_Name (wpAny_loadName_free I.ok.kind hk hc hcell fin hcd) hd
theorem Jf{i j pos}:PE X (.Constant (.int i) j pos) (tC (.int i)):=fun _ _ _ H _ I h=>wpAny_Constant_int ⟨.int i,H,I.tok _,⟨_,rfl⟩,h⟩
theorem JG{b j pos}:PE X (.Constant (.bool b) j pos) (tC (.bl b)):=fun _ _ _ H _ I h=>Constant_bool ⟨.bl b,H,I,rfl,h⟩
theorem Yr{j pos}:PE X (.Constant .none j pos) (tC .non):=fun _ _ _ H _ I h=>Constant_none ⟨.non,H,I,rfl,h⟩
theorem ZN{x j pos}:PE X (.Constant (.str x) j pos) (tC (.str x)):=fun _ _ _ H _ I h=>Calls.Constant_str ⟨.str x,H,I.tok _,⟨_,rfl⟩,h⟩
def Gl(X:Cx)(x:Str):Prop:=X.env.kindOf x=some .globalImplicit
theorem Jjj{E:VQ}{pins:VW}{s:VP}{σ:St}{H:Hp}{x:Str}{u:VR}{pos:Pos}{Q:VQ}(I:Inv X pins σ H s)(hg:Gl X x)(hm:X.mg x=some u)(h:Q u s)
  (hd:(x==("__debug__":Str))=false:=by decide):wpAny (model X.prog X.w) X.A (eval (.Name x pos) X.env) Q E s :=
 Calls.Name_function_global I.ok.kind hg (Calls.loadGlobal_global (by rw[I.ok.glob];exact I.mod.glob.keeps I.bk) hm h) hd
theorem Zk{E:VQ}{pins:VW}{s:VP}{σ:St}{H:Hp}{x:Str}{u:VR}{pos:Pos}{Q:VQ}(I:Inv X pins σ H s)(hg:Gl X x)(hm:X.mg x=none)(hv:bootBuiltins x=some u)(h:Q u s)
  (hn:x≠"__name__":=by decide) (hd:(x==("__debug__":Str))=false:=by decide):wpAny (model X.prog X.w) X.A (eval (.Name x pos) X.env) Q E s:=by
 obtain⟨mb,h1,h2⟩:=I.mod.blt;exact Calls.Name_function_global I.ok.kind hg (Calls.loadGlobal_builtin (by rw[I.ok.glob];exact I.mod.glob.keeps I.bk) hm (by rw[I.ok.blt];exact h1.keeps I.bk) ((h2 x hn).trans hv) h) hd
theorem Jrk{x:Str}{v:V}{u:VR}{pos:Pos}(hg:Gl X x)(hm:X.mg x=some u)(r:RelV v u)(hd:(x==("__debug__":Str))=false:=by decide):PE X (.Name x pos) (tC v) :=
 fun _ _ _ H _ I h=>Jjj I hg hm ⟨v,H,I,r,h⟩ hd
theorem Zn{x:Str}{v:V}{u:VR}{pos:Pos}(hg:Gl X x)(hm:X.mg x=none)(hv:bootBuiltins x=some u)(r:RelV v u)(hn:x≠"__name__":=by decide)(hd:(x==("__debug__":Str))=false:=by decide):PE X (.Name x pos) (tC v) :=
 fun _ _ _ H _ I h=>Zk I hg hm hv ⟨v,H,I,r,h⟩ hn hd
variable{a b:Expr}{ta tb:TE}{pos:Pos}
def PC(X:Cx)(op:CmpOp)(a b:Expr)(t:TE):Prop :=
 ∀(pins:VW)(s:VP)(σ:St)(H:Hp)(Q:VK),Inv X pins σ H s->t σ H Q ->
  wpAny (model X.prog X.w) X.A (eval a X.env) (fun v s₁=>wpAny (model X.prog X.w) X.A (eval b X.env) (fun u s₂=>wpAny (model X.prog X.w) X.A (compareOp op v u) (EP X pins σ Q) X.xe s₂) X.xe s₁) X.xe s
def tB(t:TE):TT:=fun σ H Q=>t σ H fun x H1=>∃c,x=.bl c/\Q c H1
theorem Jhf{op:CmpOp}{t:TE}(h:PC X op a b t)(h1:behindInMarks op b=false:=by first|exact nobehind _ (by decide) (by decide)|rfl):PE X (.Compare a [op] [b] pos) t:=fun pins s σ H Q I hw=>wpAny_Compare1 (h pins s σ H Q I hw) h1
theorem UG{op:CmpOp}{t:TE}(h:PC X op a b t)(h1:behindInMarks op b=false:=by first|exact nobehind _ (by decide) (by decide)|rfl):PT X (.Compare a [op] [b] pos) (tB t):=by intro pins s σ H Q I hw;refine wpAny_isTrue_Compare1 (thn (h pins s σ H _ I hw) fun v s1 h1=>thn h1 fun u s2 h2=>thn h2 fun c s3 ⟨x,H1,I1,r1,q1⟩=>?_) h1;obtain⟨d,rfl,q⟩:=q1;cases r1;exact wpAny_truthy_bool ⟨H1,I1,q⟩
theorem Jui{e:Expr}{t:TE}(h:PE X e t)(he:∀whole,isTrue e X.env whole=(do let v <- whole;standAt e.pos;holding [v] (truthy v)):=by intro _;rfl):PT X e (tB t):=by intro pins s σ H Q I hw;refine isTrue_plain (thn (h pins s σ H _ I hw) fun v s1 ⟨x,H1,I1,r1,q1⟩=>?_) (he _);obtain⟨d,rfl,q⟩:=q1;cases r1;exact wpAny_truthy_bool ⟨H1,I1,q⟩
variable{tA tB':TT}{rest:List Expr}
def tAnd(t u:TT):TT:=fun σ H Q=>t σ H fun c H1=>if c=true then u σ H1 Q else Q false H1
def tOr(t u:TT):TT:=fun σ H Q=>t σ H fun c H1=>if c=true then Q true H1 else u σ H1 Q
def tNot(t:TT):TT:=fun σ H Q=>t σ H fun c H1=>Q (!c) H1
theorem Zl(ha:PT X a tA):PW X (.BoolOp .And [a] pos) tA:=by
 intro wh pins s σ H Q I h;refine isTrue_and (thn (ha pins s σ H Q I h) fun c s1 e=>?_);cases c with
 | true=>exact isTrue_and_nil e
 | false=>exact e
theorem Zr(ha:PT X a tA):PW X (.BoolOp .Or [a] pos) tA:=by
 intro wh pins s σ H Q I h;refine isTrue_or (thn (ha pins s σ H Q I h) fun c s1 e=>?_);cases c with
 | false=>exact isTrue_or_nil e
 | true=>exact e
theorem Wi(ha:PT X a tA)(hb:PW X (.BoolOp .And (b::rest) pos) tB'):PW X (.BoolOp .And (a::b::rest) pos) (tAnd tA tB'):=by
 intro wh pins s σ H Q I h;refine isTrue_and (thn (ha pins s σ H _ I h) fun c s1 ⟨H1,I1,q1⟩=>?_);cases c with
 | true=>exact hb wh pins s1 σ H1 Q I1 q1
 | false=>exact ⟨H1,I1,q1⟩
theorem ZS(ha:PT X a tA)(hb:PW X (.BoolOp .Or (b::rest) pos) tB'):PW X (.BoolOp .Or (a::b::rest) pos) (tOr tA tB'):=by
 intro wh pins s σ H Q I h;refine isTrue_or (thn (ha pins s σ H _ I h) fun c s1 ⟨H1,I1,q1⟩=>?_);cases c with
 | true=>exact ⟨H1,I1,q1⟩
 | false=>exact hb wh pins s1 σ H1 Q I1 q1
theorem Yj(ha:PT X a tA):PT X (.UnaryOp .Not a pos) (tNot tA):=by intro pins s σ H Q I h;exact isTrue_not (ha pins s σ H (fun c H1=>Q (!c) H1) I h)
def Jwt(ta tb:TE):TE:=fun σ H Q=>ta σ H fun x H1=>∃c,x=.bl c/\if c=true then tb σ H1 Q else Q (.bl false) H1
def tOrV(ta tb:TE):TE:=fun σ H Q=>ta σ H fun x H1=>∃c,x=.bl c/\if c=true then Q (.bl true) H1 else tb σ H1 Q
def Jwq(ta:TE):TE:=fun σ H Q=>ta σ H fun x H1=>∃c,x=.bl c/\Q (.bl (!c)) H1
theorem YN{op}{t:TE}(h:PE X a t):PE X (.BoolOp op [a] pos) t:=fun pins s σ H Q I hw=>BoolOp_one (h pins s σ H Q I hw)
theorem Yw(ha:PE X a ta)(hb:PE X (.BoolOp .And (b::rest) pos) tb):PE X (.BoolOp .And (a::b::rest) pos) (Jwt ta tb):=by
 intro pins s σ H Q I h;refine BoolOp_and (thn (ha pins s σ H _ I h) fun v s1 ⟨x,H1,I1,r1,q1⟩=>?_);obtain⟨c,rfl,q1⟩:=q1;cases r1;refine wpAny_truthy_bool ?_;cases c with
 | true=>exact hb pins s1 σ H1 Q I1 q1
 | false=>exact ⟨.bl false,H1,I1,rfl,q1⟩
theorem pe_or(ha:PE X a ta)(hb:PE X (.BoolOp .Or (b::rest) pos) tb):PE X (.BoolOp .Or (a::b::rest) pos) (tOrV ta tb):=by
 intro pins s σ H Q I h;refine BoolOp_or (thn (ha pins s σ H _ I h) fun v s1 ⟨x,H1,I1,r1,q1⟩=>?_);obtain⟨c,rfl,q1⟩:=q1;cases r1;refine wpAny_truthy_bool ?_;cases c with
 | false=>exact hb pins s1 σ H1 Q I1 q1
 | true=>exact ⟨.bl true,H1,I1,rfl,q1⟩
theorem Juo(ha:PE X a ta):PE X (.UnaryOp .Not a pos) (Jwq ta):=by intro pins s σ H Q I h;refine UnaryOp_ (thn (ha pins s σ H _ I h) fun v s1 ⟨x,H1,I1,r1,q1⟩=>?_);obtain⟨c,rfl,q1⟩:=q1;cases r1;exact not_of (wpAny_truthy_bool ⟨.bl (!c),H1,I1,rfl,q1⟩)
end
def SqL(K:VG)(H:Hp)(a:VB)(xs:VS):Prop :=
 Rd H a (.lst xs) \/
  ∃(o:Obj)(its:Array VR)(n:Nat),K.lookup a=some o/\o.cls=.type "list"/\o.dict=none/\o.data=.seq its n/\its.size<=sizeLine/\Vals xs its.toList
def SqT(K:VG)(H:Hp)(a:VB)(xs:VS):Prop :=
 Rd H a (.tup xs) \/
  ∃(o:Obj)(its:Array VR)(n:Nat),K.lookup a=some o/\o.cls=.type "tuple"/\o.data=.seq its n/\its.size<=sizeLine/\Vals xs its.toList
def absV:VR->Option V
 | .none=>some .non
 | .bool b=>some (.bl b)
 | .int i _=>some (.int i)
 | .str x _=>some (.str x)
 | .bytes b _=>some (.byt b)
 | .float b _=>some (.flt b)
 | .ref a=>some (.ref a)
 | .type n=>some (.ty n)
 | _=>none
theorem RelV.abs{x:V}{u:VR}(r:RelV x u):absV u=some x:=by
 cases x with
 | non=>cases r; rfl
 | bl _=>cases r; rfl
 | int _=>obtain ⟨t,rfl⟩:=r; rfl
 | str _=>obtain ⟨t,rfl⟩:=r; rfl
 | byt _=>obtain ⟨t,rfl⟩:=r; rfl
 | flt _=>obtain ⟨t,rfl⟩:=r; rfl
 | ref _=>cases r; rfl
 | ty _=>cases r; rfl
theorem RelV.inj{x y:V}{u:VR}(r:RelV x u)(q:RelV y u):x=y:=Option.some.inj (r.abs.symm.trans q.abs)
theorem Vals.inj:∀{xs ys:VS}{us:VU},Vals xs us->Vals ys us->xs=ys
 | _,_,_,.nil,.nil=>rfl
 | _,_,_,.cons r t,.cons r' t'=>by rw [r.inj r',Vals.inj t t']
section
variable{X:Cx}{pins:VW}{σ:St}{H:Hp}{s:VP}{a:VB}{xs ys:VS}
theorem SqL.of{K:VG}(h:H a=some (.lst xs)):SqL K H a xs:=.inl (.inl h)
theorem SqT.of{K:VG}(h:H a=some (.tup xs)):SqT K H a xs:=.inl (.inl h)
theorem Inv.list(I:Inv X pins σ H s)(h:SqL X.K H a xs):∃its:VU,Vals xs its/\PlainL s.heap a its.toArray/\xs.length<=sizeLine:=by
 rcases h with h|⟨o,its,n,hk,hc,hd,hs,hz,r⟩
 ·obtain ⟨z,its,n,r,e⟩:=h.ok I.hok;exact⟨its,r,⟨_,n,e,rfl,rfl,rfl⟩,z⟩
 ·refine ⟨its.toList,r,⟨o,n,I.kIn a o hk,hc,hd,by simpa using hs⟩,?_⟩;have e:=r.length;simp only[Array.length_toList]at e;omega
theorem Inv.tuple(I:Inv X pins σ H s)(h:SqT X.K H a xs):∃its:VU,Vals xs its/\IsTup s.heap a its.toArray/\xs.length<=sizeLine:=by
 rcases h with h|⟨o,its,n,hk,hc,hs,hz,r⟩
 ·obtain ⟨z,its,r,p⟩:=h.ok I.hok;exact⟨its,r,p,z⟩
 ·refine ⟨its.toList,r,⟨o,I.kIn a o hk,hc,n,by simpa using hs⟩,?_⟩;have e:=r.length;simp only[Array.length_toList]at e;omega
theorem Inv.list_inj(I:Inv X pins σ H s)(h:SqL X.K H a xs)(h':SqL X.K H a ys):xs=ys:=by
 obtain⟨its,r,⟨o,n,e,_,_,d⟩,_⟩:=I.list h;obtain⟨its',r',⟨o',n',e',_,_,d'⟩,_⟩:=I.list h';rw[e]at e';cases e';rw[d]at d';injection d' with d1 _
 have:its=its':=by simpa using congrArg Array.toList d1
 subst this;exact r.inj r'
theorem Inv.tuple_inj(I:Inv X pins σ H s)(h:SqT X.K H a xs)(h':SqT X.K H a ys):xs=ys:=by
 obtain⟨its,r,⟨o,e,_,n,d⟩,_⟩:=I.tuple h;obtain⟨its',r',⟨o',e',_,n',d'⟩,_⟩:=I.tuple h';rw[e]at e';cases e';rw[d]at d';injection d' with d1 _
 have:its=its':=by simpa using congrArg Array.toList d1
 subst this;exact r.inj r'
end
abbrev Cx.wish(X:Cx)(E:VQ):Cx:={ X with xe:=E }
abbrev Cx.nox(X:Cx):Cx:=X.wish fun _ _=>False
theorem Cx.Ok.wish{X:Cx}(ok:X.Ok)(E:VQ):(X.wish E).Ok :=
 ⟨ok.mod,ok.kind,ok.glob,ok.blt,ok.above,ok.inj,ok.has,ok.cab,ok.hd,ok.frames,ok.stk,ok.exf,ok.bs,ok.bsz,ok.noex,ok.exfs,ok.funs,ok.frf⟩
theorem Cx.Ok.unwish{X:Cx}{E:VQ}(ok:(X.wish E).Ok):X.Ok :=
 ⟨ok.mod,ok.kind,ok.glob,ok.blt,ok.above,ok.inj,ok.has,ok.cab,ok.hd,ok.frames,ok.stk,ok.exf,ok.bs,ok.bsz,ok.noex,ok.exfs,ok.funs,ok.frf⟩
section
variable{X:Cx}{pins:VW}{σ:St}{H:Hp}{s:VP}{E:VQ}
theorem Inv.wish(I:Inv X pins σ H s)(E:VQ):Inv (X.wish E) pins σ H s:=⟨I.ok.wish E,I.os,I.bare,I.base,I.loc,I.cell,I.free,I.freeC,I.pin,I.hok,I.len⟩
theorem Inv.unwish(I:Inv (X.wish E) pins σ H s):Inv X pins σ H s:=⟨I.ok.unwish,I.os,I.bare,I.base,I.loc,I.cell,I.free,I.freeC,I.pin,I.hok,I.len⟩
theorem SP.unwish{D:Ends}{f:Flow}{s':VP}(h:SP (X.wish E) pins D f s'):SP X pins D f s':=by
 cases f with
 | next=>obtain ⟨σ',H',I,q⟩:=h; exact ⟨σ',H',I.unwish,q⟩
 | brk=>obtain ⟨σ',H',I,q⟩:=h; exact ⟨σ',H',I.unwish,q⟩
 | cont=>obtain ⟨σ',H',I,q⟩:=h; exact ⟨σ',H',I.unwish,q⟩
 | ret u=>obtain ⟨v,σ',H',I,r,q⟩:=h; exact ⟨v,σ',H',I.unwish,r,q⟩
theorem PSs.nox{st:List Stmt}{t:TS}(h:PSs X.nox st t):PSs X st t:=fun pins s σ H D I hw =>
 wpAny_mono (h pins s σ H D (I.wish _) hw) (fun _ _ q=>q.unwish) fun _ _ z=>False.elim z
end
section
variable{X:Cx}{st:Stmt}{rest:List Stmt}{t u:TS}{e:Expr}{te:TE}{pos:Pos}
def Jsv:TS:=fun D σ H=>D.nx σ H
def tSeq(t u:TS):TS:=fun D σ H=>t { D with nx:=u D } σ H
theorem Jt:PSs X [] Jsv:=fun _ _ σ H _ I h=>wpAny_execs_nil ⟨σ,H,I,h⟩
theorem Jd(h1:PS X st t)(h2:PSs X rest u):PSs X (st::rest) (tSeq t u):=by
 intro pins s σ H D I h;refine wpAny_execs_cons (thn (h1 pins s σ H { D with nx:=u D } I h) fun f s1 q=>?_);cases f with
 | next =>
  obtain⟨σ',H',I',q⟩:=q;exact h2 pins s1 σ' H' D I' q
 | ret v=>exact q
 | brk=>exact q
 | cont=>exact q
theorem Je(h1:PS X st t):PSs X [st] t:=by
 intro pins s σ H D I h;refine wpAny_execs_cons (thn (h1 pins s σ H D I h) fun f s1 q=>?_);cases f with
 | next=>exact wpAny_execs_nil q
 | ret v=>exact q
 | brk=>exact q
 | cont=>exact q
theorem Inv.quiet{pins:VW}{σ:St}{H:Hp}{s:VP}(I:Inv X pins σ H s):interactive X.env=false:=by simp[interactive,I.ok.kind]
def Jws(te:TE):TS:=fun D σ H=>te σ H fun _ H1=>D.nx σ H1
theorem YE(he:PE X e te)(hs:swapsWith e none pos.line X.env=pure false:=by rfl):PS X (.Expr e pos) (Jws te):=by intro pins s σ H D I h;exact wpAny_Expr_any (thn (he pins s σ H _ I h) fun v s1 ⟨x,H1,I1,r1,q1⟩=>⟨σ,H1,I1,q1⟩) I.quiet hs
def tRet(te:TE):TS:=fun D σ H=>te σ H D.rt
theorem Ji(he:PE X e te):PS X (.Return (some e) pos) (tRet te):=by intro pins s σ H D I h;exact wpAny_Return_some (thn (he pins s σ H _ I h) fun v s1 ⟨x,H1,I1,r1,q1⟩=>⟨x,σ,H1,I1,r1,q1⟩)
def tIfS(c:TT)(t u:TS):TS:=fun D σ H=>c σ H fun b H1=>if b=true then t D σ H1 else u D σ H1
theorem JA{c:Expr}{a b:List Stmt}{tc:TT}(hc:PT X c tc)(ha:PSs X a t)(hb:PSs X b u):PS X (.If c a b pos) (tIfS tc t u):=by
 intro pins s σ H D I h;refine wpAny_If (thn (hc pins s σ H _ I h) fun d s1 ⟨H1,I1,q1⟩=>?_);cases d with
 | true=>exact ha pins s1 σ H1 D I1 q1
 | false=>exact hb pins s1 σ H1 D I1 q1
def Jdh:TS:=fun _ _ _=>False
theorem WN:PS X st Jdh:=fun _ _ _ _ _ _ h=>h.elim
theorem Jla{sts:List Stmt}:PSs X sts Jdh:=fun _ _ _ _ _ _ h=>h.elim
end
abbrev TG:=V->St->Hp->(St->Hp->Prop)->Prop
abbrev TGs:=VS->St->Hp->(St->Hp->Prop)->Prop
def PG(X:Cx)(target:Expr)(t:TG):Prop :=
 ∀(pins:VW)(s:VP)(σ:St)(H:Hp)(v:V)(u:VR)(Q:St->Hp->Prop),Inv X pins σ H s->RelV v u->t v σ H Q ->
  wpAny (model X.prog X.w) X.A (assign target X.env u) (fun _ s'=>∃σ' H',Inv X pins σ' H' s'/\Q σ' H') X.xe s
def PGs(X:Cx)(ts:List Expr)(t:TGs):Prop :=
 ∀(pins:VW)(s:VP)(σ:St)(H:Hp)(vs:VS)(us:VU)(Q:St->Hp->Prop),Inv X pins σ H s->Vals vs us->t vs σ H Q ->
  wpAny (model X.prog X.w) X.A (assignInOrder ((assignEach ts X.env).map (·.2)) us) (fun _ s'=>∃σ' H',Inv X pins σ' H' s'/\Q σ' H') X.xe s
abbrev TSet:=V->V->V->Hp->(Hp->Prop)->Prop
def PSet(X:Cx)(t:TSet):Prop :=
 ∀(pins:VW)(s:VP)(σ:St)(H:Hp)(o i v:V)(ov iv u:VR)(Q:Hp->Prop),Inv X pins σ H s->RelV o ov->RelV i iv->RelV v u->t o i v H Q ->
  wpAny (model X.prog X.w) X.A (setItem ov iv u) (fun _ s'=>∃H',Inv X pins σ H' s'/\Q H') X.xe s
section
variable{X:Cx}{pos:Pos}
def Wu(i:Nat):TG:=fun v σ H Q=>Q (σ.set i (some v)) H
theorem Jp{i:Nat}{x:Str}(hN:X.N.Nodup)(hi:X.N[i]?=some x)(hx:Loc X.env.scope x)(hf:X.fn x=true\/X.env.scope.names.lookup x=some .local:=by first|exact .inl rfl|exact .inr rfl|assumption):PG X (.Name x pos) (Wu i):=by intro pins s σ H v u Q I r h;exact wpAny_assign_Name (UN I hN hi hx r (fun s' I'=>⟨_,H,I',h⟩) hf)
def gNil:TGs:=fun vs σ H Q=>vs=[]/\Q σ H
def Jpo(t:TG)(u:TGs):TGs:=fun vs σ H Q=>∃v r,vs=v::r/\t v σ H fun σ' H'=>u r σ' H' Q
theorem Ub:PGs X [] gNil:=by intro pins s σ H vs us Q I r h;obtain⟨e,h⟩:=h;subst e;cases r;exact assignInOrder_nil ⟨σ,H,I,h⟩
theorem Yf{e:Expr}{es:List Expr}{t:TG}{u:TGs}(h1:PG X e t)(h2:PGs X es u)
  (hs:(assignEach (e::es) X.env).map (·.2)=assign e X.env::(assignEach es X.env).map (·.2):=by rfl):PGs X (e::es) (Jpo t u):=by
 intro pins s σ H vs us Q I r h;obtain⟨v,vr,e1,h⟩:=h;subst e1;cases r with
 | cons r rr =>
  rw[hs];refine assignInOrder_cons (thn (h1 pins s σ H _ _ _ I r h) fun _ s1 ⟨σ1,H1,I1,q1⟩=>?_);exact h2 pins s1 σ1 H1 _ _ Q I1 rr q1
def gTup(K:VG)(n:Nat)(t:TGs):TG:=fun v σ H Q=>∃a xs,v=.ref a/\SqT K H a xs/\xs.length=n/\t xs σ H Q
theorem Qw{es:List Expr}{k:Nat}{t:TGs}{n:Nat}(hc:X.calm=true)(h:PGs X es t)
  (hn:(assignEach es X.env).length=n:=by rfl) (hst:(assignEach es X.env).findIdx? (·.1)=none:=by rfl):PG X (.Tuple es k pos) (gTup X.K n t):=by
 intro pins s σ H v u Q I r hw;obtain⟨a,xs,e1,hq,hl,hw⟩:=hw;subst e1;cases r;obtain⟨its,rv,ht,hz⟩:=I.tuple hq;refine assign_Tuple_tuple (I.ok.hd hc) ht (by simp[hn,<- hl,rv.length]) hst fun h' hx=>?_;have I1:Inv X pins σ H { s with heap:=h' }:=I.kept (t':=s.toks) fun b o e=>hx b o (SF (SQ e)) e;exact h pins _ σ H xs _ Q I1 (by simpa using rv) hw
def gSub(to ti:TE)(t:TSet):TG:=fun v σ H Q=>to σ H fun o H1=>ti σ H1 fun i H2=>t o i v H2 fun H3=>Q σ H3
theorem Jns{o i:Expr}{to ti:TE}{t:TSet}(ho:PE X o to)(hi:PE X i ti)(hs:PSet X t)
  (ha:∀ v,assign (.Subscript o i pos) X.env v=(do
   let ov <- holding [v] (eval o X.env)
   let iv <- holding [v,ov] (eval i X.env)
   standAt pos
   holding [v,ov,iv] (setItem ov iv v)
   release [v,ov,iv] []):=by intro _; rfl):PG X (.Subscript o i pos) (gSub to ti t):=by
 intro pins s σ H v u Q I r h;rw[ha];refine VL (wpAny_holding (thn (ho pins s σ H _ I h) fun ov s1 ⟨x,H1,I1,r1,q1⟩=>?_));refine VL (wpAny_holding (thn (hi pins s1 σ H1 _ I1 q1) fun iv s2 ⟨y,H2,I2,r2,q2⟩=>?_));refine VL (wpAny_standAt (VL (wpAny_holding (thn (hs pins s2 σ H2 x y v ov iv u _ I2 r1 r2 r q2) fun _ s3 ⟨H3,I3,q3⟩=>?_))));exact wpAny_release ⟨σ,H3,I3,q3⟩
def tAsg(te:TE)(g:TG):TS:=fun D σ H=>te σ H fun x H1=>g x σ H1 D.nx
theorem Jnn{tg e:Expr}{te:TE}{g:TG}(he:PE X e te)(hg:PG X tg g)(hs:swapsWithSole [tg] e pos.line X.env=pure false:=by rfl)(hw:swappedStores [tg] e X.env=pure none:=by rfl)
  (h1:(assignEach [tg] X.env).map (·.2)=[assign tg X.env]:=by rfl):PS X (.Assign [tg] e pos) (tAsg te g):=by
 intro pins s σ H D I h;refine wpAny_Assign_stores (thn (he pins s σ H _ I h) fun v s1 ⟨x,H1,I1,r1,q1⟩=>?_) hs hw;rw[h1];exact thn (hg pins s1 σ H1 x v _ I1 r1 q1) fun _ s2 q=>q
theorem Jr{i:Nat}{x:Str}{e:Expr}{te:TE}{pos':Pos}(hN:X.N.Nodup)(hi:X.N[i]?=some x)(hx:Loc X.env.scope x)(he:PE X e te)(hs:swapsWith e (some (.Name x pos')) pos.line X.env=pure false:=by rfl)(hf:X.fn x=true\/X.env.scope.names.lookup x=some .local:=by first|exact .inl rfl|exact .inr rfl|assumption) :
  PS X (.Assign [.Name x pos'] e pos) (tAsg te (Wu i)):=by
 intro pins s σ H D I h;refine wpAny_Assign_Name (thn (he pins s σ H _ I h) fun v s1 ⟨y,H1,I1,r1,q1⟩=>?_) hs;exact UN I1 hN hi hx r1 (fun s2 I2=>⟨_,H1,I2,q1⟩) hf
def tPar(i j:Nat)(ta:TA):TS:=fun D σ H=>ta σ H fun vs H1=>∃v w,vs=[v,w]/\D.nx ((σ.set i (some v)).set j (some w)) H1
theorem Juj{i j:Nat}{x y:Str}{a b:Expr}{ta:TA}{px py pt:Pos}{kt k2 pt2}(hc:X.calm=true)(hN:X.N.Nodup)(hi:X.N[i]?=some x)(hj:X.N[j]?=some y)(hij:i≠j)
  (hx:X.env.scope.names.lookup x=some .local) (hy:X.env.scope.names.lookup y=some .local) (ha:PA X [a,b] ta)
  (hw:swappedStores [.Tuple [.Name x px,.Name y py] kt pt] (.Tuple [a,b] k2 pt2) X.env=pure (some [x,y]))
  (hs:swapsWithSole [.Tuple [.Name x px,.Name y py] kt pt] (.Tuple [a,b] k2 pt2) pos.line X.env=pure false:=by rfl) :
  PS X (.Assign [.Tuple [.Name x px,.Name y py] kt pt] (.Tuple [a,b] k2 pt2) pos) (tPar i j ta):=by
 intro pins s σ H D I h;rw[exec_Assign_arm];refine VL (wpAny_standAt ?_);rw[hs];refine VL (VM ?_);rw[if_neg (by decide)];refine VL (Tuple_ (thn (ha _ pins s σ H _ I h) fun us s1 ⟨vs,H1,I1,r1,q1⟩=>?_));obtain⟨v,w,e1,q1⟩:=q1;subst e1;obtain⟨u1,u2,rfl,rv,rw'⟩:∃u1 u2,us=[u1,u2]/\RelV v u1/\RelV w u2:=by
  cases r1 with
  | cons p q =>
   cases q with
   | cons p' q' =>
    cases q';exact⟨_,_,rfl,p,p'⟩
 refine wpAny_newObj_type ?_ (by show 2<=sizeLine;decide);have I2:Inv X pins σ H1 { s1 with heap:=s1.heap.push { cls:=.type "tuple",data:=.seq [u1,u2].toArray } }:=I1.kept (t':=s1.toks) fun b o e=>VN _ e;rw[hw];refine VL (VM ?_);show wpAny (model X.prog X.w) X.A (do rule "assign.swapped-stores";let items <- unpackItems (.ref s1.heap.objs.size) 2 none;assignInOrder [fun v=>bindName X.env y v,fun v=>bindName X.env x v] items.reverse;pure Flow.next) _ _ _;refine VL (wpAny_rule (VL (unpackItems_tuple (items:=#[u1,u2]) (I.ok.hd hc) (IsTup.new s1.heap _) fun h' hx'=>?_)));have I3:=I2.kept (h':=h') (t':=s1.toks) fun b o e=>hx' b o (SF (SQ e)) e;show wpAny _ _ (assignInOrder [fun v=>bindName X.env y v,fun v=>bindName X.env x v] [u2,u1] >>= fun _=>pure Flow.next) _ _ _;refine VL (assignInOrder_cons (wpAny_bindName (UN I3 hN hj (.inl hy) rw' (fun s2 I4=>?_) (.inr hy))));refine assignInOrder_cons (wpAny_bindName (UN I4 hN hi (.inl hx) rv (fun s3 I5=>assignInOrder_nil (VM ?_)) (.inr hx)));rw[List.set_comm _ _ (Ne.symm hij)]at I5;exact⟨_,H1,I5,q1⟩
end
section
variable{X:Cx}{pos:Pos}
def Jtv(c:TT)(tb:TS):TS:=fun D σ H=>∃W:Nat->St->Hp->Prop,(∃m,W m σ H)/\∀m σ H,W m σ H ->
 c σ H fun b H1=>if b=true then ∃N:St->Hp->Prop,(∀σ' H',N σ' H'->∃m',m'<m/\W m' σ' H')/\tb { D with nx:=N,ct:=N,bk:=D.nx } σ H1 else D.nx σ H1
theorem WM{c:Expr}{body:List Stmt}{tc:TT}{tb:TS}(hp:PassesOwn (model X.prog X.w) X.A X.env X.xe)(hc:PT X c tc)(hb:PSs X body tb):PS X (.While c body [] pos) (Jtv tc tb):=by
 intro pins s σ H D I h;obtain⟨W,⟨m0,w0⟩,turn⟩:=h;refine wpAny_While (codeAny_whileLoop (fun n s'=>∃σ' H',Inv X pins σ' H' s'/\W n σ' H') ?_ m0 ⟨σ,H,I,w0⟩);rintro n s1 ⟨σ1,H1,I1,w1⟩;refine wpAny_passesOwn hp (thn (hc pins s1 σ1 H1 _ I1 (turn n σ1 H1 w1)) fun b s2 ⟨H2,I2,q2⟩=>?_);cases b with
 | true =>
  obtain⟨N,hN,q2⟩:=q2;rw[if_pos rfl];refine wpAny_passesOwn hp (thn (hb pins s2 σ1 H2 _ I2 q2) fun f s3 q3=>?_);cases f with
  | next =>
   obtain⟨σ3,H3,I3,n3⟩:=q3;obtain⟨m',hm,w3⟩:=hN σ3 H3 n3;exact⟨m',hm,σ3,H3,I3,w3⟩
  | cont =>
   obtain⟨σ3,H3,I3,n3⟩:=q3;obtain⟨m',hm,w3⟩:=hN σ3 H3 n3;exact⟨m',hm,σ3,H3,I3,w3⟩
  | brk=>exact q3
  | ret v=>exact q3
 | false =>
  rw[if_neg Bool.false_ne_true];exact wpAny_execs_nil ⟨σ1,H2,I2,q2⟩
end
structure It where
 go:Nat->Hp->Prop
 yld:Nat->Hp->V->Hp->Prop
 stop:Nat->Hp->Prop
def FpOk(X:Cx)(pins:VW)(H:Hp)(b:VB):Prop :=
 H b=none/\b≠X.env.locals/\b∉X.fs/\(b∈X.ex\/X.s₀.heap.objs.size<=b)/\(∀x c,X.env.cells.lookup x=some c->c≠b)/\∀p∈X.pn++pins,p.1≠b
theorem Inv.fpOk{X:Cx}{pins:VW}{σ:St}{H H':Hp}{s:VP}{b:VB}(I:Inv X pins σ H s)(hb:s.heap.objs.size<=b)(hn:H' b=none):FpOk X pins H' b:=by
 refine⟨hn,Nat.ne_of_gt (SC I.lt hb),I.nofs hb,.inr (LQ I.sz hb),fun x c e z=>?_,fun p hp z=>?_⟩
 ·obtain ⟨v,q⟩:=I.cell x c e;exact absurd (SC q.lt (by rw[z];exact hb)) (SW _)
 ·exact absurd (SC (SQ (I.pin p hp).1) (by rw [z]; exact hb)) (SW _)
structure Turn(P:VC)(w:VF)(K:VG)(tg:Expr)(J:It)(fp:List VB)(it:VB)(tn:Nat->Heap->Prop):Prop where
 mem:it∈fp
 obj:∀i h,tn i h->∀b∈fp,∃o,h.get? b=some o/\∀v,o.data≠.cell v
 keep:∀i h h',tn i h->(∀b∈fp,∀o,h.get? b=some o->h'.get? b=some o)->tn i h'
 item:∀(X:Cx),X.prog=P->X.w=w->X.K=K->X.calm=true->∀(i:Nat)(pins:VW)(s:VP)(σ:St)(H:Hp)(E:VQ),Inv X pins σ H s->(∀b∈fp,FpOk X pins H b)->tn i s.heap->J.go i H ->
  wpAny (model P w) X.A (pyNext (.ref it)) (fun r s1=>∃ u,r=some u /\
   wpAny (model P w) X.A (letOwnedTupleGo tg (.ref it) u) (fun _ s2=>∃ x H',Inv X pins σ H' s2/\RelV x u/\J.yld i H x H'/\tn (i + 1) s2.heap/\∀ b∈fp,H' b=none) E s1) E s
 done:∀(X:Cx),X.prog=P->X.w=w->X.K=K->X.calm=true->∀(i:Nat)(pins:VW)(s:VP)(σ:St)(H:Hp)(E:VQ),Inv X pins σ H s->(∀b∈fp,FpOk X pins H b)->tn i s.heap->J.stop i H ->
  wpAny (model P w) X.A (pyNext (.ref it)) (fun r s1=>r=none/\Inv X pins σ H s1) E s
 self:∀(A:VD)(i:Nat)(s:VP)(Q:VQ)(E:VQ),tn i s.heap->Q (.ref it) s->wpAny (model P w) A (pyIter (.ref it)) Q E s
abbrev TI:=St->Hp->(It->Hp->Prop)->Prop
def PIE(X:Cx)(pins:VW)(σ:St)(tg:Expr)(R:It->Hp->Prop)(itv:VR)(s2:VP):Prop :=
 ∃(it:VB)(fp:List VB)(tn:Nat->Heap->Prop)(J:It)(H':Hp),itv=.ref it/\Inv X pins σ H' s2/\Turn X.prog X.w X.K tg J fp it tn/\tn 0 s2.heap/\(∀b∈fp,FpOk X pins H' b)/\R J H'
def PI(X:Cx)(tg iter:Expr)(wi:TI):Prop :=
 ∀(pins:VW)(s:VP)(σ:St)(H:Hp)(R:It->Hp->Prop),Inv X pins σ H s->wi σ H R ->
  wpAny (model X.prog X.w) X.A (eval iter X.env) (fun v s1=>wpAny (model X.prog X.w) X.A (pyIter v) (PIE X pins σ tg R) X.xe s1) X.xe s
theorem Jgc{M:Model}{A:VD}{E:VQ}{s:VP}{tg:Expr}{it:VB}{u:VR}{o:Obj}{n:String}{vs:Array VR}{Q:Unit->VP->Prop}(ho:s.heap.get? it=some o)(hc:o.cls=.type n)(hd:o.data=.fields vs)
  (hn:["enumerate","zip","dict_itemiterator","dict_reverseitemiterator","odict_iterator","itertools.zip_longest","itertools.pairwise"].contains n=false) (hQ:Q () s):wpAny M A (letOwnedTupleGo tg (.ref it) u) Q E s:=by
 unfold letOwnedTupleGo;cases tg<;>first
  | exact VM hQ
  | (cases u <;> first
    | exact VM hQ
    | (refine VL (wpAny_load ho ?_)
       rw[hc,hd];show wpAny M A (if (["enumerate","zip","dict_itemiterator","dict_reverseitemiterator","odict_iterator","itertools.zip_longest","itertools.pairwise"].contains n&&vs[0]?==some (rawInt _))=true then _ else _) Q E s;rw[if_neg (by intro h;rw[hn,Bool.false_and]at h;cases h)]
       exact VM hQ))
def Itl(K:VG)(a:VB):It :=
 ⟨fun i H=>∃xs x,SqL K H a xs/\xs[i]?=some x,fun i H x H'=>H'=H/\∀xs,SqL K H a xs->xs[i]?=some x,fun i H=>∃xs,SqL K H a xs/\xs.length<=i⟩
def Itt(K:VG)(a:VB):It :=
 ⟨fun i H=>∃xs x,SqT K H a xs/\xs[i]?=some x,fun i H x H'=>H'=H/\∀xs,SqT K H a xs->xs[i]?=some x,fun i H=>∃xs,SqT K H a xs/\xs.length<=i⟩
def Itr(lo:Int)(n:Nat):It:=⟨fun i _=>i<n,fun i H x H'=>H'=H/\x=.int (lo+i),fun i _=>n<=i⟩
theorem Jkq{P:VC}{w:VF}{K:VG}{tg:Expr}(a it:VB):Turn P w K tg (Itl K a) [it] it (fun i h=>h.IsListIter it a i) where
 mem:=by simp
 obj:=fun i h st b hb=>by
  have e:b=it:=by simpa using hb
  subst e;obtain⟨o,e,c,d⟩:=st;exact⟨o,e,fun v z=>by rw[d]at z;cases z⟩
 keep:=fun i h h' st k=>st.at fun o e=>k it (by simp) o e
 item:=by intro X hP hw hK hc i pins s σ H E I hf st hg;subst hP hw hK;obtain⟨xs,x,hq,hx⟩:=hg;obtain⟨its,rv,p,hz⟩:=I.list hq;obtain⟨u,hu,ru⟩:=rv.get hx;obtain⟨f0,f1,f2,f3,f4,f5⟩:=hf it (by simp);refine wpAny_pyNext_list_item st p.isList (x:=u) (by simpa using hu) fun h' st' sb=>?_;have I1:Inv X pins σ H { s with heap:=h' }:=I.turned (t':=s.toks) (fun b o hb e=>(sb.2 b hb).trans e) f0 f1 f3 f4 f5;obtain⟨o,e,c,d⟩:=id st';exact⟨u,rfl,Jgc (s:={ s with heap:=h' }) e c d (by decide) ⟨x,H,I1,ru,⟨rfl,fun ys hy=>by rw[I.list_inj hy hq];exact hx⟩,st',fun b hb=>(hf b hb).1⟩⟩
 done:=by intro X hP hw hK hc i pins s σ H E I hf st hg;subst hP hw hK;obtain⟨xs,hq,hx⟩:=hg;obtain⟨its,rv,p,hz⟩:=I.list hq;obtain⟨f0,f1,f2,f3,f4,f5⟩:=hf it (by simp);have hl:=rv.length;exact wpAny_pyNext_list_end (I.ok.hd hc) st p.isList (by simp;omega) fun h' eb=>⟨rfl,I.turned (t':=s.toks) (fun b o hb e=>eb b o hb e) f0 f1 f3 f4 f5⟩
 self:=fun _ _ _ _ _ st h=>wpAny_pyIter_listiter st h
theorem Jgr{P:VC}{w:VF}{K:VG}{tg:Expr}(a it:VB):Turn P w K tg (Itt K a) [it] it (fun i h=>h.IsTupleIter it a i) where
 mem:=by simp
 obj:=fun i h st b hb=>by
  have e:b=it:=by simpa using hb
  subst e;obtain⟨o,e,c,d⟩:=st;exact⟨o,e,fun v z=>by rw[d]at z;cases z⟩
 keep:=fun i h h' st k=>st.at fun o e=>k it (by simp) o e
 item:=by intro X hP hw hK hc i pins s σ H E I hf st hg;subst hP hw hK;obtain⟨xs,x,hq,hx⟩:=hg;obtain⟨its,rv,p,hz⟩:=I.tuple hq;obtain⟨u,hu,ru⟩:=rv.get hx;obtain⟨f0,f1,f2,f3,f4,f5⟩:=hf it (by simp);refine wpAny_pyNext_tuple_item st (show s.heap.IsTuple a its.toArray from p) (x:=u) (by simpa using hu) fun h' st' sb=>?_;have I1:Inv X pins σ H { s with heap:=h' }:=I.turned (t':=s.toks) (fun b o hb e=>(sb.2 b hb).trans e) f0 f1 f3 f4 f5;obtain⟨o,e,c,d⟩:=id st';exact⟨u,rfl,Jgc (s:={ s with heap:=h' }) e c d (by decide) ⟨x,H,I1,ru,⟨rfl,fun ys hy=>by rw[I.tuple_inj hy hq];exact hx⟩,st',fun b hb=>(hf b hb).1⟩⟩
 done:=by intro X hP hw hK hc i pins s σ H E I hf st hg;subst hP hw hK;obtain⟨xs,hq,hx⟩:=hg;obtain⟨its,rv,p,hz⟩:=I.tuple hq;obtain⟨f0,f1,f2,f3,f4,f5⟩:=hf it (by simp);have hl:=rv.length;exact wpAny_pyNext_tuple_end (I.ok.hd hc) st (show s.heap.IsTuple a its.toArray from p) (by simp;omega) fun h' eb=>⟨rfl,I.turned (t':=s.toks) (fun b o hb e=>eb b o hb e) f0 f1 f3 f4 f5⟩
 self:=fun _ _ _ _ _ st h=>wpAny_pyIter_tupleiter st h
theorem Jgs{P:VC}{w:VF}{K:VG}{tg:Expr}(it:VB)(lo:Int)(n:Nat):Turn P w K tg (Itr lo n) [it] it (fun i h=>IsRangeIter h it (lo+(i:Nat)*1) ((n:Int)-(i:Nat)) 1) where
 mem:=by simp
 obj:=fun i h st b hb=>by
  have e:b=it:=by simpa using hb
  subst e;exact ⟨_,st,fun v z=>by
   have z':Data.fields _=Data.cell v:=z
   cases z'⟩
 keep:=fun i h h' st k=>k it (by simp) _ st
 item:=by intro X hP hw hK hc i pins s σ H E I hf st hg;subst hP hw hK;obtain⟨f0,f1,f2,f3,f4,f5⟩:=hf it (by simp);have W:=Walks.range (prog:=X.prog) (w:=X.w) (I.ok.hd hc) it lo 1 n;refine W.item i s _ _ hg st fun v h' tk hv st' kk=>?_;obtain⟨t,rfl⟩:=hv;have I1:Inv X pins σ H { s with heap:=h',toks:=tk }:=I.turned (fun b o hb e=>kk b o (by simpa using hb) e) f0 f1 f3 f4 f5;refine⟨_,rfl,Jgc (s:={ s with heap:=h',toks:=tk }) (n:="range_iterator") st' rfl rfl (by decide) ⟨.int (lo+i),H,I1,⟨t,?_⟩,⟨rfl,rfl⟩,st',fun b hb=>(hf b hb).1⟩⟩;rw[Int.mul_one]
 done:=by intro X hP hw hK hc i pins s σ H E I hf st hg;subst hP hw hK;obtain⟨f0,f1,f2,f3,f4,f5⟩:=hf it (by simp);exact wpAny_pyNext_range_end (I.ok.hd hc) st (by have:n<=i:=hg;omega) fun h' eb=>⟨rfl,I.turned (t':=s.toks) (fun b o hb e=>eb b o hb e) f0 f1 f3 f4 f5⟩
 self:=fun _ _ _ _ _ st h=>wpAny_pyIter_rangeiter st h
section
variable{X:Cx}{tg:Expr}
def Jtn(K:VG)(tl:TE):TI:=fun σ H R=>tl σ H fun x H1=>∃a,x=.ref a/\(∃xs,SqL K H1 a xs)/\R (Itl K a) H1
def iTup(K:VG)(tl:TE):TI:=fun σ H R=>tl σ H fun x H1=>∃a,x=.ref a/\(∃xs,SqT K H1 a xs)/\R (Itt K a) H1
theorem JQ{l:Expr}{tl:TE}(hl:PE X l tl):PI X tg l (Jtn X.K tl):=by
 intro pins s σ H R I h;refine thn (hl pins s σ H _ I h) fun v s1 ⟨x,H1,I1,r1,q1⟩=>?_;obtain⟨a,e,⟨xs,hq⟩,q⟩:=q1;subst e;cases r1;obtain⟨its,rv,p,hz⟩:=I1.list hq;refine wpAny_pyIter_list p.isList ?_;refine⟨s1.heap.objs.size,[s1.heap.objs.size],_,_,H1,rfl,I1.kept (t':=s1.toks) fun b o e=>VN _ e,Jkq a _,⟨_,VT _ rfl,rfl,rfl⟩,fun b hb=>?_,q⟩;have e:b=s1.heap.objs.size:=by simpa using hb
 subst e;exact I1.fpOk (SJ _) (I1.hok.fresh (SJ _))
theorem Wl{l:Expr}{tl:TE}(hl:PE X l tl):PI X tg l (iTup X.K tl):=by
 intro pins s σ H R I h;refine thn (hl pins s σ H _ I h) fun v s1 ⟨x,H1,I1,r1,q1⟩=>?_;obtain⟨a,e,⟨xs,hq⟩,q⟩:=q1;subst e;cases r1;obtain⟨its,rv,p,hz⟩:=I1.tuple hq;refine wpAny_pyIter_tuple (show s1.heap.IsTuple a its.toArray from p) ?_;refine⟨s1.heap.objs.size,[s1.heap.objs.size],_,_,H1,rfl,I1.kept (t':=s1.toks) fun b o e=>VN _ e,Jgr a _,⟨_,VT _ rfl,rfl,rfl⟩,fun b hb=>?_,q⟩;have e:b=s1.heap.objs.size:=by simpa using hb
 subst e;exact I1.fpOk (SJ _) (I1.hok.fresh (SJ _))
theorem Jfg{pins:VW}{σ:St}{H:Hp}{s:VP}{R:It->Hp->Prop}{E:VQ}{lo hi:Int}{t u v:Tok}{tk:Nat}(I:Inv X pins σ H s)(h1:-(2^62)<=lo)(h2:lo<2^62)(h3:-(2^62)<=hi)(h4:hi<2^62)
  (q:R (Itr lo (hi-lo).toNat) H):wpAny (model X.prog X.w) X.A (pyIter (.ref s.heap.objs.size)) (PIE X pins σ tg R) E { s with heap:=s.heap.push { cls:=.type "range",data:=.fields #[.int lo t,.int hi u,.int 1 v] },toks:=tk }:=by
 refine wpAny_pyIter_range (IsRange.new ..) (small_one h1 h2 h3 h4) ?_;have I1:Inv X pins σ H { s with heap:=s.heap.push { cls:=.type "range",data:=.fields #[.int lo t,.int hi u,.int 1 v] },toks:=tk }:=I.kept fun b o e=>VN _ e;refine ⟨(s.heap.push { cls:=.type "range",data:=.fields #[.int lo t,.int hi u,.int 1 v] }).objs.size,[(s.heap.push { cls:=.type "range",data:=.fields #[.int lo t,.int hi u,.int 1 v] }).objs.size],_,_,H,rfl,
  I1.kept (t':=tk) fun b o e=>VN _ e,Jgs _ lo (hi - lo).toNat,?_,fun b hb=>?_,q⟩
 ·have e1:lo + ((0:Nat):Int) * 1=lo:=by simp
  have e2:(((hi-lo).toNat:Nat):Int)-((0:Nat):Int)=Builtin.Range.rangeSize lo hi 1:=by rw[rangeSize_one];split<;>omega
  show IsRangeIter _ _ (lo+((0:Nat):Int)*1) ((((hi-lo).toNat:Nat):Int)-((0:Nat):Int)) 1;rw[e1,e2];exact VT _ rfl
 ·have e:b=(s.heap.push { cls:=.type "range",data:=.fields #[.int lo t,.int hi u,.int 1 v] }).objs.size:=by simpa using hb
  subst e;exact I1.fpOk (SJ _) (I1.hok.fresh (SJ _))
def iRng1(ta:TA):TI:=fun σ H R=>ta σ H fun vs H1=>∃j:Int,vs=[.int j]/\-(2^62)<=j/\j<2^62/\R (Itr 0 j.toNat) H1
def iRng2(ta:TA):TI:=fun σ H R=>ta σ H fun vs H1=>∃i j:Int,vs=[.int i,.int j]/\(-(2^62)<=i/\i<2^62/\-(2^62)<=j/\j<2^62)/\R (Itr i (j-i).toNat) H1
theorem JV{a:Expr}{ta:TA}{p pos:Pos}(hg:Gl X "range")(hm:X.mg "range"=none)(ha:PA X [a] ta)(hs:starEach [a] X.env=[(false,eval a X.env)]:=by rfl):PI X tg (.Call (.Name "range" p) [a] [] pos) (iRng1 ta):=by
 intro pins s σ H R I h;refine Call_ (Zk I hg hm boot_range (PyProof.Rows.callWith_type1 (thn (ha pos pins s σ H _ I h) fun us s1 ⟨vs,H1,I1,r1,q1⟩=>?_) hs rfl));obtain⟨j,e,q1,q2,q⟩:=q1;subst e;cases r1 with
 | cons r rr =>
  cases rr;obtain⟨t,rfl⟩:=r;exact call_range_1 (Jfg I1 (by omega) (by omega) q1 q2 (by simpa using q))
theorem Jlg{a b:Expr}{ta:TA}{p pos:Pos}(hg:Gl X "range")(hm:X.mg "range"=none)(ha:PA X [a,b] ta)(hs:starEach [a,b] X.env=[(false,eval a X.env),(false,eval b X.env)]:=by rfl)(hs2:starEach [b] X.env=[(false,eval b X.env)]:=by rfl) :
  PI X tg (.Call (.Name "range" p) [a,b] [] pos) (iRng2 ta):=by
 intro pins s σ H R I h;refine Call_ (Zk I hg hm boot_range (PyProof.Rows.callWith_type1 (thn (ha pos pins s σ H _ I h) fun us s1 ⟨vs,H1,I1,r1,q1⟩=>?_) (by rw[hs,hs2]) (by rw[hs2];rfl)));obtain⟨i,j,e,⟨q1,q2,q3,q4⟩,q⟩:=q1;subst e;cases r1 with
 | cons r rr =>
  cases rr with
  | cons r' rr =>
   cases rr;obtain⟨t,rfl⟩:=r;obtain⟨t',rfl⟩:=r';exact call_range_2 (Jfg I1 q1 q2 q3 q4 q)
def tFor(wi:TI)(g:TG)(tb:TS):TS:=fun D σ H=>wi σ H fun J H1=>∃W:Nat->Nat->St->Hp->Prop,(∃m,W 0 m σ H1)/\∀i m σ H,W i m σ H ->
 (J.stop i H/\D.nx σ H)\/(J.go i H/\∃N:St->Hp->Prop,(∀σ' H',N σ' H'->∃m',m'<m/\W (i+1) m' σ' H')/\∀x H',J.yld i H x H'->g x σ H' fun σ2 H2=>tb { D with nx:=N,ct:=N,bk:=D.nx } σ2 H2)
def YM(fp:List VB)(h:Heap):VW:=fp.filterMap fun b=>(h.get? b).map fun o=>(b,o)
theorem YX{fp:List VB}{h:Heap}{b:VB}{o:Obj}(hb:b∈fp)(e:h.get? b=some o):(b,o)∈YM fp h:=List.mem_filterMap.mpr ⟨b,hb,by rw[e];rfl⟩
theorem Qy{fp:List VB}{h:Heap}{p:VB×Obj}(hp:p∈YM fp h):p.1∈fp/\h.get? p.1=some p.2:=by
 obtain⟨b,hb,e⟩:=List.mem_filterMap.mp hp;cases q:h.get? b with
 | none=>rw [q] at e; cases e
 | some o =>
  rw[q]at e;have e':(b,o)=p:=Option.some.inj e;subst e';exact⟨hb,q⟩
theorem Inv.pinned{pins:VW}{σ:St}{H:Hp}{s:VP}{fp:List VB}(I:Inv X pins σ H s)(hf:∀b∈fp,FpOk X pins H b)(ho:∀b∈fp,∃o,s.heap.get? b=some o/\∀v,o.data≠.cell v):Inv X (pins++YM fp s.heap) σ H s :=
 I.pins_of fun p hp=>(SS.mp hp).elim (fun z=>I.pin p (SB _ z)) fun z=>by obtain⟨hb,e⟩:=Qy z;obtain⟨f0,f1,f2,_⟩:=hf p.1 hb;obtain⟨o,e',d⟩:=ho p.1 hb;rw[e]at e';cases e';exact⟨e,f0,f1,f2,d⟩
theorem Inv.unpinned{pins pl:VW}{σ:St}{H:Hp}{s:VP}(I:Inv X (pins++pl) σ H s):Inv X pins σ H s:=I.pins_of fun p hp=>I.pin p (SB _ (List.mem_append_left _ hp))
theorem YL{iter:Expr}{body:List Stmt}{wi:TI}{g:TG}{tb:TS}{pos:Pos}(hp:PassesOwn (model X.prog X.w) X.A X.env X.xe)(hc:X.calm=true)(hi:PI X tg iter wi)(hg:PG X tg g)(hb:PSs X body tb)
  (hs:∀x,foldedSetIterable iter X.env x=pure x:=by intro _;rfl):PS X (.For tg iter body [] pos) (tFor wi g tb):=by
 intro pins s σ H D I h;refine wpAny_For (thn (hi pins s σ H _ I h) fun v s1 h1=>thn h1 fun itv s2 h2=>?_) hs;obtain⟨it,fp,tn,J,H2,e,I2,T,st2,f2,W,⟨m0,w0⟩,turn⟩:=h2;subst e
 -- what stays true of the iterator's objects through the loop
 have stat:∀{H':Hp},(∀b∈fp,H' b=none)->∀b∈fp,FpOk X pins H' b:=fun hn b hb=>⟨hn b hb,(f2 b hb).2⟩;refine codeAny_forLoop_any (fun n s'=>∃i σ' H',Inv X pins σ' H' s'/\tn i s'.heap/\(∀b∈fp,H' b=none)/\W i n σ' H') ?_ m0 ⟨0,σ,H2,I2,st2,fun b hb=>(f2 b hb).1,w0⟩;rintro n s3 ⟨i,σ3,H3,I3,st3,fr3,w3⟩;rcases turn i n σ3 H3 w3 with⟨stop,qn⟩|⟨go,N,hN,step⟩
 ·refine wpAny_passesOwn hp (thn (T.done X rfl rfl rfl hc i pins s3 σ3 H3 X.xe I3 (stat fr3) st3 stop) fun r s4 ⟨hr,I4⟩=>?_);subst hr;exact wpAny_execs_nil ⟨σ3,H3,I4,qn⟩
 ·refine wpAny_passesOwn hp (thn (T.item X rfl rfl rfl hc i pins s3 σ3 H3 X.xe I3 (stat fr3) st3 go) fun r s4 ⟨u,hr,h4⟩=>?_);subst hr;refine wpAny_passesOwn hp (thn h4 fun _ s5 ⟨x,H5,I5,r5,y5,st5,fr5⟩=>?_);have I5':=I5.pinned (stat fr5) (T.obj _ _ st5);refine wpAny_passesOwn hp (thn (hg _ s5 σ3 H5 x u _ I5' r5 (step x H5 y5)) fun _ s6 ⟨σ6,H6,I6,q6⟩=>?_);refine wpAny_passesOwn hp (thn (hb _ s6 σ6 H6 _ I6 q6) fun f s7 q7=>?_);have again:∀{σ7:St}{H7:Hp},Inv X (pins++YM fp s5.heap) σ7 H7 s7->N σ7 H7->∃m,m<n/\∃i σ' H',Inv X pins σ' H' s7/\tn i s7.heap/\(∀b∈fp,H' b=none)/\W i m σ' H':=fun {σ7 H7} I7 n7=>by
   obtain⟨m',hm,w7⟩:=hN σ7 H7 n7;refine⟨m',hm,i+1,σ7,H7,I7.unpinned,T.keep _ _ _ st5 fun b hb o e=>(I7.pin (b,o) (SB _ (SB _ (YX hb e)))).1,fun b hb=>?_,w7⟩;obtain⟨o,e,d⟩:=T.obj _ _ st5 b hb;exact(I7.pin (b,o) (SB _ (SB _ (YX hb e)))).2.1
  cases f with
  | next=>obtain ⟨σ7,H7,I7,n7⟩:=q7; exact again I7 n7
  | cont=>obtain ⟨σ7,H7,I7,n7⟩:=q7; exact again I7 n7
  | brk=>obtain ⟨σ7,H7,I7,q7⟩:=q7; exact ⟨σ7,H7,I7.unpinned,q7⟩
  | ret v=>obtain ⟨x7,σ7,H7,I7,r7,q7⟩:=q7; exact ⟨x7,σ7,H7,I7.unpinned,r7,q7⟩
end
theorem Jge{K:VG}{a:VB}{xs:VS}{g:TG}{tb:TS}{D:Ends}{σ:St}{H:Hp}(Pv:Nat->St->Hp->Prop)(h0:Pv 0 σ H)(hl:∀i σ H,i<=xs.length->Pv i σ H->SqL K H a xs)
  (hs:∀i x σ H,xs[i]?=some x->Pv i σ H->g x σ H fun σ2 H2=>tb { D with nx:=Pv (i+1),ct:=Pv (i+1),bk:=D.nx } σ2 H2) (hd:∀σ H,Pv xs.length σ H->D.nx σ H) :
  ∃W:Nat->Nat->St->Hp->Prop,(∃m,W 0 m σ H)/\∀i m σ H,W i m σ H ->
   ((Itl K a).stop i H/\D.nx σ H)\/((Itl K a).go i H/\∃N:St->Hp->Prop,(∀σ' H',N σ' H'->∃m',m'<m/\W (i+1) m' σ' H')/\∀x H',(Itl K a).yld i H x H'->g x σ H' fun σ2 H2=>tb { D with nx:=N,ct:=N,bk:=D.nx } σ2 H2):=by
 refine⟨fun i m σ H=>m=xs.length-i/\i<=xs.length/\Pv i σ H,⟨xs.length,by simp,LX _,h0⟩,?_⟩;rintro i m σ H ⟨rfl,hi,p⟩;have q:=hl i σ H hi p;by_cases hlt:i<xs.length
 ·refine .inr ⟨⟨xs,xs[i],q,by simp [hlt]⟩,Pv (i + 1),fun σ' H' p'=>⟨xs.length - (i + 1),by omega,rfl,hlt,p'⟩,fun x H' y=>?_⟩;obtain⟨e,y⟩:=y;subst e;exact hs i x σ _ (y xs q) p
 ·have e:i=xs.length:=by omega
  subst e;exact .inl ⟨⟨xs,q,SJ _⟩,hd σ H p⟩
theorem Qh{K:VG}{a:VB}{xs:VS}{g:TG}{tb:TS}{D:Ends}{σ:St}{H:Hp}(Pv:Nat->St->Hp->Prop)(h0:Pv 0 σ H)(hl:∀i σ H,i<=xs.length->Pv i σ H->SqT K H a xs)
  (hs:∀i x σ H,xs[i]?=some x->Pv i σ H->g x σ H fun σ2 H2=>tb { D with nx:=Pv (i+1),ct:=Pv (i+1),bk:=D.nx } σ2 H2) (hd:∀σ H,Pv xs.length σ H->D.nx σ H) :
  ∃W:Nat->Nat->St->Hp->Prop,(∃m,W 0 m σ H)/\∀i m σ H,W i m σ H ->
   ((Itt K a).stop i H/\D.nx σ H)\/((Itt K a).go i H/\∃N:St->Hp->Prop,(∀σ' H',N σ' H'->∃m',m'<m/\W (i+1) m' σ' H')/\∀x H',(Itt K a).yld i H x H'->g x σ H' fun σ2 H2=>tb { D with nx:=N,ct:=N,bk:=D.nx } σ2 H2):=by
 refine⟨fun i m σ H=>m=xs.length-i/\i<=xs.length/\Pv i σ H,⟨xs.length,by simp,LX _,h0⟩,?_⟩;rintro i m σ H ⟨rfl,hi,p⟩;have q:=hl i σ H hi p;by_cases hlt:i<xs.length
 ·refine .inr ⟨⟨xs,xs[i],q,by simp [hlt]⟩,Pv (i + 1),fun σ' H' p'=>⟨xs.length - (i + 1),by omega,rfl,hlt,p'⟩,fun x H' y=>?_⟩;obtain⟨e,y⟩:=y;subst e;exact hs i x σ _ (y xs q) p
 ·have e:i=xs.length:=by omega
  subst e;exact .inl ⟨⟨xs,q,SJ _⟩,hd σ H p⟩
theorem Ui{lo:Int}{n:Nat}{g:TG}{tb:TS}{D:Ends}{σ:St}{H:Hp}(Pv:Nat->St->Hp->Prop)(h0:Pv 0 σ H)
  (hs:∀i σ H,i<n->Pv i σ H->g (.int (lo+i)) σ H fun σ2 H2=>tb { D with nx:=Pv (i+1),ct:=Pv (i+1),bk:=D.nx } σ2 H2) (hd:∀σ H,Pv n σ H->D.nx σ H) :
  ∃W:Nat->Nat->St->Hp->Prop,(∃m,W 0 m σ H)/\∀i m σ H,W i m σ H ->
   ((Itr lo n).stop i H/\D.nx σ H)\/((Itr lo n).go i H/\∃N:St->Hp->Prop,(∀σ' H',N σ' H'->∃m',m'<m/\W (i+1) m' σ' H')/\∀x H',(Itr lo n).yld i H x H'->g x σ H' fun σ2 H2=>tb { D with nx:=N,ct:=N,bk:=D.nx } σ2 H2):=by
 refine⟨fun i m σ H=>m=n-i/\i<=n/\Pv i σ H,⟨n,by simp,LX _,h0⟩,?_⟩;rintro i m σ H ⟨rfl,hi,p⟩;by_cases hlt:i<n
 ·refine .inr ⟨hlt,Pv (i + 1),fun σ' H' p'=>⟨n - (i + 1),by omega,rfl,hlt,p'⟩,fun x H' y=>?_⟩;obtain⟨e,y⟩:=y;subst e y;exact hs i σ _ hlt p
 ·have e:i=n:=by omega
  subst e;exact .inl ⟨SJ _,hd σ H p⟩
abbrev R2:=V->V->Hp->VK->Prop
def OpR(X:Cx)(f:VR->VR->Sem VR)(r:R2):Prop :=
 ∀(pins:VW)(s:VP)(σ:St)(H:Hp)(x y:V)(v u:VR)(Q:VK),Inv X pins σ H s->RelV x v->RelV y u->r x y H Q ->
  wpAny (model X.prog X.w) X.A (f v u) (EP X pins σ Q) X.xe s
def UnR(X:Cx)(f:VR->Sem VR)(r:V->Hp->VK->Prop):Prop :=
 ∀(pins:VW)(s:VP)(σ:St)(H:Hp)(x:V)(v:VR)(Q:VK),Inv X pins σ H s->RelV x v->r x H Q ->
  wpAny (model X.prog X.w) X.A (f v) (EP X pins σ Q) X.xe s
def Yd(X:Cx)(f:VR)(r:VS->Hp->VK->Prop):Prop :=
 ∀(pins:VW)(s:VP)(σ:St)(H:Hp)(xs:VS)(us:VU)(Q:VK),Inv X pins σ H s->Vals xs us->r xs H Q ->
  wpAny (model X.prog X.w) X.A (call f us) (EP X pins σ Q) X.xe s
def tOp(r:R2)(ta tb:TE):TE:=fun σ H Q=>ta σ H fun x H1=>tb σ H1 fun y H2=>r x y H2 Q
def tUn(r:V->Hp->VK->Prop)(ta:TE):TE:=fun σ H Q=>ta σ H fun x H1=>r x H1 Q
def rI(C:Int->Int->Prop)(g:Int->Int->V):R2:=fun x y H Q=>∃i j,x=.int i/\y=.int j/\C i j/\Q (g i j) H
def rI0(g:Int->Int->V):R2:=fun x y H Q=>∃i j,x=.int i/\y=.int j/\Q (g i j) H
def rU(g:Int->V):V->Hp->VK->Prop:=fun x H Q=>∃i,x=.int i/\Q (g i) H
section
variable{X:Cx}{a b c:Expr}{ta tb tc:TE}{pos:Pos}
theorem binT(ha:PE X a ta)(hb:PE X b tb){pins:VW}{s:VP}{σ:St}{H:Hp}{R:V->V->Hp->Prop}(I:Inv X pins σ H s)
  (h:ta σ H fun x H1=>tb σ H1 fun y H2=>R x y H2) {Q:VQ} {f:VR->VR->Sem VR}
  (hf:∀v u s2 x y H2,Inv X pins σ H2 s2->RelV x v->RelV y u->R x y H2->wpAny (model X.prog X.w) X.A (f v u) Q X.xe s2) :
  wpAny (model X.prog X.w) X.A (eval a X.env) (fun v s₁=>wpAny (model X.prog X.w) X.A (eval b X.env) (fun u s₂=>wpAny (model X.prog X.w) X.A (f v u) Q X.xe s₂) X.xe s₁) X.xe s:=by
 refine thn (ha pins s σ H _ I h) fun v s1 ⟨x,H1,I1,r1,q1⟩=>?_;refine thn (hb pins s1 σ H1 _ I1 q1) fun u s2 ⟨y,H2,I2,r2,q2⟩=>?_;exact hf v u s2 x y H2 I2 r1 r2 q2
theorem JD{op:Operator}{r:R2}(ho:OpR X (binaryOp op) r)(ha:PE X a ta)(hb:PE X b tb):PE X (.BinOp a op b pos) (tOp r ta tb):=by intro pins s σ H Q I h;exact wpAny_BinOp (binT ha hb I h fun v u s2 x y H2 I2 rx ry q=>ho pins s2 σ H2 x y v u Q I2 rx ry q)
theorem pe_un{op:UnaryOp}{r:V->Hp->VK->Prop}(ho:UnR X (unaryOp op) r)(ha:PE X a ta):PE X (.UnaryOp op a pos) (tUn r ta):=by intro pins s σ H Q I h;exact UnaryOp_ (thn (ha pins s σ H _ I h) fun v s1 ⟨x,H1,I1,r1,q1⟩=>ho pins s1 σ H1 x v Q I1 r1 q1)
theorem opI{f:VR->VR->Sem VR}{C:Int->Int->Prop}{g:Int->Int->Int}
  (rule:∀(i j:Int)(t u:Tok)(s:VP)(Q:VQ)(E:VQ),C i j->Q (.int (g i j) s.toks) { s with toks:=s.toks+1 }->wpAny (model X.prog X.w) X.A (f (.int i t) (.int j u)) Q E s) :
  OpR X f (rI C fun i j=>.int (g i j)):=by
 intro pins s σ H x y v u Q I rx ry h;obtain⟨i,j,rfl,rfl,hc,q⟩:=h;obtain⟨t,rfl⟩:=rx;obtain⟨t',rfl⟩:=ry;exact rule i j t t' s _ _ hc ⟨.int (g i j),H,I.tok _,⟨_,rfl⟩,q⟩
theorem opI0{f:VR->VR->Sem VR}{g:Int->Int->Int}
  (rule:∀(i j:Int)(t u:Tok)(s:VP)(Q:VQ)(E:VQ),Q (.int (g i j) s.toks) { s with toks:=s.toks+1 }->wpAny (model X.prog X.w) X.A (f (.int i t) (.int j u)) Q E s) :
  OpR X f (rI0 fun i j=>.int (g i j)):=by
 intro pins s σ H x y v u Q I rx ry h;obtain⟨i,j,rfl,rfl,q⟩:=h;obtain⟨t,rfl⟩:=rx;obtain⟨t',rfl⟩:=ry;exact rule i j t t' s _ _ ⟨.int (g i j),H,I.tok _,⟨_,rfl⟩,q⟩
theorem opB0{f:VR->VR->Sem VR}{g:Int->Int->Bool}
  (rule:∀(i j:Int)(t u:Tok)(s:VP)(Q:VQ)(E:VQ),Q (.bool (g i j)) s->wpAny (model X.prog X.w) X.A (f (.int i t) (.int j u)) Q E s) :
  OpR X f (rI0 fun i j=>.bl (g i j)):=by
 intro pins s σ H x y v u Q I rx ry h;obtain⟨i,j,rfl,rfl,q⟩:=h;obtain⟨t,rfl⟩:=rx;obtain⟨t',rfl⟩:=ry;exact rule i j t t' s _ _ ⟨.bl (g i j),H,I,rfl,q⟩
def CDiv(i j:Int):Prop:=0<j/\j<1073741824
def CPow(i j:Int):Prop:=0<=j/\j<=1000000/\i.natAbs<2^64
def CMul(i j:Int):Prop:=(-(2^64)<i/\i<2^64)\/(-(2^64)<j/\j<2^64)
theorem CMul.ok{i j:Int}(h:CMul i j):IntMulOk i j:=by
 rcases h with⟨h1,h2⟩|⟨h1,h2⟩
 ·exact .of_left (intBits_le_64 h1 h2)
 ·exact .of_right (intBits_le_64 h1 h2)
theorem YV:OpR X (binaryOp .Add) (rI0 fun i j=>.int (i+j)):=opI0 fun _ _ _ _ _ _ _ q=>add_int q
theorem Jhg:OpR X (binaryOp .Sub) (rI0 fun i j=>.int (i-j)):=opI0 fun _ _ _ _ _ _ _ q=>sub_int q
theorem Jau:OpR X (binaryOp .Mult) (rI CMul fun i j=>.int (i*j)):=opI fun _ _ _ _ _ _ _ hc q=>mul_int q hc.ok
theorem Jjc:OpR X (binaryOp .FloorDiv) (rI CDiv fun i j=>.int (i/j)):=opI fun i j _ _ _ _ _ hc q=>by have h1:(0:Int)<j:=hc.1;have h2:j<1073741824:=hc.2;exact floordiv_int (by omega) (by rw[Int.fdiv_eq_ediv_of_nonneg i (by omega)];exact q) (.inl (PyProof.noPylong_small (by omega)))
theorem Wo:OpR X (binaryOp .Mod) (rI (fun _ j=>0<j) fun i j=>.int (i%j)):=opI fun i j _ _ _ _ _ hc q=>by have h1:(0:Int)<j:=hc;exact mod_int' (by omega) (by rw[Int.fmod_eq_emod_of_nonneg i (by omega)];exact q)
theorem Jup:OpR X (binaryOp .Pow) (rI CPow fun i j=>.int (i^j.toNat)):=opI fun _ _ _ _ _ _ _ hc q=>pow_int_small hc.1 hc.2.1 hc.2.2 q
theorem unI{f:VR->Sem VR}{g:Int->Int}
  (rule:∀(i:Int)(t:Tok)(s:VP)(Q:VQ)(E:VQ),Q (.int (g i) s.toks) { s with toks:=s.toks+1 }->wpAny (model X.prog X.w) X.A (f (.int i t)) Q E s) :
  UnR X f (rU fun i=>.int (g i)):=by
 intro pins s σ H x v Q I rx h;obtain⟨i,rfl,q⟩:=h;obtain⟨t,rfl⟩:=rx;exact rule i t s _ _ ⟨.int (g i),H,I.tok _,⟨_,rfl⟩,q⟩
theorem Jtt:UnR X (unaryOp .USub) (rU fun i=>.int (-i)):=unI fun _ _ _ _ _ q=>neg_int q
end
def scal:V->V->Bool
 | .non,.non=>true | .non,.int _=>true | .int _,.non=>true | .non,.bl _=>true | .bl _,.non=>true | .non,.str _=>true | .str _,.non=>true
 | .int _,.int _=>true | .bl _,.bl _=>true | .str _,.str _=>true | .byt _,.byt _=>true
 | .int _,.str _=>true | .str _,.int _=>true | .bl _,.str _=>true | .str _,.bl _=>true
 | _,_=>false
def rEq:R2:=fun x y H Q=>scal x y=true/\Q (.bl (decide (x=y))) H
def rNe:R2:=fun x y H Q=>scal x y=true/\Q (.bl (!decide (x=y))) H
theorem Jka{i j:Int}:decide (V.int i=V.int j)=(i==j):=by rw[Bool.eq_iff_iff];simp
theorem Jqd{i j:Bool}:decide (V.bl i=V.bl j)=(i==j):=by rw[Bool.eq_iff_iff];simp
theorem Jjz{i j:Str}:decide (V.str i=V.str j)=(i==j):=by rw[Bool.eq_iff_iff];simp
theorem Jkb{i j:Array UInt8}:decide (V.byt i=V.byt j)=(i.toList==j.toList):=by rw[Bool.eq_iff_iff];cases i;cases j;simp
section
variable{X:Cx}{a b c:Expr}{ta tb tc:TE}{pos:Pos}
theorem JH{pins:VW}{σ:St}{H:Hp}{s:VP}{Q:VK}{k k':Bool}(I:Inv X pins σ H s)(q:Q (.bl k) H)(e:k=k'):EP X pins σ Q (.bool k') s:=by subst e;exact⟨.bl k,H,I,rfl,q⟩
theorem Yz:OpR X (compareOp .Eq) rEq:=by
 intro pins s σ H x y v u Q I rx ry h;obtain⟨hs,q⟩:=h;cases x with
 | non =>
  cases rx;cases y with
  | non=>cases ry; exact PySem.EqNone.eq_none_none (JH I q (by simp))
  | bl j=>cases ry; exact PySem.EqNone.eq_none_bool (JH I q (by simp))
  | int j=>obtain ⟨t',rfl⟩:=ry; exact PySem.EqNone.eq_none_int (JH I q (by simp))
  | str j=>obtain ⟨t',rfl⟩:=ry; exact PySem.EqNone.eq_none_str (JH I q (by simp))
  | _=>exact absurd (show false=true from hs) Bool.false_ne_true
 | bl i =>
  cases rx;cases y with
  | non=>cases ry; exact PySem.EqNone.eq_bool_none (JH I q (by simp))
  | bl j=>cases ry; exact eq_bool (JH I q Jqd)
  | str j=>obtain ⟨t',rfl⟩:=ry; exact PySem.EqMixed.eq_bool_str (JH I q (by simp))
  | _=>exact absurd (show false=true from hs) Bool.false_ne_true
 | int i =>
  obtain⟨t,rfl⟩:=rx;cases y with
  | non=>cases ry; exact PySem.EqNone.eq_int_none (JH I q (by simp))
  | int j=>obtain ⟨t',rfl⟩:=ry; exact eq_int (JH I q Jka)
  | str j=>obtain ⟨t',rfl⟩:=ry; exact PySem.EqMixed.eq_int_str (JH I q (by simp))
  | _=>exact absurd (show false=true from hs) Bool.false_ne_true
 | str i =>
  obtain⟨t,rfl⟩:=rx;cases y with
  | non=>cases ry; exact PySem.EqNone.eq_str_none (JH I q (by simp))
  | bl j=>cases ry; exact PySem.EqMixed.eq_str_bool (JH I q (by simp))
  | int j=>obtain ⟨t',rfl⟩:=ry; exact PySem.EqMixed.eq_str_int (JH I q (by simp))
  | str j=>obtain ⟨t',rfl⟩:=ry; exact eq_str (JH I q Jjz)
  | _=>exact absurd (show false=true from hs) Bool.false_ne_true
 | byt i =>
  obtain⟨t,rfl⟩:=rx;cases y with
  | byt j=>obtain ⟨t',rfl⟩:=ry; exact PySem.W.eq_bytes (JH I q Jkb)
  | _=>exact absurd (show false=true from hs) Bool.false_ne_true
 | _=>cases y <;> exact absurd (show false=true from hs) Bool.false_ne_true
theorem UY:OpR X (compareOp .NotEq) rNe:=by
 intro pins s σ H x y v u Q I rx ry h;obtain⟨hs,q⟩:=h;cases x with
 | non =>
  cases rx;cases y with
  | non=>cases ry; exact PySem.EqNone.ne_none_none (JH I q (by simp))
  | bl j=>cases ry; exact PySem.EqNone.ne_none_bool (JH I q (by simp))
  | int j=>obtain ⟨t',rfl⟩:=ry; exact PySem.EqNone.ne_none_int (JH I q (by simp))
  | str j=>obtain ⟨t',rfl⟩:=ry; exact PySem.EqNone.ne_none_str (JH I q (by simp))
  | _=>exact absurd (show false=true from hs) Bool.false_ne_true
 | bl i =>
  cases rx;cases y with
  | non=>cases ry; exact PySem.EqNone.ne_bool_none (JH I q (by simp))
  | bl j=>cases ry; exact ne_bool (JH I q (congrArg not Jqd))
  | str j=>obtain ⟨t',rfl⟩:=ry; exact PySem.EqMixed.ne_bool_str (JH I q (by simp))
  | _=>exact absurd (show false=true from hs) Bool.false_ne_true
 | int i =>
  obtain⟨t,rfl⟩:=rx;cases y with
  | non=>cases ry; exact PySem.EqNone.ne_int_none (JH I q (by simp))
  | int j=>obtain ⟨t',rfl⟩:=ry; exact ne_int (JH I q (congrArg not Jka))
  | str j=>obtain ⟨t',rfl⟩:=ry; exact PySem.EqMixed.ne_int_str (JH I q (by simp))
  | _=>exact absurd (show false=true from hs) Bool.false_ne_true
 | str i =>
  obtain⟨t,rfl⟩:=rx;cases y with
  | non=>cases ry; exact PySem.EqNone.ne_str_none (JH I q (by simp))
  | bl j=>cases ry; exact PySem.EqMixed.ne_str_bool (JH I q (by simp))
  | int j=>obtain ⟨t',rfl⟩:=ry; exact PySem.EqMixed.ne_str_int (JH I q (by simp))
  | str j=>obtain ⟨t',rfl⟩:=ry; exact ne_str (JH I q (congrArg not Jjz))
  | _=>exact absurd (show false=true from hs) Bool.false_ne_true
 | byt i =>
  obtain⟨t,rfl⟩:=rx;cases y with
  | byt j=>obtain ⟨t',rfl⟩:=ry; exact PySem.W.ne_bytes (JH I q (congrArg not Jkb))
  | _=>exact absurd (show false=true from hs) Bool.false_ne_true
 | _=>cases y <;> exact absurd (show false=true from hs) Bool.false_ne_true
theorem QU:OpR X (compareOp .Lt) (rI0 fun i j=>.bl (decide (i<j))):=opB0 fun _ _ _ _ _ _ _ q=>lt_int q
theorem Jtj:OpR X (compareOp .LtE) (rI0 fun i j=>.bl (decide (i<=j))):=opB0 fun _ _ _ _ _ _ _ q=>le_int q
theorem QV:OpR X (compareOp .Gt) (rI0 fun i j=>.bl (decide (j<i))):=opB0 fun _ _ _ _ _ _ _ q=>gt_int q
theorem Jtk:OpR X (compareOp .GtE) (rI0 fun i j=>.bl (decide (j<=i))):=opB0 fun _ _ _ _ _ _ _ q=>ge_int q
theorem Jdt:OpR X (compareOp .Is) (fun x y H Q=>y=.non/\Q (.bl (decide (x=.non))) H):=by
 intro pins s σ H x y v u Q I rx ry h;obtain⟨rfl,q⟩:=h;cases ry;refine is_none_gen (JH I q ?_);cases x<;>first
  | (cases rx; rfl)
  | (obtain ⟨t,rfl⟩:=rx; rfl)
theorem UV:OpR X (compareOp .IsNot) (fun x y H Q=>y=.non/\Q (.bl (!decide (x=.non))) H):=by
 intro pins s σ H x y v u Q I rx ry h;obtain⟨rfl,q⟩:=h;cases ry;refine isnot_none_gen (JH I q ?_);cases x<;>first
  | (cases rx; rfl)
  | (obtain ⟨t,rfl⟩:=rx; rfl)
theorem Jn(b:Expr){op:CmpOp}(h:op≠.In:=by decide)(h2:op≠.NotIn:=by decide):behindInMarks op b=false:=by
 have e1:(op==CmpOp.In)=false:=by cases op<;>first|rfl|exact absurd rfl h
 have e2:(op==CmpOp.NotIn)=false:=by cases op<;>first|rfl|exact absurd rfl h2
 cases b<;>simp[behindInMarks,e1,e2]
theorem JK{op:CmpOp}{r:R2}(ho:OpR X (compareOp op) r)(ha:PE X a ta)(hb:PE X b tb)(hm:behindInMarks op b=false):PE X (.Compare a [op] [b] pos) (tOp r ta tb):=by intro pins s σ H Q I h;exact wpAny_Compare1 (binT ha hb I h fun v u s2 x y H2 I2 rx ry q=>ho pins s2 σ H2 x y v u Q I2 rx ry q) hm
def Jsu(t:TE):TT:=fun σ H Q=>t σ H fun x H'=>∃k,x=.bl k/\Q k H'
theorem Jo{op:CmpOp}{r:R2}(ho:OpR X (compareOp op) r)(ha:PE X a ta)(hb:PE X b tb)(hm:behindInMarks op b=false):PT X (.Compare a [op] [b] pos) (Jsu (tOp r ta tb)):=by
 intro pins s σ H Q I h;refine wpAny_isTrue_Compare1 (thn (ha pins s σ H _ I h) fun v s1 ⟨x,H1,I1,r1,q1⟩=>thn (hb pins s1 σ H1 _ I1 q1) fun u s2 ⟨y,H2,I2,r2,q2⟩ =>
  thn (ho pins s2 σ H2 x y v u _ I2 r1 r2 q2) fun c s3 ⟨z,H3,I3,r3,k,e,q3⟩=>?_) hm
 subst e;cases r3;exact wpAny_truthy_bool ⟨H3,I3,q3⟩
def Jmv(r r':R2)(ta tb tc:TE):TE:=fun σ H Q=>ta σ H fun x H1=>tb σ H1 fun y H2=>r x y H2 fun z H3=>∃k,z=.bl k /\
 (if k=true then tc σ H3 fun w' H4=>r' y w' H4 Q else Q (.bl false) H3)
theorem Jnw{op op':CmpOp}{r r':R2}(ho:OpR X (compareOp op) r)(ho':OpR X (compareOp op') r')(ha:PE X a ta)(hb:PE X b tb)(hc:PE X c tc)
  (hm:lastMarks [op,op'] [b,c]=false:=by with_unfolding_all rfl):PE X (.Compare a [op,op'] [b,c] pos) (Jmv r r' ta tb tc):=by
 intro pins s σ H Q I h;refine Compare_chain (thn (ha pins s σ H _ I h) fun v s1 ⟨x,H1,I1,r1,q1⟩=>chain_link (thn (hb pins s1 σ H1 _ I1 q1) fun u s2 ⟨y,H2,I2,r2,q2⟩ =>
  thn (ho pins s2 σ H2 x y v u _ I2 r1 r2 q2) fun d s3 ⟨z,H3,I3,r3,k,e,q3⟩=>?_)) hm
 subst e;cases r3;refine wpAny_truthy_bool ?_;cases k with
 | false=>exact ite_ff ⟨.bl false,H3,I3,rfl,q3⟩
 | true=>exact ite_tt (chain_last (thn (hc pins s3 σ H3 _ I3 q3) fun w' s4 ⟨z',H4,I4,r4,q4⟩=>ho' pins s4 σ H4 y z' u w' Q I4 r2 r4 q4))
theorem Jnm{op op':CmpOp}{r r':R2}(ho:OpR X (compareOp op) r)(ho':OpR X (compareOp op') r')(ha:PE X a ta)(hb:PE X b tb)(hc:PE X c tc)
  (hm:lastMarks [op,op'] [b,c]=false:=by with_unfolding_all rfl):PT X (.Compare a [op,op'] [b,c] pos) (Jsu (Jmv r r' ta tb tc)):=by
 intro pins s σ H Q I h;refine isTrue_chain (thn (ha pins s σ H _ I h) fun v s1 ⟨x,H1,I1,r1,q1⟩=>test_link (thn (hb pins s1 σ H1 _ I1 q1) fun u s2 ⟨y,H2,I2,r2,q2⟩ =>
  thn (ho pins s2 σ H2 x y v u _ I2 r1 r2 q2) fun d s3 ⟨z,H3,I3,r3,k,e,q3⟩=>?_)) hm
 subst e;cases r3;refine wpAny_truthy_bool ?_;cases k with
 | false =>
  obtain⟨k',e',q'⟩:=q3;cases e';exact ite_ff ⟨H3,I3,q'⟩
 | true =>
  refine ite_tt (test_last (thn (hc pins s3 σ H3 _ I3 q3) fun w' s4 ⟨z',H4,I4,r4,q4⟩=>thn (ho' pins s4 σ H4 y z' u w' _ I4 r2 r4 q4) fun d' s5 ⟨z2,H5,I5,r5,k2,e2,q5⟩=>?_));subst e2;cases r5;exact wpAny_truthy_bool ⟨H5,I5,q5⟩
theorem Jay:(sizeLine:Nat)<2^63:=by rw[sizeLine_eq];decide
theorem Ym{x:V}{us:VU}(r:Vals [x] us):∃u,us=[u]/\RelV x u:=by
 cases r with
 | cons r1 r2=>cases r2; exact ⟨_,rfl,r1⟩
theorem Jmr{x y:V}{us:VU}(r:Vals [x,y] us):∃u w',us=[u,w']/\RelV x u/\RelV y w':=by
 cases r with
 | cons r1 r2 =>
  cases r2 with
  | cons r3 r4=>cases r4; exact ⟨_,_,rfl,r1,r3⟩
theorem Jmg(hc:X.calm=true):Yd X (.builtin "max") (fun xs H Q=>∃i j,xs=[.int i,.int j]/\Q (.int (if j>i then j else i)) H):=by
 intro pins s σ H xs us Q I r h;obtain⟨i,j,rfl,q⟩:=h;obtain⟨u,w',rfl,⟨t,rfl⟩,⟨t',rfl⟩⟩:=Jmr r;refine max_two_ints (I.ok.hd hc) fun h' tk k=>⟨_,H,I.kept k,?_,q⟩;by_cases hj:j>i
 ·rw [if_pos hj,if_pos hj]; exact ⟨_,rfl⟩
 ·rw [if_neg hj,if_neg hj]; exact ⟨_,rfl⟩
theorem QJ:Yd X (.type "int") (fun xs H Q=>(∃i,xs=[.int i]/\Q (.int i) H)\/∃k,xs=[.bl k]/\Q (.int (if k then 1 else 0)) H):=by
 intro pins s σ H xs us Q I r h;rcases h with⟨i,rfl,q⟩|⟨k,rfl,q⟩
 ·obtain ⟨u,rfl,t,rfl⟩:=Ym r;exact call_int_int ⟨.int i,H,I,⟨_,rfl⟩,q⟩
 ·obtain ⟨u,rfl,r1⟩:=Ym r;cases r1;exact call_int_bool ⟨.int (if k then 1 else 0),H,I.tok _,⟨_,rfl⟩,q⟩
end
structure ObjM(h:Heap)(x dx C:VB)(mA:VZ):Prop where
 obj:h.get? x=some (PySem.W.instObj C dx)
 ns:h.Ns1 dx mA
 ne:dx≠x
theorem Jlj{h:Heap}{dx:VB}{mA:VZ}(n:h.Ns1 dx mA):∃od,h.get? dx=some od/\∀name,PySem.W.lookIn name od=some (mA name):=by
 obtain⟨o,es,ep,ho,hd,hk,_,hm⟩:=n;refine⟨o,ho,fun name=>?_⟩;have e:=hm name;unfold nsFind findBy at e;rw[<- Array.find?_toList]at e;unfold PySem.W.lookIn;rw[hd];dsimp only;split
 ·rename_i y q;rw[q]at e;exact congrArg some e
 ·rename_i q;rw[q]at e;have a:es.toList.any (·.refKey)=false:=by
   rw[List.any_eq_false];intro y hy;obtain⟨z,t,hkey⟩:=hk y (Array.mem_toList_iff.mp hy);simp[DictEntry.refKey,hkey]
  have a':¬ es.toList.any (·.refKey)=true:=by rw[a];exact Bool.false_ne_true
  rw[if_neg a'];exact congrArg some e
theorem ObjM.look{h:Heap}{x dx C:VB}{mA:VZ}(I:ObjM h x dx C mA):∃od,PySem.W.InstAt h x (PySem.W.instObj C dx) C (some od)/\∀name,PySem.W.lookIn name od=some (mA name) :=
 let⟨od,ho,hl⟩:=Jlj I.ns
 ⟨od,⟨I.obj,rfl,rfl,ho⟩,hl⟩
section
variable{prog:VC}{w:VF}{A:VD}{E:VQ}{s:VP}{K:VG}{x dx C f:VB}{mA:VZ}{name:Str}{v:VR}
end
section
variable{P:VC}{w:VF}{H H':Hp}{h h':Heap}{a C dx:VB}{fs fs':List (Str×V)}
theorem Jsj(hok:HOk P w H h)(e:H a=some (.ins C dx fs)):∃mA,ObjM h a dx C mA/\(∀f,RelO (fs.lookup f) (mA f))/\PySem.Within mA (fs.map (·.1))/\fs.length<=1000/\H dx=some (.own a):=by obtain⟨d,z,ne,ob,mA,n,r,q⟩:=(show ObjOk P w H h a (.ins C dx fs)from hok a _ e);exact⟨mA,⟨ob,n,ne⟩,r,q,z,d⟩
end
structure Cls(K:VG)(C:VB):Prop where
 pg:PySem.W.plainGet K C Str.empty=true
 hd:PySem.W.hasDictIn K C=true
 po:PySem.W.plainOver K C=true
 sa:PySem.W.findIn K (.ref C) "__setattr__"=some (some (.builtin "object.__setattr__"))
theorem Cls.get{K:VG}{C:VB}(c:Cls K C)(f:Str):PySem.W.plainGet K C f=true:=c.pg
section
variable{X:Cx}{pins:VW}{σ:St}{H:Hp}{s:VP}{a C dx:VB}{fs:List (Str×V)}{f:Str}{v:V}{A:VD}{E:VQ}
end
section
variable{X:Cx}{o e value:Expr}{f:Str}{pos pos' tpos:Pos}{ta tv:TE}
end
section
variable{X:Cx}{pins:VW}{σ:St}{H:Hp}{s:VP}{A:VD}{E:VQ}{Q:VQ}{c:VR}{b:Bool}
inductive TyOf(K:VG)(H:Hp):V->VR->Prop where
 | non:TyOf K H .non (.type "NoneType")
 | bl (x:Bool):TyOf K H (.bl x) (.type "bool")
 | int (i:Int):TyOf K H (.int i) (.type "int")
 | str (x:Str):TyOf K H (.str x) (.type "str")
 | flt (x:UInt64):TyOf K H (.flt x) (.type "float")
 | lst {a:VB} {xs:VS} (e:H a=some (.lst xs)):TyOf K H (.ref a) (.type "list")
 | frz {a:VB} {o:Obj} {xs:VS} (e:H a=some (.frz o (.lst xs))):TyOf K H (.ref a) (.type "list")
 | tup {a:VB} {xs:VS} (e:H a=some (.tup xs)):TyOf K H (.ref a) (.type "tuple")
 | dK {a:VB} {kvs:List (Key×V)} (e:H a=some (.dK kvs)):TyOf K H (.ref a) (.type "dict")
 | dT {a:VB} {kvs:List (List Key×V)} (e:H a=some (.dT kvs)):TyOf K H (.ref a) (.type "dict")
 | ins {a C dx:VB} {fs:List (Str×V)} (e:H a=some (.ins C dx fs)) (cl:Cls K C) (ha:PySem.W.findIn K (.ref C) "__class__"=some (some (.builtin "object.__class__")))
   (hn:PySem.W.specialIn K (.builtin "object.__class__") "__get__"=some (some (.builtin "getset_descriptor.__get__"))) (htk:PySem.W.takesIn K (.builtin "object.__class__")=some true)
   (hm:PySem.W.mroIn K C (.type "object")=some true):TyOf K H (.ref a) (.ref C)
theorem Jlw{x:V}{u t:VR}(I:Inv X pins σ H s)(rx:RelV x u)(ty:TyOf X.K H x t)(e:PySem.W.kitOne X.K t c=some b)(h:∀tk,Q (.bool b) { s with toks:=tk }) :
  wpAny (model X.prog X.w) A (call (.builtin "isinstance") [u,c]) Q E s:=by
 cases ty with
 | non=>cases (show u=Value.none from rx); exact PySem.W.kia_one PySem.W.kitx_none I.kIn True.intro e (fun z=>nomatch z) h
 | bl y=>cases (show u=Value.bool y from rx); exact PySem.W.kia_one PySem.W.kitx_bool I.kIn True.intro e (fun z=>nomatch z) h
 | int i=>obtain ⟨t,q⟩:=(show ∃ t,u=Value.int i t from rx); cases q; exact PySem.W.kia_one PySem.W.kitx_int I.kIn True.intro e (fun z=>nomatch z) h
 | str y=>obtain ⟨t,q⟩:=(show ∃ t,u=Value.str y t from rx); cases q; exact PySem.W.kia_one PySem.W.kitx_str I.kIn True.intro e (fun z=>nomatch z) h
 | flt y=>obtain ⟨t,q⟩:=(show ∃ t,u=Value.float y t from rx); cases q; exact PySem.W.kia_one PySem.W.kitx_float I.kIn True.intro e (fun z=>nomatch z) h
 | @lst a xs ea =>
  cases (show u=Value.ref a from rx);obtain⟨_,_,n,_,h1⟩:=(show ObjOk X.prog X.w H s.heap a (.lst xs)from I.hok a _ ea);exact PySem.W.kia_one PySem.W.kitx_list I.kIn ⟨_,h1,rfl⟩ e (fun z=>nomatch z) h
 | @frz a ob xs ea =>
  cases (show u=Value.ref a from rx);obtain⟨_,_,_,n,_,h1⟩:=(show ObjOk X.prog X.w H s.heap a (.frz ob (.lst xs))from I.hok a _ ea);exact PySem.W.kia_one PySem.W.kitx_list I.kIn ⟨_,h1,rfl⟩ e (fun z=>nomatch z) h
 | @tup a xs ea =>
  cases (show u=Value.ref a from rx);obtain⟨_,_,_,p⟩:=(show ObjOk X.prog X.w H s.heap a (.tup xs)from I.hok a _ ea);obtain⟨o,h1,h2,_⟩:=p;exact PySem.W.kia_one PySem.W.kitx_tuple I.kIn ⟨o,h1,h2⟩ e (fun z=>nomatch z) h
 | @dK a kvs ea =>
  cases (show u=Value.ref a from rx);obtain⟨_,_,vs,_,p⟩:=(show ObjOk X.prog X.w H s.heap a (.dK kvs)from I.hok a _ ea);obtain⟨o,es,ep,h1,h2,_⟩:=p;exact PySem.W.kia_one PySem.W.kitx_dict I.kIn ⟨o,h1,h2.1⟩ e (fun z=>nomatch z) h
 | @dT a kvs ea =>
  cases (show u=Value.ref a from rx);obtain⟨_,_,xs,_,o,es,ep,h1,h2,_⟩:=(show ObjOk X.prog X.w H s.heap a (.dT kvs)from I.hok a _ ea);exact PySem.W.kia_one PySem.W.kitx_dict I.kIn ⟨o,h1,h2.1⟩ e (fun z=>nomatch z) h
 | @ins a C dx fs ea cl ha hn htk hm =>
  cases (show u=Value.ref a from rx);obtain⟨mA,O,_⟩:=Jsj I.hok ea;obtain⟨od,J,_⟩:=O.look;exact PySem.W.kia_one (PySem.W.kitx_own (cl.get _) cl.hd ha hn htk hm) I.kIn J e (fun z=>nomatch z) h
end
structure Room(k:Nat)(A:VD):Prop where
 hd:A.handled=none
 dp:A.depth+3*k+5<recursionLimit
 un:A.units+16*k+200<cLine
 gd:A.guards=some []
theorem Room.mono{j k:Nat}{A:VD}(r:Room k A)(h:j<=k):Room j A:=⟨r.hd,by have:=r.dp;omega,by have:=r.un;omega,r.gd⟩
theorem Room.deeper{k:Nat}{A:VD}(r:Room (k+1) A)(env:Env):Room k (A.deeper env) :=
 ⟨r.hd,by have:=r.dp;show A.depth+1+3*k+5<_;omega,by have:=r.un;show A.units+3+16*k+200<_;omega,r.gd⟩
theorem Room.depth{k:Nat}{A:VD}(r:Room k A):A.depth<recursionLimit:=by have:=r.dp;omega
theorem Room.units{k:Nat}{A:VD}(r:Room k A):A.units+64<cLine:=by have:=r.un;omega
theorem Room.units0{k:Nat}{A:VD}(r:Room k A):A.units<cLine:=by have:=r.un;omega
def tNil:TA:=fun _ H Q=>Q [] H
def Jsw(ta:TE)(tr:TA):TA:=fun σ H Q=>ta σ H fun x H1=>tr σ H1 fun xs H2=>Q (x::xs) H2
section
variable{X:Cx}{e:Expr}{es:List Expr}{te:TE}{t:TA}{pos:Pos}
theorem Jb:PA X [] tNil:=fun _ _ _ _ H Q I h=>Calls.spliced_nil ⟨[],H,I,.nil,h⟩
theorem Ja(ha:PE X e te)(hr:PA X es t)(hs:starEach (e::es) X.env=(false,eval e X.env)::starEach es X.env:=by rfl):PA X (e::es) (Jsw te t):=by intro pos pins s σ H Q I h;rw[hs];show wpAny _ _ (spliced ((false,eval e X.env)::backTo pos (starEach es X.env))) _ _ s;refine Calls.spliced_cons (thn (ha pins s σ H _ I h) fun u s1 ⟨x,H1,I1,r1,q1⟩=>?_);exact thn (hr pos pins s1 σ H1 _ I1 q1) fun us s2 ⟨xs,H2,I2,r2,q2⟩=>⟨x::xs,H2,I2,.cons r1 r2,q2⟩
def tTup(t:TA):TE:=fun σ H Q=>t σ H fun xs H1=>xs.length<=sizeLine/\∀p,H1 p=none->Q (.ref p) (upd H1 p (.tup xs))
def tLst(t:TA):TE:=fun σ H Q=>t σ H fun xs H1=>xs.length<=sizeLine/\∀p,H1 p=none->Q (.ref p) (upd H1 p (.lst xs))
theorem JI{x1}(h:PA X es t):PE X (.Tuple es x1 pos) (tTup t):=by intro pins s σ H Q I hq;refine wpAny_Tuple_spliced (thn (h pos pins s σ H _ I hq) fun us s1 ⟨xs,H1,I1,r,z,q⟩=>⟨by rw[<- r.length];exact z,?_⟩);have hf:H1 s1.heap.objs.size=none:=I1.hok.fresh (SJ _);refine⟨.ref s1.heap.objs.size,upd H1 s1.heap.objs.size (.tup xs),I1.laid (t':=s1.toks) (fun b u e=>VN _ e) (SJ _) ?_,rfl,q _ hf⟩;exact⟨z,us,r,⟨_,VT _ rfl,rfl,_,rfl⟩⟩
theorem JP(h:PA X es t):PE X (.List es pos) (tLst t):=by intro pins s σ H Q I hq;refine wpAny_List_spliced (thn (h pos pins s σ H _ I hq) fun us s1 ⟨xs,H1,I1,r,z,q⟩=>⟨by rw[<- r.length];exact z,?_⟩);have hf:H1 s1.heap.objs.size=none:=I1.hok.fresh (SJ _);refine⟨.ref s1.heap.objs.size,upd H1 s1.heap.objs.size (.lst xs),I1.laid (t':=s1.toks) (fun b u e=>VN _ e) (SJ _) ?_,rfl,q _ hf⟩;exact⟨z,us,0,r,VT _ rfl⟩
end
abbrev Sp:=VS->Hp->VK->XK->Prop
abbrev CXT:=List Env->Hp->VP->XK->VQ
structure Env0(P:VC)(w:VF)(K:VG)(mg:VZ)(base:Heap)(A:VD)(outer:List Env)(s:VP)(H:Hp):Prop where
 frames:A.frames=some outer
 mod:Mod K mg base
 bs:∀b o,base.get? b=some o->s.heap.get? b=some o/\H b=none
 bsz:base.objs.size<=s.heap.objs.size
 funs:s.heap.FunFrames base outer
 frf:∀b∈frs outer,H b=none
 hok:HOk P w H s.heap
 bare:AllBare s.gens
def CE(outer:List Env)(P:VC)(w:VF)(H:Hp)(s:VP)(Q:VK)(u:VR)(s':VP):Prop :=
 ∃v H',s'.os=s.os/\AllBare s'.gens/\Un (frs outer) [] H H' s.heap s'.heap/\HOk P w H' s'.heap/\RelV v u/\Q v H'
def CR(CX:CXT)(outer:List Env)(P:VC)(w:VF)(H:Hp)(s:VP)(Q:VK)(E:XK)(r:Result)(s':VP):Prop :=
 match r with
 | .ok (.ret u)=>CE outer P w H s Q u s'
 | .ok _=>False
 | .error e=>CX outer H s E e s'
structure FnOk(P:VC)(w:VF)(K:VG)(mg:VZ)(base:Heap)(CX:CXT)(k:Nat)(f:VB)(fd:FuncData)(ps:VJ)(sp:Sp):Prop where
 len:∀vs H Q E,sp vs H Q E->vs.length=ps.length
 run:∀(A:VD)(outer:List Env)(s:VP)(H:Hp)(args:Args)(us:VU)(vs:VS)(Q:VK)(E:XK),Room k A->Env0 P w K mg base A outer s H->BindsTo s fd args (ps.zip us)->Vals vs us->sp vs H Q E ->
  codeAny (model P w) A (.call (.ref f) args) (CR CX outer P w H s Q E) s
section
variable{X:Cx}{pins:VW}{σ:St}{H:Hp}{s s':VP}
theorem Inv.env0(I:Inv X pins σ H s):Env0 X.prog X.w X.K X.mg X.base X.A X.stack s H :=
 ⟨I.ok.frames,I.ok.mod,I.bs,LQ I.ok.bsz I.sz,I.stack,I.stkFree,I.hok,I.bare⟩
theorem Inv.after{Q:VK}{u:VR}(I:Inv X pins σ H s)(h:CE X.stack X.prog X.w H s Q u s'):EP X pins σ Q u s':=by obtain⟨v,H',os,bare,un,hok,r,q⟩:=h;obtain⟨hh,g,d,t,os'⟩:=s';obtain rfl:os'=s.os:=os;exact⟨v,H',I.call (h':=hh) (g':=g) (d':=d) (t':=t) (ch:=[]) un hok bare (fun b z=>absurd z (by simp)),r,q⟩
end
def Jsx(sp:Sp)(dvs:VS)(E:XK)(t:TA):TE:=fun σ H Q=>t σ H fun vs H1=>sp (vs++dvs) H1 Q E
def Binds(K:VG)(fd:FuncData)(ps:VJ)(ds:VU):Prop :=
 ∀(s:VP)(us:VU),K.In s.heap->(us++ds).length=ps.length->BindsTo s fd ⟨us,[]⟩ (ps.zip (us++ds))
theorem Binds.all{K:VG}{fd:FuncData}{ps:VJ}(h:∀us:VU,us.length=ps.length->bindArgs fd ⟨us,[]⟩=pure (ps.zip us)):Binds K fd ps []:=fun s us _ hl=>by rw[List.append_nil]at hl ⊢;exact .of_eq (h us hl)
def Jie(CX:CXT)(X:Cx)(E:XK):Prop:=∀(pins:VW)(σ:St)(H:Hp)(s:VP)(e:VR)(s':VP),Inv X pins σ H s->CX X.stack H s E e s'->X.xe e s'
section
variable{X:Cx}{CX:CXT}{k:Nat}{f C:VB}{fd:FuncData}{ps:VJ}{sp:Sp}{dvs:VS}{ds:VU}{E:XK}{x m:Str}{p pos apos:Pos}{e o:Expr}{es:List Expr}{ta:TE}{t:TA}
theorem Jud{pins:VW}{σ:St}{H:Hp}{s:VP}{Q:VK}{us:VU}{vs:VS}(F:FnOk X.prog X.w X.K X.mg X.base CX k f fd ps sp)(hr:Room k X.A)(hb:Binds X.K fd ps ds)(hd:Vals dvs ds)(hx:Jie CX X E)
  (I:Inv X pins σ H s) (r:Vals vs us) (h:sp (vs++dvs) H Q E):wpAny (model X.prog X.w) X.A (call (.ref f) us) (EP X pins σ Q) X.xe s:=by
 have r2:Vals (vs++dvs) (us++ds):=r.append hd;have hl:(us++ds).length=ps.length:=by rw[<- r2.length];exact F.len _ _ _ _ h
 refine wpAny_call (codeAny_mono (F.run X.A X.stack s H ⟨us,[]⟩ (us++ds) (vs++dvs) Q E hr I.env0 (hb s us I.kIn hl) r2 h) fun r s' hq=>?_);cases r with
 | error e=>exact hx pins σ H s e s' I hq
 | ok fl =>
  cases fl with
  | ret u=>exact I.after hq
  | next=>exact False.elim hq
  | brk=>exact False.elim hq
  | cont=>exact False.elim hq
theorem Jrl(F:FnOk X.prog X.w X.K X.mg X.base CX k f fd ps sp)(hr:Room k X.A)(hg:Gl X x)(hm:X.mg x=some (.ref f))(hk:PySem.W.keepIn X.K (.ref f)=true)(hb:Binds X.K fd ps ds)(hd:Vals dvs ds)(hx:Jie CX X E)
  (ha:PA X (e::es) t) (hdb:(x==("__debug__":Str))=false:=by decide) (he:starEach (e::es) X.env=(false,eval e X.env)::starEach es X.env:=by rfl) (hpl:(backTo pos (starEach es X.env)).any (·.1)=false:=by rfl) :
  PE X (.Call (.Name x p) (e::es) [] pos) (Jsx sp dvs E t):=by
 intro pins s σ H Q I h;refine wpAny_Call_Name_kw (Jjj I hg hm ?_ hdb);refine PySem.W.callWith_K (h₀:=X.base) I.ok.mod.kin hk (thn (ha pos pins s σ H _ I h) fun us s1 ⟨vs,H1,I1,r,q⟩=>⟨I1.kIn,?_⟩) he hpl;exact Jud F hr hb hd hx I1 r q
end
def PK(X:Cx)(kws:List Keyword)(t:TA):Prop :=
 ∀(pos:Pos)(pins:VW)(s:VP)(σ:St)(H:Hp)(Q:VS->Hp->Prop),Inv X pins σ H s->t σ H Q->wpAny (model X.prog X.w) X.A (evalAll ((backToKw pos (keywordEach kws X.env)).map (·.2))) (AP X pins σ Q) X.xe s
section
variable{X:Cx}{CX:CXT}{k:Nat}{f C:VB}{fd:FuncData}{ps ks:VJ}{sp:Sp}{E:XK}{x m:Str}{p pos apos kpos:Pos}{e o:Expr}{es:List Expr}{kws:List Keyword}{te ta:TE}{t tk:TA}{nm:Option Str}
theorem Jul:PK X [] tNil:=fun _ _ _ _ H Q I h=>wpAny_evalAll_nil ⟨[],H,I,.nil,h⟩
theorem Jrf(ha:PE X e te)(hr:PK X kws t):PK X (⟨nm,e,kpos⟩::kws) (Jsw te t):=by intro pos pins s σ H Q I h;show wpAny _ _ (evalAll ((do let v <- eval e X.env;standAt pos;pure v)::(backToKw pos (keywordEach kws X.env)).map (·.2))) _ _ s;refine wpAny_evalAll_cons (VL (thn (ha pins s σ H _ I h) fun u s1 ⟨x,H1,I1,r1,q1⟩=>VL (wpAny_standAt (VM ?_))));exact thn (hr pos pins s1 σ H1 _ I1 q1) fun us s2 ⟨xs,H2,I2,r2,q2⟩=>⟨x::xs,H2,I2,.cons r1 r2,q2⟩
variable{g:VU->VU->VU}{gV:VS->VS->VS}
end
structure FnScope(N P:VJ)(sc:Scope):Prop where
 kind:sc.kind=.function
 co:sc.isCoroutine=false
 gen:sc.isGenerator=false
 nd:N.Nodup
 pre:N.take P.length=P
 par:∀x∈P,sc.names.lookup x=some .local\/sc.names.lookup x=some .cell
 nofree:∀y∈sc.names,y.2≠.free
theorem Jcy{kindOf:Str->Option NameKind}{x:Str}:∀{binds:List (Str×VR)}{m:VZ},(∀v,(x,v)∉binds)->bindL kindOf binds m x=m x
 | [],_,_=>rfl
 | (n,v)::r,m,h=>by
  unfold bindL;rw[Jcy fun w hw=>h w (List.mem_cons_of_mem _ hw)];split
  ·have:x≠n:=by rintro rfl; exact h v SG
   simp[this]
  ·rfl
theorem Jda{kindOf:Str->Option NameKind}{x:Str}:∀{binds:List (Str×VR)}{m:VZ},(∀v,(x,v)∉binds)->bindC kindOf binds m x=m x
 | [],_,_=>rfl
 | (n,v)::r,m,h=>by
  unfold bindC;rw[Jda fun w hw=>h w (List.mem_cons_of_mem _ hw)];split
  ·rfl
  ·have:x≠n:=by rintro rfl; exact h v SG
   simp[this]
theorem Jcz{kindOf:Str->Option NameKind}{x:Str}{v:VR}:∀{P:VJ}{vs:VU}{i:Nat}{m:VZ},P.Nodup->P[i]?=some x->vs[i]?=some v->kindOf x=some .local ->
  bindL kindOf (P.zip vs) m x=some v
 | [],_,_,_,_,h,_,_=>by simp at h
 | _::_,[],_,_,_,_,h,_=>by simp at h
 | p::P,w::vs,0,m,nd,h1,h2,hk=>by simp at h1 h2;subst h1;subst h2;show bindL kindOf ((p,w)::P.zip vs) m p=_;unfold bindL;rw[Jcy fun v hv=>(List.nodup_cons.mp nd).1 (List.of_mem_zip hv).1,if_pos hk];simp
 | p::P,w::vs,i + 1,m,nd,h1,h2,hk=>by show bindL kindOf ((p,w)::P.zip vs) m x=_;unfold bindL;exact Jcz (i:=i) (List.nodup_cons.mp nd).2 (by simpa using h1) (by simpa using h2) hk
theorem Jdb{kindOf:Str->Option NameKind}{x:Str}{v:VR}:∀{P:VJ}{vs:VU}{i:Nat}{m:VZ},P.Nodup->P[i]?=some x->vs[i]?=some v->kindOf x≠some .local ->
  bindC kindOf (P.zip vs) m x=some v
 | [],_,_,_,_,h,_,_=>by simp at h
 | _::_,[],_,_,_,_,h,_=>by simp at h
 | p::P,w::vs,0,m,nd,h1,h2,hk=>by simp at h1 h2;subst h1;subst h2;show bindC kindOf ((p,w)::P.zip vs) m p=_;unfold bindC;rw[Jda fun v hv=>(List.nodup_cons.mp nd).1 (List.of_mem_zip hv).1,if_neg hk];simp
 | p::P,w::vs,i + 1,m,nd,h1,h2,hk=>by show bindC kindOf ((p,w)::P.zip vs) m x=_;unfold bindC;exact Jdb (i:=i) (List.nodup_cons.mp nd).2 (by simpa using h1) (by simpa using h2) hk
def start(N:VJ)(vs:VS):St:=vs.map some++List.replicate (N.length-vs.length) none
def cxOf(CX:CXT)(P:VC)(w:VF)(K:VG)(mg:VZ)(base:Heap)(N:VJ)(qual:Str)(scope:Scope)(f:VB)(cd:VR)(A:VD)(outer:List Env)(s:VP)(H:Hp)(E:XK):Cx where
 prog:=P
 w:=w
 K:=K
 mg:=mg
 base:=base
 A:=A.deeper (envOfC qual scope s.heap.objs.size f cd)
 N:=N
 s₀:=s
 H₀:=H
 env:=envOfC qual scope s.heap.objs.size f cd
 outer:=outer
 stack:=envOfC qual scope s.heap.objs.size f cd::outer
 ex:=[]
 calm:=true
 fn:=fun _=>true
 pn:=[]
 xe:=fun e s'=>wpAny (model P w) (A.deeper (envOfC qual scope s.heap.objs.size f cd)) (leaving (envOfC qual scope s.heap.objs.size f cd) e) (fun _ s''=>CX outer H s E e s'') (fun e' s''=>CX outer H s E e' s'') s'
theorem Jgj{sc:Scope}{n:Nat}{x:Str}(h:sc.names.lookup x=some .cell):∃c,(cellsFrom n sc.names []).lookup x=some c:=by have q:=PySem.W.cellsFrom_some sc.names n [] (.inl h);exact Option.isSome_iff_exists.mp q
theorem Jlx{CX:CXT}{P:VC}{w:VF}{K:VG}{mg:VZ}{base:Heap}{N ps:VJ}{qual:Str}{scope:Scope}{f:VB}{cd:VR}{A:VD}{outer:List Env}{s s1:VP}{H:Hp}{E:XK}{us:VU}{vs:VS}
  (S:FnScope N ps scope) (hd:A.handled=none) (e0:Env0 P w K mg base A outer s H) (hl:vs.length=ps.length) (r:Vals vs us)
  (x:InCallC s s.heap.objs.size (bindL (envOfC qual scope s.heap.objs.size f cd).kindOf (ps.zip us) fun _=>none) (cellsFrom (s.heap.objs.size+1) scope.names []) (bindC (envOfC qual scope s.heap.objs.size f cd).kindOf (ps.zip us) fun _=>none) s1) :
  Inv (cxOf CX P w K mg base N qual scope f cd A outer s H E) [] (start N vs) H s1:=by
 have hpl:ps.length<=N.length:=by have:=congrArg List.length S.pre;rw[List.length_take]at this;omega
 obtain⟨h1,tk,rfl,hk⟩:=x.done;have noA:∀b:VB,b∉(cxOf CX P w K mg base N qual scope f cd A outer s H E).ex:=fun b z=>absurd (show b∈([]:List VB)from z) (by simp);refine ⟨⟨e0.mod,S.kind,rfl,rfl,SJ _,fun y z c h1 h2=>?_,fun y hy=>?_,fun y c _ h=>?_,fun _=>hd,Around.frames_deeper e0.frames,.inr ⟨rfl,rfl⟩,fun b z=>absurd z (noA b),e0.bs,e0.bsz,fun b _ _=>noA b,fun b z=>absurd z (noA b),e0.funs,e0.frf⟩,
  rfl,e0.bare,Un.kept hk,⟨_,x.toInCall.ns,fun i y v h1 h2 h3=>?_⟩,fun y c h=>⟨_,x.cell y c h⟩,e0.hok.fresh (SJ _),fun y c h=>?_,fun p hp=>absurd (show p∈([]:VW) from hp) (by simp),e0.hok.kept hk,?_⟩
 ·exact name_of_addr x.apart (PySem.mem_of_lookup h1) (PySem.mem_of_lookup h2)
 ·have hy:scope.names.lookup y=some .cell\/scope.names.lookup y=some .free:=hy;rcases hy with hy|hy
  ·exact Jgj hy
  ·exact absurd rfl (S.nofree _ (PySem.mem_of_lookup hy))
 ·exact SZ (x.above y c (PySem.mem_of_lookup h))
 ·have hi:i < vs.length:=by
   unfold start at h2;by_cases hi:i<vs.length
   ·exact hi
   ·rw [List.getElem?_append_right (by simpa using hi)] at h2;rw[List.getElem?_replicate]at h2;split at h2<;>cases h2
  have ha:vs[i]?=some v:=by
   unfold start at h2;rw[List.getElem?_append_left (by simpa using hi),List.getElem?_map]at h2;cases e:vs[i]? with
   | none=>rw [e] at h2; cases h2
   | some a=>rw [e] at h2; cases h2; rfl
  obtain⟨u,hu,rv⟩:=r.get ha;have hp:ps[i]?=some y:=by rw[<- S.pre,List.getElem?_take_of_lt (by omega)];exact h1
  have ndP:ps.Nodup:=by rw[<- S.pre];exact S.nd.sublist (List.take_sublist _ _)
  refine⟨u,rv,?_⟩;rcases S.par y (SK hp)with k|k
  ·exact .inl ⟨k,Jcz ndP hp hu k⟩
  ·obtain ⟨c,e⟩:=Jgj (n:=s.heap.objs.size + 1) k;refine .inr ⟨.inl k,c,e,?_⟩;have q:=x.cell y c e;rw[Jdb ndP hp hu (by show scope.names.lookup y≠_;rw[k];decide)]at q;exact q
 ·exact e0.hok.fresh (SZ (x.above y c (PySem.mem_of_lookup h)))
 ·unfold start;show _=N.length;rw[List.length_append,List.length_map,List.length_replicate];omega
theorem fn_of{CX:CXT}{P:VC}{w:VF}{K:VG}{mg:VZ}{base:Heap}{k:Nat}{f:VB}{name qual:Str}{params:Arguments}{body:List Stmt}{scope:Scope}{dV kV doc pm cdv ct oc:VR}{an od:Option VB}
  {osl:Array (VH)} {N ps:VJ} {sp:Sp} (lk:K.lookup f=some ⟨oc,od,.func (PySem.W.fnOf name qual params body scope dV kV doc pm an cdv ct),osl⟩) (hcd:PySem.W.codeIn K cdv qual=true) (S:FnScope N ps scope)
  (len:∀vs H Q E,sp vs H Q E->vs.length=ps.length)
  (hbody:∀ (A:VD) (outer:List Env) (s:VP) (H:Hp) (vs:VS) (Q:VK) (E:XK),Room k (A.deeper (envOfC qual scope s.heap.objs.size f cdv))->sp vs H Q E ->
   ∃ t,PSs (cxOf CX P w K mg base N qual scope f cdv A outer s H E) body t/\t { nx:=fun _ H'=>Q .non H',rt:=Q } (start N vs) H) :
  FnOk P w K mg base CX (k+1) f (PySem.W.fnOf name qual params body scope dV kV doc pm an cdv ct) ps sp:=by
 refine⟨len,fun A outer s H args us vs Q E hr e0 hb r hsp=>?_⟩;have hl:=len _ _ _ _ hsp;have KX:K.In s.heap:=e0.mod.kin.keeps fun b o e=>(e0.bs b o e).1;have lim:s.heap.NoLimit:=e0.mod.nolimit.keeps fun b o e=>(e0.bs b o e).1;have hkind:∀y∈ps.zip us,scope.names.lookup y.1=some .local\/(scope.names.lookup y.1=some .cell/\((cellsFrom (s.heap.objs.size+1) scope.names []).lookup y.1).isSome=true):=fun⟨n,v⟩ hy=>by
  rcases S.par n (List.of_mem_zip hy).1 with q|q
  ·exact .inl q
  ·exact .inr ⟨q,PySem.W.cellsFrom_some _ _ _ (.inl q)⟩
 refine codeAny_call_function hr.depth (KX _ _ lk) rfl S.co S.gen rfl (PySem.W.codeRec_of KX hcd) (hb _ _ _ _ ?_);refine wpAny_newFunctionEnv_cells S.kind hkind fun env he s1 x=>?_;subst he;refine⟨lim.keeps x.toInCall.keep,codeAny_func ?_⟩;obtain⟨t,ht,hq⟩:=hbody A outer s H vs Q E (hr.deeper _) hsp;have I:Inv (cxOf CX P w K mg base N qual scope f cdv A outer s H E) [] (start N vs) H s1:=Jlx S hr.hd e0 hl r x;refine wpAny_mono (ht [] s1 (start N vs) H _ I hq) (fun fl s' hs=>?_) fun e s' hs=>hs;have fin:∀{σ':St}{H':Hp}{v:V}{u:VR},Inv (cxOf CX P w K mg base N qual scope f cdv A outer s H E) [] σ' H' s'->RelV v u->Q v H'->CE outer P w H s Q u s' :=
  fun {σ' H' v u} J rv q=>⟨v,H',J.os,J.bare,J.base,J.hok,rv,q⟩
 cases fl with
 | ret u =>
  obtain⟨v,σ',H',J,rv,q⟩:=hs;exact fin J rv q
 | next =>
  obtain⟨σ',H',J,q⟩:=hs;exact fin (v:=V.non) (u:=Value.none) J rfl q
 | brk =>
  obtain⟨_,_,_,q⟩:=hs;exact False.elim q
 | cont =>
  obtain⟨_,_,_,q⟩:=hs;exact False.elim q
section
variable{X:Cx}{x:Str}{p pos:Pos}{e:Expr}{es:List Expr}{t:TA}{id T:String}{r:VS->Hp->VK->Prop}
def tCB(r:VS->Hp->VK->Prop)(t:TA):TE:=fun σ H Q=>t σ H fun vs H1=>r vs H1 Q
theorem Jm(hc:Yd X (.builtin id) r)(hg:Gl X x)(hm:X.mg x=none)(hv:bootBuiltins x=some (.builtin id))(ha:PA X (e::es) t)(hn:x≠"__name__":=by decide)(hdb:(x==("__debug__":Str))=false:=by decide)
  (he:starEach (e::es) X.env=(false,eval e X.env)::starEach es X.env:=by rfl) (hpl:(backTo pos (starEach es X.env)).any (·.1)=false:=by rfl):PE X (.Call (.Name x p) (e::es) [] pos) (tCB r t):=by
 intro pins s σ H Q I h;refine wpAny_Call_Name_kw (Zk I hg hm hv ?_ hn hdb);exact PyProof.Rows.callWith_builtin1 (thn (ha pos pins s σ H _ I h) fun us s1 ⟨vs,H1,I1,r1,q1⟩=>hc pins s1 σ H1 vs us Q I1 r1 q1) he hpl
theorem JN(hc:Yd X (.type T) r)(hg:Gl X x)(hm:X.mg x=none)(hv:bootBuiltins x=some (.type T))(ha:PA X (e::es) t)(hn:x≠"__name__":=by decide)(hdb:(x==("__debug__":Str))=false:=by decide)
  (he:starEach (e::es) X.env=(false,eval e X.env)::starEach es X.env:=by rfl) (hpl:(backTo pos (starEach es X.env)).any (·.1)=false:=by rfl):PE X (.Call (.Name x p) (e::es) [] pos) (tCB r t):=by
 intro pins s σ H Q I h;refine wpAny_Call_Name_kw (Zk I hg hm hv ?_ hn hdb);exact PyProof.Rows.callWith_type1 (thn (ha pos pins s σ H _ I h) fun us s1 ⟨vs,H1,I1,r1,q1⟩=>hc pins s1 σ H1 vs us Q I1 r1 q1) he hpl
end
end L2
namespace HT
open PySem PyProof.Rows
def Jbb:VY->VY->Bool
 | [],[]=>false
 | [],_::_=>true
 | _::_,[]=>false
 | x::xs,y::ys=>if x=y then Jbb xs ys else decide (x < y)
theorem Jhn(x y:Int)(xs ys:VY):Jbb (x::xs) (y::ys)=if x=y then Jbb xs ys else decide (x<y):=rfl
theorem Jbw:Jbb [] []=false:=rfl
theorem Jaz(y:Int)(ys:VY):Jbb [] (y::ys)=true:=rfl
theorem Jba(x:Int)(xs:VY):Jbb (x::xs) []=false:=rfl
theorem Jpy(A:VD)(s:VP)(a:Int)(t:Tok)(c:Int)(u:Tok):∃e,SeqAt.EqAt A s (.int a t) (.int c u) e/\(e=true↔a=c) :=
 ⟨(a==c),SeqAt.EqAt.int_int a t c u,by simp⟩
section
open PySem.SeqAt
open PySem.AutoSeq1 (wpAny_loadPart')
open PySem.MeetsSeq PySem.MeetsSeq2 PySem.MeetsSeq3
end
section
variable{prog:VC}{w:VF}{A:VD}{E:VQ}{s:VP}
theorem cat_tup{t b:VB}{vs ws:VU}{Q:VQ}(ht:IsTup s.heap t vs.toArray)(hb:IsTup s.heap b ws.toArray)(hv:vs≠[])
  (h1:ws=[]->Q (.ref t) s) (h2:ws≠[]->Q (.ref s.heap.objs.size) { s with heap:=s.heap.push { cls:=.type "tuple",data:=.seq (vs++ws).toArray } })
  (hsz:vs.length+ws.length<=sizeLine):wpAny (model prog w) A (binaryOp .Add (.ref t) (.ref b)) Q E s:=by
 obtain⟨⟨cls,dd,data,sl⟩,ho,hc,n,hd⟩:=id ht;obtain⟨⟨cls2,dd2,data2,sl2⟩,ho2,hc2,n2,hd2⟩:=id hb;simp only at hc hd hc2 hd2;subst hc hd hc2 hd2;have e:vs.toArray++ws.toArray=(vs++ws).toArray:=by simp
 by_cases hw:ws=[]
 ·exact concat_meets ⟨_,ho,rfl⟩ ⟨_,ho2,rfl⟩ noFill_tuple_add seq_tuple_add PySem.F.slot_tuple_add PySem.F.entry_tuple_add (PySem.F.args_tuple_add_2 _ _)
   (tuple_addW1 t b vs.toArray ws.toArray n n2 dd dd2 sl sl2 (by simpa using hv) (by simp[hw])) ⟨ho,ho2,h1 hw⟩
 ·refine concat_meets ⟨_,ho,rfl⟩ ⟨_,ho2,rfl⟩ noFill_tuple_add seq_tuple_add PySem.F.slot_tuple_add PySem.F.entry_tuple_add (PySem.F.args_tuple_add_2 _ _)
   (tuple_addW2 t b vs.toArray ws.toArray n n2 dd dd2 sl sl2 (by simpa using hv) (by simpa using hw) (by rw[List.size_toArray,List.size_toArray];exact hsz)) ⟨ho,ho2,?_⟩
  rw[e];exact h2 hw
def sIx(n d:Nat):Option Int->Nat
 | none=>d
 | some v=>if v < 0 then (v + (n:Int)).toNat else min v.toNat n
theorem sIx_none(n d:Nat):sIx n d none=d:=rfl
theorem sIx_nat(n d k:Nat):sIx n d (some (k:Int))=min k n:=by show(if (k:Int)<0 then((k:Int)+(n:Int)).toNat else min (k:Int).toNat n)=min k n;rw[if_neg (by omega),Int.toNat_natCast]
theorem Juc(n d:Nat)(hd:d<=n)(o:Option Int):sIx n d o<=n:=by
 cases o with
 | none=>exact hd
 | some v =>
  show(if v<0 then(v+(n:Int)).toNat else min v.toNat n)<=n;by_cases hv:v<0
  ·rw [if_pos hv]; omega
  ·rw [if_neg hv]; exact Nat.min_le_right _ _
theorem Jkc(v:Int)(n d:Nat):(if v<0 then max (v+(n:Int)) 0 else min v (n:Int))=((sIx n d (some v):Nat):Int):=by
 show(if v<0 then max (v+(n:Int)) 0 else min v (n:Int))=(((if v<0 then(v+(n:Int)).toNat else min v.toNat n):Nat):Int);by_cases hv:v<0
 ·simp only [if_pos hv]; omega
 ·simp only [if_neg hv]; omega
theorem Jid(lo hi:Option Int)(n:Nat):Builtin.Slice.sliceAdjust lo hi 1 (n:Int)=(((sIx n 0 lo:Nat):Int),((sIx n n hi:Nat):Int)):=by
 have h1:¬ ((1:Int)<0):=by omega
 unfold Builtin.Slice.sliceAdjust;simp only[h1,if_false];refine Prod.ext ?_ ?_
 ·cases lo with
  | none=>rfl
  | some v=>exact Jkc v n 0
 ·cases hi with
  | none=>rfl
  | some v=>exact Jkc v n n
theorem Jhd(i j:Nat):Builtin.Slice.slicePlaces (i:Int) (j:Int) 1=j-i:=by
 unfold Builtin.Slice.slicePlaces;have h1:(1:Int)>0:=by omega
 simp only[h1,if_true,Int.ediv_one];split<;>omega
theorem Jam{v:VR}{o:Option Int}{Q:Option Int->VP->Prop}(p:IsPart v o)(h:Q o s):wpAny (model prog w) A (Builtin.Slice.slicePartIndex v) Q E s:=by
 cases p with
 | none=>exact slicePart_none h
 | int i t=>exact slicePart_int h
theorem sliceApplied_gen{sl:VB}{vl vu:VR}{lo hi:Option Int}{n:Nat}{Q:Int×Int×Nat->VP->Prop}(hs:s.heap.IsSliceOf sl vl vu .none)(pl:IsPart vl lo)(pu:IsPart vu hi)
  (h:Q (((sIx n 0 lo:Nat):Int),1,sIx n n hi-sIx n 0 lo) s):wpAny (model prog w) A (Builtin.Slice.sliceApplied (.ref sl) (pure (n:Int))) Q E s:=by
 obtain⟨os,hos,hcs,hds⟩:=id hs;unfold Builtin.Slice.sliceApplied Builtin.Slice.sliceFields;refine VL (VL (wpAny_field hos hds (x:=vl) rfl (VL (wpAny_field hos hds (x:=vu) rfl (VL (wpAny_field hos hds (x:=.none) rfl (VM ?_)))))));refine VL (slicePart_none ?_);show wpAny _ _ (if ((1:Int)==0)=true then _ else _) _ _ s;rw[if_neg (by decide)];refine VL (Jam pl (VL (Jam pu (VL (VM ?_)))));show wpAny _ _ (match Builtin.Slice.sliceAdjust lo hi 1 (n:Int) with|(lo,hi)=>pure (lo,(1:Int),Builtin.Slice.slicePlaces lo hi 1)) _ _ s;rw[Jid lo hi n];show wpAny _ _ (pure (((sIx n 0 lo:Nat):Int),(1:Int),Builtin.Slice.slicePlaces ((sIx n 0 lo:Nat):Int) ((sIx n n hi:Nat):Int) 1)) _ _ s;rw[Jhd];exact VM h
theorem Jnr(xs:Array VR)(i k:Nat):((List.range k).filterMap fun(m:Nat)=>xs[((i:Int)+(m:Int)*1).toNat]?).toArray=((xs.toList.drop i).take k).toArray:=by
 have e:(fun(m:Nat)=>xs[((i:Int)+(m:Int)*1).toNat]?)=fun m=>xs[i+m]?:=by
  funext m;have:((i:Int)+(m:Int)*1).toNat=i+m:=by omega
  rw[this]
 rw[e];have:=pick_run xs i k;rw[List.filterMap_map]at this;have e2:((fun x=>xs[x]?)∘fun x=>i+x)=fun m=>xs[i+m]?:=rfl;rw[e2]at this;rw[this]
theorem getItem_tuple_cut{t sl:VB}{items:Array VR}{vl vu:VR}{lo hi:Option Int}{Q:VQ}(ht:IsTup s.heap t items)(hs:s.heap.IsSliceOf sl vl vu .none)(pl:IsPart vl lo)(pu:IsPart vu hi)
  (hw:¬ (sIx items.size 0 lo=0/\sIx items.size items.size hi=items.size))
  (h:Q (.ref s.heap.objs.size) { s with heap:=s.heap.push { cls:=.type "tuple",data:=.seq ((items.toList.drop (sIx items.size 0 lo)).take (sIx items.size items.size hi-sIx items.size 0 lo)).toArray } })
  (hsz:items.size<=sizeLine):wpAny (model prog w) A (getItem (.ref t) (.ref sl)) Q E s:=by
 have htake:sizeOk (.seq ((items.toList.drop (sIx items.size 0 lo)).take (sIx items.size items.size hi-sIx items.size 0 lo)).toArray):=by show((items.toList.drop (sIx items.size 0 lo)).take (sIx items.size items.size hi-sIx items.size 0 lo)).toArray.size<=sizeLine;rw[List.size_toArray,List.length_take,List.length_drop,Array.length_toList];omega
 have hj:sIx items.size items.size hi<=items.size:=Juc _ _ (SJ _) hi;obtain⟨os,hos,hcs,hds⟩:=id hs;have hTs:s.TypeIs (.ref sl) "slice":=⟨os,hos,hcs⟩;unfold getItem
 try with_reducible refine wpAny_holding ?_
 first|refine VL (VM ?_)|skip
 refine VL (wpAny_sequenceKey ht.typeIs (by decide) ?_);refine VL (wpAny_callSpecial?_slot (name:=Str.ofString "__getitem__") ht.typeIs PyProof.Rows.slot_tuple_getitem
  (wpAny_call_entry PyProof.Rows.slot_tuple_getitem ht.typeIs entry_tuple_getitem ?_ (args_tuple_getitem _ _)))
 show wpAny _ _ (Builtin.Tuple.tupleItemsOf (.ref t) >>= _) _ _ s;refine VL (tupleItemsOf_ ht ?_);refine VL (wpAny_typeOf hTs ?_);rw[if_pos (by decide)];refine VL (sliceApplied_gen hs pl pu ?_);have hno:¬ ((((sIx items.size 0 lo:Nat):Int)==0&&(1:Int)==1&&(sIx items.size items.size hi-sIx items.size 0 lo)==items.size)=true):=by intro q;rw[Bool.and_eq_true,Bool.and_eq_true]at q;have q1:((sIx items.size 0 lo:Nat):Int)=0:=eq_of_beq q.1.1;have q2:sIx items.size items.size hi-sIx items.size 0 lo=items.size:=eq_of_beq q.2;exact hw ⟨by omega,by omega⟩
 show wpAny _ _ (if (((sIx items.size 0 lo:Nat):Int)==0&&(1:Int)==1&&(sIx items.size items.size hi-sIx items.size 0 lo)==items.size)=true then _ else _) _ _ s;rw[if_neg hno,Jnr]
 first
  | exact VL (m:=Builtin.Tuple.tupleExact _) (wpAny_newObj_type (VM ⟨_,rfl,VM h⟩) htake)
  | exact VL (m:=Builtin.Tuple.tupleExact _) (wpAny_newObj_type (VL (VM (VM ⟨_,rfl,VM h⟩))) htake)
  | exact VL (VL (m:=Builtin.Tuple.tupleExact _) (wpAny_newObj_type (VM (VM ⟨_,rfl,VM h⟩)) htake))
  | exact VL (VL (m:=Builtin.Tuple.tupleExact _) (wpAny_newObj_type (VM ⟨_,rfl,VM h⟩) htake))
end
end HT
namespace L2
open PySem PySem.Spec PyProof.Rows
abbrev TO:=St->Hp->(Option Int->Hp->Prop)->Prop
def PO(X:Cx)(e:Option Expr)(t:TO):Prop :=
 ∀(pins:VW)(s:VP)(σ:St)(H:Hp)(Q:Option Int->Hp->Prop),Inv X pins σ H s->t σ H Q ->
  wpAny (model X.prog X.w) X.A (evalPart e X.env) (fun u s'=>∃o H',Inv X pins σ H' s'/\IsPart u o/\Q o H') X.xe s
def Jqq:TO:=fun _ H Q=>Q none H
def Jwp(t:TE):TO:=fun σ H Q=>t σ H fun x H1=>∃i,x=.int i/\Q (some i) H1
theorem Zu{ns:VY}:∀{us:VU},Vals (ns.map V.int) us->IntsAre us ns:=by
 induction ns with
 | nil=>intro us r; rw [List.map_nil] at r; cases r; exact .nil
 | cons n ns ih =>
  intro us r;rw[List.map_cons]at r;cases r with
  | cons r1 r2 =>
   obtain⟨t,e⟩:=r1;subst e;exact .cons n t (ih r2)
section
variable{X:Cx}{e:Expr}{te:TE}{lo hi:Option Expr}{tl th:TO}{pos p2:Pos}
theorem Wj:PO X none Jqq:=by intro pins s σ H Q I h;rw[evalPart_none];exact VM ⟨none,H,I,.none,h⟩
theorem Zm(h:PE X e te):PO X (some e) (Jwp te):=by intro pins s σ H Q I hw;rw[evalPart_some];refine thn (h pins s σ H _ I hw) fun u s1 ⟨x,H1,I1,r1,q1⟩=>?_;obtain⟨i,rfl,q⟩:=q1;obtain⟨t,rfl⟩:=r1;exact⟨some i,H1,I1,.int i t,q⟩
def SlR(X:Cx)(r:V->Option Int->Option Int->Hp->VK->Prop):Prop :=
 ∀(pins:VW)(s:VP)(σ:St)(H:Hp)(x:V)(v vl vu:VR)(lo hi:Option Int)(sl:VB)(Q:VK),Inv X pins σ H s->RelV x v->s.heap.IsSliceOf sl vl vu .none->IsPart vl lo->IsPart vu hi->r x lo hi H Q ->
  ∃T id,typeLookup (.type T) "__getitem__"=pure (some (.builtin id))/\s.TypeIs v T/\wpAny (model X.prog X.w) X.A (getItem v (.ref sl)) (EP X pins σ Q) X.xe s
def tSl(r:V->Option Int->Option Int->Hp->VK->Prop)(te:TE)(tl th:TO):TE:=fun σ H Q=>te σ H fun x H1=>tl σ H1 fun l H2=>th σ H2 fun u H3=>r x l u H3 Q
theorem Zd{r:V->Option Int->Option Int->Hp->VK->Prop}(hr:SlR X r)(he:PE X e te)(hl:PO X lo tl)(hu:PO X hi th):PE X (.Subscript e (.Slice lo hi none p2) pos) (tSl r te tl th):=by intro pins s σ H Q I h;refine Subscript_ (thn (he pins s σ H _ I h) fun v s1 ⟨x,H1,I1,r1,q1⟩=>?_);refine wpAny_Slice (thn (hl pins s1 σ H1 _ I1 q1) fun vl s2 ⟨l,H2,I2,pl,q2⟩=>thn (hu pins s2 σ H2 _ I2 q2) fun vu s3 ⟨u,H3,I3,pu,q3⟩=>?_);rw[evalPart_none];refine VM ?_;have I4:Inv X pins σ H3 { s3 with heap:=s3.heap.push { cls:=.type "slice",data:=.fields #[vl,vu,.none] } }:=I3.kept (t':=s3.toks) fun b ob q=>VN _ q;obtain⟨T,id,hT,ht,hg⟩:=hr pins { s3 with heap:=s3.heap.push { cls:=.type "slice",data:=.fields #[vl,vu,.none] } } σ H3 x v vl vu l u s3.heap.objs.size Q I4 r1 (Heap.IsSliceOf.new ..) pl pu q3;show wpAny (model X.prog X.w) X.A (subscriptTail e (.Slice lo hi none p2) v (.ref s3.heap.objs.size)) (EP X pins σ Q) X.xe { s3 with heap:=s3.heap.push { cls:=.type "slice",data:=.fields #[vl,vu,.none] } };exact tail_any (ops:=[.ref s3.heap.objs.size,v]) ht hT hg (by with_unfolding_all rfl)
def cutV(xs:VS)(lo hi:Option Int):VS:=(xs.drop (HT.sIx xs.length 0 lo)).take (HT.sIx xs.length xs.length hi-HT.sIx xs.length 0 lo)
theorem WV(xs:VS)(lo hi:Option Int):(cutV xs lo hi).length<=xs.length:=by unfold cutV;rw[List.length_take,List.length_drop];omega
def rSlT(K:VG):V->Option Int->Option Int->Hp->VK->Prop:=fun x lo hi H Q=>∃a xs,x=.ref a/\SqT K H a xs /\
 ¬ (HT.sIx xs.length 0 lo=0/\HT.sIx xs.length xs.length hi=xs.length)/\∀p,H p=none->Q (.ref p) (upd H p (.tup (cutV xs lo hi)))
theorem Jtz:SlR X (rSlT X.K):=by
 intro pins s σ H x v vl vu lo hi sl Q I rx hs pl pu h;obtain⟨a,xs,rfl,hx,hw,q⟩:=h;cases rx;obtain⟨its,r,ht,hz⟩:=I.tuple hx;have hlen:its.toArray.size=xs.length:=by rw[List.size_toArray];exact r.length.symm
 refine⟨"tuple",_,PyProof.Rows.slot_tuple_getitem.lookup,ht.typeIs,?_⟩;refine HT.getItem_tuple_cut ht hs pl pu (by rw[hlen];exact hw) ?_ (by rw[hlen];exact hz);rw[hlen];refine⟨.ref s.heap.objs.size,_,I.laid (t':=s.toks) (o:=.tup (cutV xs lo hi)) (fun b ob q=>VN _ q) (SJ _) ?_,rfl,q _ (I.hok.fresh (SJ _))⟩;exact⟨LQ (WV xs lo hi) hz,_,(r.drop (HT.sIx xs.length 0 lo)).take (HT.sIx xs.length xs.length hi-HT.sIx xs.length 0 lo),IsTup.new _ _⟩
def rCatT(K:VG):R2:=fun x y H Q=>∃a b xs ys,x=.ref a/\y=.ref b/\SqT K H a xs/\SqT K H b ys/\xs≠[]/\xs.length+ys.length<=sizeLine /\
 (ys=[]->Q (.ref a) H)/\(ys≠[]->∀p,H p=none->Q (.ref p) (upd H p (.tup (xs++ys))))
theorem Vals.nil_iff{xs:VS}{us:VU}(r:Vals xs us):us=[]↔xs=[]:=by
 cases r with
 | nil=>simp
 | cons _ _=>simp
theorem Jrp:OpR X (binaryOp .Add) (rCatT X.K):=by intro pins s σ H x y v u Q I rx ry h;obtain⟨a,b,xs,ys,rfl,rfl,ha,hb,hx,hz,q1,q2⟩:=h;cases rx;cases ry;obtain⟨its,r1,p1,_⟩:=I.tuple ha;obtain⟨its2,r2,p2,_⟩:=I.tuple hb;refine HT.cat_tup p1 p2 (fun z=>hx (r1.nil_iff.mp z)) (fun z=>⟨.ref a,H,I,rfl,q1 (r2.nil_iff.mp z)⟩) (fun z=>?_) (by rw[<- r1.length,<- r2.length];exact hz);refine⟨.ref s.heap.objs.size,_,I.laid (t':=s.toks) (o:=.tup (xs++ys)) (fun b ob q=>VN _ q) (SJ _) ?_,rfl,q2 (fun w=>z (r2.nil_iff.mpr w)) _ (I.hok.fresh (SJ _))⟩;exact⟨by rw[List.length_append];exact hz,_,r1.append r2,IsTup.new _ _⟩
end
def ixN(n:Nat)(i:Int):Option Nat:=if 0<=i then(if i<n then some i.toNat else none)else if -(n:Int)<=i then some (i+n).toNat else none
def atI{α:Type}(xs:List α)(i:Int):Option α:=(ixN xs.length i).bind fun j=>xs[j]?
theorem Jjn{n:Nat}{i:Int}{j:Nat}(h:ixN n i=some j):seqIndex? i n=some j/\j<n/\-(n:Int)<=i/\i<n:=by
 unfold ixN at h;by_cases h0:0<=i
 ·rw [if_pos h0] at h;by_cases h1:i<n
  ·rw [if_pos h1] at h;have e:i.toNat=j:=Option.some.inj h;exact⟨by rw[seqIndex_of h0 h1,e],by omega,by omega,h1⟩
  ·rw [if_neg h1] at h; cases h
 ·rw [if_neg h0] at h;by_cases h1:-(n:Int)<=i
  ·rw [if_pos h1] at h;have e:(i+n).toNat=j:=Option.some.inj h;exact⟨by rw[seqIndex_neg (by omega) h1,e],by omega,h1,by omega⟩
  ·rw [if_neg h1] at h; cases h
theorem Jke{α:Type}{xs:List α}{i:Int}{v:α}(h:atI xs i=some v):∃j,seqIndex? i xs.length=some j/\xs[j]?=some v/\j<xs.length/\-(xs.length:Int)<=i/\i<xs.length:=by
 unfold atI at h;cases e:ixN xs.length i with
 | none=>rw [e] at h; cases h
 | some j =>
  rw[e]at h;obtain⟨h1,h2,h3,h4⟩:=Jjn e;exact⟨j,h1,h,h2,h3,h4⟩
theorem JS{α:Type}{xs:List α}{j:Nat}{v:α}(h:xs[j]?=some v):atI xs (j:Int)=some v:=by
 have hj:j<xs.length:=(SY.mp h).1;have e:ixN xs.length (j:Int)=some j:=by unfold ixN;rw[if_pos (by omega),if_pos (by omega)];simp
 unfold atI;rw[e];exact h
theorem Jqj{α:Type}(xs:List α)(v:α):atI (xs++[v]) (-1)=some v:=by
 have hl:(xs++[v]).length=xs.length+1:=by simp
 have e:ixN (xs++[v]).length (-1)=some xs.length:=by unfold ixN;rw[hl,if_neg (by decide),if_pos (by omega)];congr 1;omega
 unfold atI;rw[e];show(xs++[v])[xs.length]?=some v;simp
def Jst(b:Expr):Prop:=∀o i,subscripted b false o i=operate [o,i] (getItem o i)
def IxR(X:Cx)(r:R2):Prop :=
 ∀(value slice:Expr)(pins:VW)(s:VP)(σ:St)(H:Hp)(x y:V)(v u:VR)(Q:VK),Inv X pins σ H s->RelV x v->RelV y u->r x y H Q ->
  subscripted slice false v u=operate [v,u] (getItem v u)->wpAny (model X.prog X.w) X.A (subscriptTail value slice v u) (EP X pins σ Q) X.xe s
def MtR(X:Cx)(id:String)(r:V->VS->Hp->VK->Prop):Prop :=
 ∀(pins:VW)(s:VP)(σ:St)(H:Hp)(x:V)(xs:VS)(v:VR)(us:VU)(Q:VK),Inv X pins σ H s->RelV x v->Vals xs us->r x xs H Q ->
  wpAny (model X.prog X.w) X.A (call (.builtin id) (v::us)) (EP X pins σ Q) X.xe s
section
variable{X:Cx}{a b:Expr}{ta tb:TE}{pos:Pos}
theorem Jv{r:R2}(hr:IxR X r)(ha:PE X a ta)(hb:PE X b tb)(hs:Jst b):PE X (.Subscript a b pos) (tOp r ta tb):=by intro pins s σ H Q I h;exact Subscript_ (binT ha hb I h fun v u s2 x y H2 I2 rx ry q=>hr a b pins s2 σ H2 x y v u Q I2 rx ry q (hs _ _))
def rIxL(K:VG):R2:=fun x y H Q=>∃p xs i v,x=.ref p/\y=.int i/\SqL K H p xs/\atI xs i=some v/\Q v H
def rIxT(K:VG):R2:=fun x y H Q=>∃p xs i v,x=.ref p/\y=.int i/\SqT K H p xs/\atI xs i=some v/\Q v H
theorem JB:IxR X (rIxL X.K):=by
 intro value slice pins s σ H x y v u Q I rx ry h hs;obtain⟨p,xs,i,z,rfl,rfl,hq,he,q⟩:=h;cases rx;obtain⟨t,rfl⟩:=ry;obtain⟨its,r,pl,hz⟩:=I.list hq;obtain⟨j,h1,h2,h3,h4,h5⟩:=Jke he;obtain⟨w,ew,rw'⟩:=r.get h2;have hl:=r.length;have hn:=Jay;have fin:EP X pins σ Q w s:=⟨z,H,I,rw',q⟩;by_cases h0:0<=i
 ·have hj:i.toNat=j:=by
   rw[seqIndex_of h0 h5]at h1;exact Option.some.inj h1
  exact item_listR pl.isList h0 (by omega) (by rw[hj];simpa using ew) fin hs
 ·have hj:(i + (its.toArray.size:Int)).toNat=j:=by
   rw[seqIndex_neg (by omega) h4]at h1;rw[List.size_toArray,<- hl];exact Option.some.inj h1
  exact subscriptTail_builtinR (x:=w) pl.isList.typeIs slot_list_getitem.lookup
   (wpAny_getItem_list_neg (Q:=fun r s'=>r=w/\EP X pins σ Q r s') pl.isList (by omega) (by rw[List.size_toArray]<;>omega) (by omega) (by rw[hj];simpa using ew) ⟨rfl,fin⟩) hs
theorem Jz:IxR X (rIxT X.K):=by
 intro value slice pins s σ H x y v u Q I rx ry h hs;obtain⟨p,xs,i,z,rfl,rfl,hq,he,q⟩:=h;cases rx;obtain⟨t,rfl⟩:=ry;obtain⟨its,r,pl,hz⟩:=I.tuple hq;obtain⟨j,h1,h2,h3,h4,h5⟩:=Jke he;obtain⟨w,ew,rw'⟩:=r.get h2;have hl:=r.length;have hn:=Jay;have fin:EP X pins σ Q w s:=⟨z,H,I,rw',q⟩;exact subscriptTail_builtinR (x:=w) pl.typeIs slot_tuple_getitem.lookup
  (getItem_tuple (j:=j) (Q:=fun r s'=>r=w/\EP X pins σ Q r s') pl (by omega) (by omega) (by rw[List.size_toArray,<- hl];exact h1) (by simpa using ew) ⟨rfl,fin⟩) hs
theorem Jhm(its:VU)(n j:Nat)(u:VR):Obj.mapSeq (·.setIfInBounds j u) { cls:=.type "list",data:=.seq its.toArray n }={ cls:=.type "list",data:=.seq (its.set j u).toArray n }:=by simp[Obj.mapSeq]
theorem Inv.lst{pins:VW}{σ:St}{H:Hp}{s:VP}{p:VB}{xs:VS}(I:Inv X pins σ H s)(h:H p=some (.lst xs)) :
  ∃(its:VU)(n:Nat),Vals xs its/\s.heap.get? p=some { cls:=.type "list",data:=.seq its.toArray n }/\xs.length<=sizeLine:=by
 obtain⟨z,its,n,r,e⟩:=I.hok p _ h;exact⟨its,n,r,e,z⟩
theorem Inv.lstUpd{pins:VW}{σ:St}{H:Hp}{s:VP}{p:VB}{xs ys:VS}{its its':VU}{n n':Nat}{f:Obj->Obj}(I:Inv X pins σ H s)(h:H p=some (.lst xs))
  (ho:s.heap.get? p=some { cls:=.type "list",data:=.seq its.toArray n }) (hf:f { cls:=.type "list",data:=.seq its.toArray n }={ cls:=.type "list",data:=.seq its'.toArray n' }) (r:Vals ys its') (hz:ys.length<=sizeLine) (t:Nat) :
  Inv X pins σ (upd H p (.lst ys)) { s with heap:=s.heap.update p f,toks:=t }:=by
 have e:(s.heap.update p f).get? p=some { cls:=.type "list",data:=.seq its'.toArray n' }:=by rw[Heap.get?_update_self f ho (by rw[hf]<;>rfl),hf]
 refine I.write (x:=p) (e:=p) (by rw[h];trivial) (.inl rfl) (fun b u hb q=>(Heap.get?_update_other _ _ (Ne.symm hb)).trans q) ⟨_,e⟩ ?_;exact⟨hz,its',n',r,e⟩
def Jwv:V->V->V->Hp->(Hp->Prop)->Prop:=fun o i v H Q=>∃p xs k j,o=.ref p/\i=.int k/\H p=some (.lst xs)/\ixN xs.length k=some j/\Q (upd H p (.lst (xs.set j v)))
theorem Jfb:PSet X Jwv:=by
 intro pins s σ H o i v ov iv u Q I ro ri rv h;obtain⟨p,xs,k,j,rfl,rfl,hp,hj,q⟩:=h;cases ro;obtain⟨t,rfl⟩:=ri;obtain⟨its,n,r,ho,hz⟩:=I.lst hp;obtain⟨h1,h2,h3,h4⟩:=Jjn hj;have hl:=r.length;have hn:=Jay;have I':Inv X pins σ (upd H p (.lst (xs.set j v))) { s with heap:=s.heap.update p (Obj.mapSeq (·.setIfInBounds j u)) } :=
  I.lstUpd hp ho (Jhm its n j u) (r.set rv j) (by rw[List.length_set];exact hz) s.toks
 by_cases h0:0<=k
 ·have hk:k.toNat=j:=by
   rw[seqIndex_of h0 h4]at h1;exact Option.some.inj h1
  exact PySem.W.ki_setAt ho h0 (by omega) (by rw[List.size_toArray,<- hl];exact h4) (by rw[hk];exact⟨_,I',q⟩)
 ·have hk:(k + (its.toArray.size:Int)).toNat=j:=by
   rw[seqIndex_neg (by omega) h3]at h1;rw[List.size_toArray,<- hl];exact Option.some.inj h1
  exact PySem.W.ki_setBack ho (by omega) (by rw[List.size_toArray,<- hl];exact h3) (by omega) (by rw[hk];exact⟨_,I',q⟩)
theorem Jdm(lo hi:Option Int)(n:Nat):(sliceBounds lo hi none n).1=((HT.sIx n 0 lo:Nat):Int)/\(sliceBounds lo hi none n).2.1=((HT.sIx n n hi:Nat):Int)/\(sliceBounds lo hi none n).2.2=1:=by
 refine⟨?_,?_,rfl⟩
 ·cases lo with
  | none=>simp [sliceBounds,HT.sIx]
  | some i =>
   simp only[sliceBounds,HT.sIx,Option.getD_none,show(1:Int)>0 by decide,if_true];by_cases h:i<0
   ·simp only [h,if_true] <;> omega
   ·simp only [h,if_false] <;> omega
 ·cases hi with
  | none=>simp [sliceBounds,HT.sIx]
  | some i =>
   simp only[sliceBounds,HT.sIx,Option.getD_none,show(1:Int)>0 by decide,if_true];by_cases h:i<0
   ·simp only [h,if_true] <;> omega
   ·simp only [h,if_false] <;> omega
theorem Jbu(its:VU)(lo hi:Option Int):slicePick its.toArray lo hi none=((its.drop (HT.sIx its.length 0 lo)).take (HT.sIx its.length its.length hi-HT.sIx its.length 0 lo)).toArray:=by obtain⟨h1,h2,h3⟩:=Jdm lo hi its.toArray.size;unfold slicePick;rw[h1,h2,h3];simp only[sliceRange_one,pick_run,List.size_toArray]<;>rfl
def rSlL(K:VG):V->Option Int->Option Int->Hp->VK->Prop:=fun x lo hi H Q=>∃a xs,x=.ref a/\SqL K H a xs/\∀p,H p=none->Q (.ref p) (upd H p (.lst (cutV xs lo hi)))
theorem Jdn:SlR X (rSlL X.K):=by intro pins s σ H x v vl vu lo hi sl Q I rx hs pl pu h;obtain⟨a,xs,rfl,hx,q⟩:=h;cases rx;obtain⟨its,r,ht,hz⟩:=I.list hx;have hlen:=r.length;refine⟨"list",_,slot_list_getitem.lookup,ht.isList.typeIs,?_⟩;refine wpAny_getItem_list_slice ht.isList hs pl pu .none (by simp) ?_ (by rw[List.size_toArray]<;>omega);rw[Jbu,<- hlen];refine⟨.ref s.heap.objs.size,_,I.laid (t':=s.toks) (o:=.lst (cutV xs lo hi)) (fun b ob q=>VN _ q) (SJ _) ?_,rfl,q _ (I.hok.fresh (SJ _))⟩;exact⟨LQ (WV xs lo hi) hz,_,0,(r.drop (HT.sIx xs.length 0 lo)).take (HT.sIx xs.length xs.length hi-HT.sIx xs.length 0 lo),VT _ rfl⟩
def YB:V->Bool
 | .non=>true
 | .bl _=>true
 | .int _=>true
 | .str _=>true
 | _=>false
def eqV:V->V->Bool
 | .non,.non=>true
 | .bl a,.bl b=>a == b
 | .bl a,.int b=>(if a then 1 else 0) == b
 | .int a,.bl b=>a == (if b then 1 else 0)
 | .int a,.int b=>a == b
 | .str a,.str b=>a == b
 | _,_=>false
theorem Jpz{A:VD}{s:VP}{y x:V}{u v:VR}(ry:RelV y u)(rx:RelV x v)(fy:YB y=true)(fx:YB x=true):SeqAt.EqAt A s u v (eqV y x):=by
 cases y with
 | non =>
  cases ry;cases x with
  | non=>cases rx; exact SeqAt.EqAt.same _
  | bl b=>cases rx; exact SeqAt.EqAt.none_bool b
  | int b=>obtain ⟨t,rfl⟩:=rx; exact SeqAt.EqAt.none_int b t
  | str b=>obtain ⟨t,rfl⟩:=rx; exact SeqAt.EqAt.none_str b t
  | _=>exact absurd (show false=true from fx) Bool.false_ne_true
 | bl a =>
  cases ry;cases x with
  | non=>cases rx; exact SeqAt.EqAt.bool_none a
  | bl b=>cases rx; exact SeqAt.EqAt.bool_bool a b
  | int b=>obtain ⟨t,rfl⟩:=rx; exact SeqAt.EqAt.bool_int a b t
  | str b=>obtain ⟨t,rfl⟩:=rx; exact SeqAt.EqAt.bool_str a b t
  | _=>exact absurd (show false=true from fx) Bool.false_ne_true
 | int a =>
  obtain⟨t',rfl⟩:=ry;cases x with
  | non=>cases rx; exact SeqAt.EqAt.int_none a t'
  | bl b=>cases rx; exact SeqAt.EqAt.int_bool a t' b
  | int b=>obtain ⟨t,rfl⟩:=rx; exact SeqAt.EqAt.int_int a t' b t
  | str b=>obtain ⟨t,rfl⟩:=rx; exact SeqAt.EqAt.int_str a t' b t
  | _=>exact absurd (show false=true from fx) Bool.false_ne_true
 | str a =>
  obtain⟨t',rfl⟩:=ry;cases x with
  | non=>cases rx; exact SeqAt.EqAt.str_none a t'
  | bl b=>cases rx; exact SeqAt.EqAt.str_bool a t' b
  | int b=>obtain ⟨t,rfl⟩:=rx; exact SeqAt.EqAt.str_int a t' b t
  | str b=>obtain ⟨t,rfl⟩:=rx; exact SeqAt.EqAt.str_str a t' b t
  | _=>exact absurd (show false=true from fx) Bool.false_ne_true
 | _=>exact absurd (show false=true from fy) Bool.false_ne_true
def eqU(x:V)(u:VR):Bool:=match u with
 | .none=>eqV .non x
 | .bool b=>eqV (.bl b) x
 | .int i _=>eqV (.int i) x
 | .str z _=>eqV (.str z) x
 | _=>false
theorem Jpx{x y:V}{u:VR}(r:RelV y u)(f:YB y=true):eqU x u=eqV y x:=by
 cases y with
 | non=>cases r; rfl
 | bl b=>cases r; rfl
 | int i=>obtain ⟨t,rfl⟩:=r; rfl
 | str z=>obtain ⟨t,rfl⟩:=r; rfl
 | _=>exact absurd (show false=true from f) Bool.false_ne_true
theorem Qp{x:V}:∀{xs:VS}{us:VU},Vals xs us->xs.all YB=true->us.any (eqU x)=xs.any fun y=>eqV y x
 | _,_,.nil,_=>rfl
 | y::xs,u::us,.cons r t,f=>by rw[List.all_cons,Bool.and_eq_true]at f;rw[List.any_cons,List.any_cons,Jpx r f.1,Qp t f.2]
theorem WP{A:VD}{s:VP}{x:V}{v:VR}(rx:RelV x v)(fx:YB x=true):∀{xs:VS}{us:VU},Vals xs us->xs.all YB=true->∀u∈us,SeqAt.EqAt A s u v (eqU x u)
 | _,_,.nil,_=>fun u hu=>by cases hu
 | y::xs,u::us,.cons r t,f=>fun u' hu=>by
  rw[List.all_cons,Bool.and_eq_true]at f;rcases List.mem_cons.mp hu with rfl|hu
  ·rw [Jpx r f.1]; exact Jpz r rx f.1 fx
  ·exact WP rx fx t f.2 u' hu
def inV(x:V)(xs:VS):Bool:=xs.any fun y=>eqV y x
def rIn(K:VG)(neg:Bool):R2:=fun x y H Q=>∃p xs,y=.ref p/\(SqL K H p xs\/SqT K H p xs)/\YB x=true/\xs.all YB=true/\Q (.bl (if neg then !inV x xs else inV x xs)) H
theorem Ud:OpR X (compareOp .In) (rIn X.K false):=by
 intro pins s σ H x y v u Q I rx ry h;obtain⟨p,xs,rfl,hq,fx,fs,q⟩:=h;cases ry;rcases hq with hq|hq
 ·obtain ⟨its,r,pl,hz⟩:=I.list hq;refine SeqAt.in_listAt (eqU x) pl.isList (fun w hw=>WP rx fx r fs w (by simpa using hw)) ⟨.bl _,H,I,rfl,?_⟩;rw[show its.toArray.any (eqU x)=its.any (eqU x) by simp,Qp r fs];exact q
 ·obtain ⟨its,r,pl,hz⟩:=I.tuple hq;refine SeqAt.in_tupleAt (eqU x) pl (fun w hw=>WP rx fx r fs w (by simpa using hw)) ⟨.bl _,H,I,rfl,?_⟩;rw[show its.toArray.any (eqU x)=its.any (eqU x) by simp,Qp r fs];exact q
theorem UW:OpR X (compareOp .NotIn) (rIn X.K true):=by
 intro pins s σ H x y v u Q I rx ry h;obtain⟨p,xs,rfl,hq,fx,fs,q⟩:=h;cases ry;rcases hq with hq|hq
 ·obtain ⟨its,r,pl,hz⟩:=I.list hq;refine SeqAt.notIn_listAt (eqU x) pl.isList (fun w hw=>WP rx fx r fs w (by simpa using hw)) ⟨.bl _,H,I,rfl,?_⟩;rw[show its.toArray.any (eqU x)=its.any (eqU x) by simp,Qp r fs];exact q
 ·obtain ⟨its,r,pl,hz⟩:=I.tuple hq;refine SeqAt.notIn_tupleAt (eqU x) pl (fun w hw=>WP rx fx r fs w (by simpa using hw)) ⟨.bl _,H,I,rfl,?_⟩;rw[show its.toArray.any (eqU x)=its.any (eqU x) by simp,Qp r fs];exact q
theorem Ju:Yd X (.builtin "len") (fun xs H Q=>∃p ys,xs=[.ref p]/\(SqL X.K H p ys\/SqT X.K H p ys)/\Q (.int ys.length) H):=by
 intro pins s σ H xs us Q I r h;obtain⟨p,ys,rfl,hq,q⟩:=h;obtain⟨u,rfl,rx⟩:=Ym r;cases rx;have hn:=Jay;rcases hq with hq|hq
 ·obtain ⟨its,r',pl,hz⟩:=I.list hq;have hlen:=r'.length;exact Calls.call_len_list pl.isList (by simp only[List.size_toArray]<;>omega) ⟨.int ys.length,H,I.tok _,⟨s.toks+1,by rw[List.size_toArray,hlen]⟩,q⟩
 ·obtain ⟨its,r',pl,hz⟩:=I.tuple hq;have hlen:=r'.length;exact len_tuple pl (by simp only[List.size_toArray]<;>omega) ⟨.int ys.length,H,I.tok _,⟨s.toks+1,by rw[List.size_toArray,hlen]⟩,q⟩
theorem JT:Yd X (.type "tuple") (fun xs H Q=>∃p ys,xs=[.ref p]/\((SqL X.K H p ys/\∀l,H l=none->Q (.ref l) (upd H l (.tup ys)))\/(SqT X.K H p ys/\Q (.ref p) H))):=by
 intro pins s σ H xs us Q I r h;obtain⟨p,ys,rfl,h⟩:=h;obtain⟨u,rfl,rx⟩:=Ym r;cases rx;rcases h with⟨hq,q⟩|⟨hq,q⟩
 ·obtain ⟨its,r',pl,hz⟩:=I.list hq;have hlen:=r'.length;refine call_tuple_list pl.isList (fun h' kp=>?_) (by simp only[List.size_toArray]<;>omega);have I1:Inv X pins σ H { s with heap:=h' }:=I.kept (t':=s.toks) kp;have I2:Inv X pins σ (upd H h'.objs.size (.tup ys)) { s with heap:=h'.push { cls:=.type "tuple",data:=.seq its.toArray } } :=
   I1.laid (t':=s.toks) (fun b o e=>VN _ e) (SJ _) (show ObjOk X.prog X.w _ _ _ (.tup ys) from⟨hz,its,r',IsTup.new _ _⟩)
  exact⟨.ref h'.objs.size,_,I2,rfl,q _ (I1.hok.fresh (SJ _))⟩
 ·obtain ⟨its,r',pl,hz⟩:=I.tuple hq;exact call_tuple_same pl ⟨.ref p,H,I,rfl,q⟩
def tyV(K:VG)(T:String)(x:V)(H:Hp):Prop:=match x with
 | .str _=>T="str"
 | .int _=>T="int"
 | .ref p=>(T="list"/\∃ xs,SqL K H p xs)\/(T="tuple"/\∃ o,K.lookup p=some o/\o.cls=.type "tuple"/\o.dict=none) \/
   (T="dict"/\((∃kvs,H p=some (.dK kvs))\/∃kvs,H p=some (.dT kvs)))\/(T="set"/\∃S n,H p=some (.set S n))
 | _=>False
theorem Jtu{pins:VW}{σ:St}{H:Hp}{s:VP}{T:String}{x:V}{v:VR}(I:Inv X pins σ H s)(r:RelV x v)(ty:tyV X.K T x H) :
  s.TypeIs v T/\∀a,v=.ref a->∃ob,s.heap.get? a=some ob/\ob.dict=none:=by
 cases x with
 | str z =>
  obtain⟨t,rfl⟩:=r;cases (show T="str" from ty);exact⟨typeIs_str s z t,fun _ e=>nomatch e⟩
 | int i =>
  obtain⟨t,rfl⟩:=r;cases (show T="int" from ty);exact⟨typeIs_int s i t,fun _ e=>nomatch e⟩
 | ref p =>
  cases r;rcases ty with⟨rfl,xs,hq⟩|⟨rfl,o,hk,hc,hd⟩|⟨rfl,hk⟩|⟨rfl,S,n,hk⟩
  ·obtain ⟨its,_,pl,_⟩:=I.list hq;refine⟨pl.isList.typeIs,fun a e=>?_⟩;cases e;obtain⟨o,n,e,c,hd,_⟩:=pl;exact⟨o,e,hd⟩
  ·refine ⟨⟨o,I.kIn p o hk,hc⟩,fun a e=>?_⟩;cases e;exact⟨o,I.kIn _ o hk,hd⟩
  ·have z:∃ o,s.heap.get? p=some o/\o.ExactDict:=by
    rcases hk with⟨kvs,hk⟩|⟨kvs,hk⟩
    ·obtain ⟨_,_,_,_,o,_,_,e,ex,_⟩:=I.hok p _ hk;exact⟨o,e,ex⟩
    ·obtain ⟨_,_,_,_,o,_,_,e,ex,_⟩:=I.hok p _ hk;exact⟨o,e,ex⟩
   obtain⟨o,e,ex⟩:=z;refine⟨⟨o,e,ex.1⟩,fun a e2=>?_⟩;cases e2;exact⟨o,e,ex.2.1⟩
  ·obtain ⟨o,_,_,_,e,ex,_⟩:=I.hok p _ hk;refine⟨⟨o,e,ex.1⟩,fun a e2=>?_⟩;cases e2;exact⟨o,e,ex.2.1⟩
 | _=>exact False.elim ty
def tBM(K:VG)(T:String)(r:V->VS->Hp->VK->Prop)(to:TE)(t:TA):TE:=fun σ H Q=>to σ H fun x H1=>tyV K T x H1/\t σ H1 fun xs H2=>r x xs H2 Q
variable{o e:Expr}{es:List Expr}{to:TE}{t:TA}{name:Str}{apos cpos:Pos}{T id:String}{r:V->VS->Hp->VK->Prop}
theorem QQ(pa:PlainAttrs T)(slot:Slot T name id)(hty:typeOf (.builtin id)=pure (.type "method_descriptor"))(hm:MtR X id r)(ho:PE X o to)(ha:PA X (e::es) t)
  (hbase:attributeBase o name X.env (eval o X.env)=eval o X.env:=by rfl)
  (hfew:((backTo cpos (starEach (e::es) X.env)).all (fun x=>!x.1) && (backToKw cpos (keywordEach [] X.env)).all (fun x=>x.1.isSome)
   && decide ((e::es).length + ([]:List Keyword).length + (if ([]:List Keyword).isEmpty then 0 else 1) < 30))=true:=by rfl)
  (hline:(apos.endLine==cpos.line)=true:=by rfl) (hs:starEach (e::es) X.env=(false,eval e X.env)::starEach es X.env:=by rfl) (hplain:(backTo cpos (starEach es X.env)).any (·.1)=false:=by rfl) :
  PE X (.Call (.Attribute o name apos) (e::es) [] cpos) (tBM X.K T r to t):=by
 intro pins s σ H Q I h;refine wpAny_Call_method_late hbase hfew hline rfl (thn (ho pins s σ H _ I h) fun v s1 ⟨x,H1,I1,r1,ty,q1⟩=>?_);obtain⟨h1,h2⟩:=Jtu I1 r1 ty;refine⟨T,id,pa,slot,hty,h1,h2,?_⟩;have hA:=ha cpos pins s1 σ H1 _ I1 q1;rw[hs]at hA ⊢;refine Calls.callWith_builtin (by show(false||(backTo cpos (starEach es X.env)).any (·.1))=false;rw[hplain]<;>rfl) (Calls.evalArgs_plain ?_);exact thn hA fun us s2 ⟨vs,H2,I2,r2,q2⟩=>hm pins s2 σ H2 x vs v us Q I2 r1 r2 q2
end
def MtM(X:Cx)(id:String)(r:V->VS->Hp->VK->Prop):Prop :=
 ∀(pins:VW)(s:VP)(σ:St)(H:Hp)(x:V)(xs:VS)(v:VR)(us:VU)(Q:VK),Inv X pins σ H s->RelV x v->Vals xs us->r x xs H Q ->
  wpAny (model X.prog X.w) X.A (call (.builtin id) (v::us)) (EP X pins σ Q) X.xe s
theorem Vals.one:∀{x:V}{us:VU},Vals [x] us->∃u,us=[u]/\RelV x u
 | _,_,.cons r .nil=>⟨_,rfl,r⟩
theorem Vals.eraseIdx:∀{xs:VS}{us:VU}(i:Nat),Vals xs us->Vals (xs.eraseIdx i) (us.eraseIdx i)
 | _,_,_,.nil=>.nil
 | _,_,0,.cons _ t=>t
 | _,_,i + 1,.cons r t=>.cons r (Vals.eraseIdx i t)
theorem Jck{α:Type}:∀(l:List α)(i:Nat),(l.eraseIdx i).length<=l.length
 | [],_=>SJ _
 | _::_,0=>LU _
 | _::r,i + 1=>Nat.succ_le_succ (Jck r i)
section
variable{X:Cx}{pins:VW}{σ:St}{H:Hp}{s:VP}{l b:VB}{xs ys zs:VS}
theorem Inv.lset{its its':VU}{n:Nat}{f:Array VR->Array VR}{t':Nat}(I:Inv X pins σ H s)(hH:H l=some (.lst xs))
  (e:s.heap.get? l=some { cls:=.type "list",data:=.seq its.toArray n }) (hf:f its.toArray=its'.toArray) (hv:Vals ys its') (hz:ys.length<=sizeLine) :
  Inv X pins σ (upd H l (.lst ys)) { s with heap:=s.heap.update l (Obj.mapSeq f),toks:=t' }:=by
 have q:=PySem.IsL.update e f;rw[hf]at q;refine I.write (x:=l) (e:=l) (by rw[hH];exact trivial) (.inl rfl) (fun b' u hb hu=>(Heap.get?_update_other s.heap (Obj.mapSeq f) (Ne.symm hb)).trans hu) ⟨_,q⟩ ?_;exact⟨hz,its',_,hv,q⟩
theorem Inv.lnew{its:VU}{t':Nat}(I:Inv X pins σ H s)(hv:Vals ys its)(hz:ys.length<=sizeLine) :
  Inv X pins σ (upd H s.heap.objs.size (.lst ys)) { s with heap:=s.heap.push { cls:=.type "list",data:=.seq its.toArray },toks:=t' } :=
 I.laid (fun _ _ q=>VN _ q) (SJ _) ⟨hz,its,0,hv,VT _ rfl⟩
theorem Inv.fresh(I:Inv X pins σ H s):H s.heap.objs.size=none:=I.hok.fresh (SJ _)
theorem Inv.lstM(I:Inv X pins σ H s)(hH:H l=some (.lst xs)):xs.length<=sizeLine/\∃(its:VU)(n:Nat),Vals xs its/\xs.length=its.length/\s.heap.get? l=some { cls:=.type "list",data:=.seq its.toArray n }:=by obtain⟨z,its,n,r,e⟩:=I.hok l _ hH;exact⟨z,its,n,r,r.length,e⟩
end
section
variable{X:Cx}
def Jrb:V->VS->Hp->VK->Prop:=fun x vs H Q=>∃l xs y,x=.ref l/\vs=[y]/\H l=some (.lst xs)/\xs.length<sizeLine/\Q .non (upd H l (.lst (xs++[y])))
theorem ZW:MtM X "list.append" Jrb:=by intro pins s σ H x vs v us Q I rx rv h;obtain⟨l,xs,y,rfl,rfl,hH,hz,q⟩:=h;cases rx;obtain⟨u,rfl,ru⟩:=rv.one;obtain⟨z,its,n,r,hl,e⟩:=I.lstM hH;refine call_meets F.slot_list_append ⟨_,e,rfl⟩ F.entry_list_append (F.args_list_append_2 _ _) (PySem.list_append l its.toArray n u (by rw[List.size_toArray];omega)) ⟨e,?_⟩;refine⟨.non,_,I.lset (its':=its++[u]) hH e (by simp) (r.append (.cons ru .nil)) ?_,rfl,q⟩;rw[List.length_append,List.length_singleton];omega
def Juf:V->VS->Hp->VK->Prop:=fun x vs H Q=>∃l xs i k y,x=.ref l/\vs=[.int i]/\H l=some (.lst xs)/\-(2^63)<=i/\i<2^63/\seqIndex? i xs.length=some k/\xs[k]?=some y/\Q y (upd H l (.lst (xs.eraseIdx k)))
theorem Joe:MtM X "list.pop" Juf:=by
 intro pins s σ H x vs v us Q I rx rv h;obtain⟨l,xs,i,k,y,rfl,rfl,hH,h1,h2,hk,hy,q⟩:=h;cases rx;obtain⟨u,rfl,ru⟩:=rv.one;obtain⟨t,rfl⟩:=ru;obtain⟨z,its,n,r,hl,e⟩:=I.lstM hH;obtain⟨w,hw,rw'⟩:=r.get hy;refine call_meets F.slot_list_pop ⟨_,e,rfl⟩ F.entry_list_pop (F.args_list_pop_2 _ _)
  (MeetsSeq.list_pop_at l its.toArray n i t k w (fitsIndex_both h1 h2) (by rw[List.size_toArray,<- hl];exact hk) (by rw[<- Array.getElem?_toList];exact hw) (by rw[List.size_toArray];omega)) ⟨e,?_⟩
 refine⟨y,_,I.lset (its':=its.eraseIdx k) hH e ?_ (r.eraseIdx k) ?_,rw',q⟩
 ·show its.toArray.eraseIdxIfInBounds k=(its.eraseIdx k).toArray;rw[List.eraseIdxIfInBounds_toArray]
 ·have:=Jck xs k;omega
def rCat:R2:=fun x y H Q=>∃l b xs zs,x=.ref l/\y=.ref b/\H l=some (.lst xs)/\H b=some (.lst zs)/\xs.length+zs.length<=sizeLine/\∀p,H p=none->Q (.ref p) (upd H p (.lst (xs++zs)))
theorem Jhh:OpR X (binaryOp .Add) rCat:=by
 intro pins s σ H x y v u Q I rx ry h;obtain⟨l,b,xs,zs,rfl,rfl,hH,hB,hz,q⟩:=h;cases rx;cases ry;obtain⟨z,its,n,r,hl,e⟩:=I.lstM hH;obtain⟨z2,its2,n2,r2,hl2,e2⟩:=I.lstM hB;refine PySem.P.add_list e e2 ?_ (by rw[List.size_toArray,List.size_toArray];omega);have ea:its.toArray++its2.toArray=(its++its2).toArray:=by simp
 rw[ea];exact⟨.ref _,_,I.lnew (t':=s.toks) (r.append r2) (by rw[List.length_append];omega),rfl,q _ I.fresh⟩
end
section
variable{prog:VC}{w:VF}{A:VD}{E:VQ}{s:VP}
set_option maxRecDepth 100000 in
end
section
variable{X:Cx}
end
section
variable{κ:Type}[DecidableEq κ]
def valV(kvs:List (κ×V))(k:κ):Option V:=(kvs.find? fun kv=>decide (kv.1=k)).map (·.2)
def putK(kvs:List (κ×V))(k:κ)(v:V):List (κ×V) :=
 if (kvs.any fun kv=>decide (kv.1=k))=true then kvs.map (fun kv=>if kv.1=k then(kv.1,v)else kv)else kvs++[(k,v)]
theorem Yn{p:κ×V}{r:List (κ×V)}{k:κ}(e:p.1=k):valV (p::r) k=some p.2:=by simp[valV,List.find?_cons,e]
theorem Yo{p:κ×V}{r:List (κ×V)}{k:κ}(e:¬ p.1=k):valV (p::r) k=valV r k:=by simp[valV,List.find?_cons,e]
theorem ZQ(k:κ):∀kvs:List (κ×V),(kvs.any fun kv=>decide (kv.1=k))=(valV kvs k).isSome
 | []=>rfl
 | p::r=>by
  rw[List.any_cons];by_cases e:p.1=k
  ·simp only [Yn e,decide_eq_true e,Bool.true_or,Option.isSome_some]
  ·rw [Yo e,decide_eq_false e,Bool.false_or]; exact ZQ k r
theorem Jep(k j:κ)(y:V):∀kvs:List (κ×V),valV (kvs.map fun kv=>if kv.1=k then(kv.1,y)else kv) j=(valV kvs j).map fun x=>if j=k then y else x
 | []=>rfl
 | p::r=>by
  have ih:=Jep k j y r;rw[List.map_cons];by_cases h:p.1=k
  ·rw [if_pos h];by_cases e:p.1=j
   ·rw [Yn (p:=(p.1,y)) e,Yn e,Option.map_some,if_pos (e.symm.trans h)]
   ·rw [Yo (p:=(p.1,y)) e,Yo e,ih]
  ·rw [if_neg h];by_cases e:p.1=j
   ·rw [Yn (p:=p) e,Yn e,Option.map_some,if_neg (fun z=>h (e.trans z))]
   ·rw [Yo (p:=p) e,Yo e,ih]
theorem Jca(k j:κ)(y:V):∀kvs:List (κ×V),valV kvs k=none->valV (kvs++[(k,y)]) j=if j=k then some y else valV kvs j
 | [],_=>by
  by_cases e:k=j
  ·rw [if_pos e.symm]; exact Yn (p:=(k,y)) e
  ·rw [if_neg (fun z=>e z.symm)]; exact Yo (p:=(k,y)) e
 | p::r,hn=>by
  rw[List.cons_append];have hk:¬ p.1=k:=fun z=>by rw[Yn z]at hn;cases hn
  rw[Yo hk]at hn;have ih:=Jca k j y r hn;by_cases e:p.1=j
  ·rw [Yn e,Yn e,if_neg (fun z=>hk (e.trans z))]
  ·rw [Yo e,Yo e,ih]
theorem UK(kvs:List (κ×V))(k j:κ)(y:V):valV (putK kvs k y) j=if j=k then some y else valV kvs j:=by
 unfold putK;by_cases a:(kvs.any fun kv=>decide (kv.1=k))=true
 ·rw [if_pos a,Jep];rw[ZQ]at a;by_cases e:j=k
  ·obtain ⟨x,hx⟩:=Option.isSome_iff_exists.mp a;rw[if_pos e,e,hx,Option.map_some,if_pos rfl]
  ·rw [if_neg e];cases valV kvs j with
   | none=>rfl
   | some x=>rw [Option.map_some,if_neg e]
 ·rw [if_neg a];refine Jca k j y kvs ?_;rw[ZQ]at a;cases q:valV kvs k with
  | none=>rfl
  | some x=>rw [q] at a; exact (a rfl).elim
theorem YH(kvs:List (κ×V))(k:κ)(v:V):(putK kvs k v).length<=kvs.length+1:=by
 unfold putK;split
 ·rw [List.length_map]; omega
 ·rw [List.length_append,List.length_cons,List.length_nil]; omega
theorem WL{kvs:List (κ×V)}{k:κ}(v:V)(h:valV kvs k=none):putK kvs k v=kvs++[(k,v)]:=by unfold putK;rw[ZQ,h];exact if_neg (by decide)
theorem RelO.isSome_eq{o:Option V}{u:VH}(r:RelO o u):o.isSome=u.isSome:=by
 cases o with
 | none=>cases u with
  | none=>rfl
  | some _=>exact (show False from r).elim
 | some _=>cases u with
  | none=>exact (show False from r).elim
  | some _=>rfl
theorem KV.val{kvs:List (κ×V)}{vs:List (κ×VR)}(r:KV kvs vs)(k:κ):RelO (valV kvs k) (valueAt vs k):=by
 unfold KV at r;induction r with
 | nil=>exact True.intro
 | @cons p q ps qs h t ih =>
  obtain⟨h1,h2⟩:=h;by_cases e:p.1=k
  ·have e':q.1=k:=h1.symm.trans e;have b:valueAt (q::qs) k=some q.2:=by simp[valueAt,List.find?_cons,e']
   rw[Yn e,b];exact h2
  ·have e':¬ q.1=k:=fun z=>e (h1.trans z);have b:valueAt (q::qs) k=valueAt qs k:=by simp[valueAt,List.find?_cons,e']
   rw[Yo e,b];exact ih
theorem KV.any{kvs:List (κ×V)}{vs:List (κ×VR)}(r:KV kvs vs)(k:κ):(kvs.any fun kv=>decide (kv.1=k))=vs.any fun kv=>decide (kv.1=k):=by
 unfold KV at r;induction r with
 | nil=>rfl
 | cons h t ih=>rw [List.any_cons,List.any_cons,ih,h.1]
theorem KV.repl{kvs:List (κ×V)}{vs:List (κ×VR)}(r:KV kvs vs)(k:κ){y:V}{u:VR}(ry:RelV y u) :
  KV (kvs.map fun kv=>if kv.1=k then(kv.1,y)else kv) (vs.map fun kv=>if kv.1=k then(kv.1,u)else kv):=by
 unfold KV at r ⊢;induction r with
 | nil=>exact .nil
 | @cons p q ps qs h t ih =>
  rw[List.map_cons,List.map_cons];refine .cons ?_ ih;obtain⟨h1,h2⟩:=h;by_cases e:p.1=k
  ·rw [if_pos e,if_pos (h1.symm.trans e)]; exact ⟨h1,ry⟩
  ·rw [if_neg e,if_neg (fun z=>e (h1.trans z))]; exact ⟨h1,h2⟩
theorem KV.put{kvs:List (κ×V)}{vs:List (κ×VR)}(r:KV kvs vs)(k:κ){y:V}{u:VR}(ry:RelV y u):KV (putK kvs k y) (stored vs k u):=by
 unfold putK stored;rw[r.any k];by_cases e:(vs.any fun kv=>decide (kv.1=k))=true
 ·rw [if_pos e,if_pos e]; exact r.repl k ry
 ·rw [if_neg e,if_neg e]; exact Paired.snoc r ⟨rfl,ry⟩
theorem KV.length{kvs:List (κ×V)}{vs:List (κ×VR)}(r:KV kvs vs):kvs.length=vs.length:=Paired.length r
end
theorem Jjm{P:VC}{w:VF}{k:Key}{u:VR}(r:RelV (kV k) u):(JX P w).is k u=true:=by
 cases k with
 | inl i=>obtain ⟨t,e⟩:=(show ∃ t,u=Value.int i t from r); subst e; exact Jft P w i t
 | inr x=>obtain ⟨t,e⟩:=(show ∃ t,u=Value.str x t from r); subst e; exact Jfs P w x t
theorem Jcp{P:VC}{w:VF}:∀{ks:List Key}{us:VU},Vals (ks.map kV) us->ItemsAre (JX P w) ks us
 | [],_,r=>by rw [List.map_nil] at r; cases r; exact .nil
 | k::ks,_,r=>by
  rw[List.map_cons]at r;cases r with
  | cons h t=>exact .cons (Jjm h) (Jcp t)
abbrev KT(H:Hp):List (List Key×V)->List (List Key×VB×VR)->Prop:=Paired fun p q=>p.1=q.1/\H q.2.1=some (.tup (p.1.map kV))/\RelV p.2 q.2.2
theorem KT.val{H:Hp}{kvs:List (List Key×V)}{xs:List (List Key×VB×VR)}(r:KT H kvs xs)(k:List Key):RelO (valV kvs k) ((atKey xs k).map (·.2)):=by
 induction r with
 | nil=>exact True.intro
 | @cons p q ps qs h t ih =>
  obtain⟨h1,_,h2⟩:=h;by_cases e:p.1=k
  ·have e':q.1=k:=h1.symm.trans e;have b:atKey (q::qs) k=some q.2:=by simp[atKey,List.find?_cons,e']
   rw[Yn e,b];exact h2
  ·have e':¬ q.1=k:=fun z=>e (h1.trans z);have b:atKey (q::qs) k=atKey qs k:=by simp[atKey,List.find?_cons,e']
   rw[Yo e,b];exact ih
theorem KT.repl{H:Hp}{kvs:List (List Key×V)}{xs:List (List Key×VB×VR)}(r:KT H kvs xs)(k:List Key){y:V}{u:VR}(ry:RelV y u) :
  KT H (kvs.map fun kv=>if kv.1=k then(kv.1,y)else kv) (xs.map (putAt k u)):=by
 induction r with
 | nil=>exact .nil
 | @cons p q ps qs h t ih =>
  rw[List.map_cons,List.map_cons];refine .cons ?_ ih;obtain⟨h1,h2,h3⟩:=h;unfold putAt;by_cases e:p.1=k
  ·rw [if_pos e,if_pos (h1.symm.trans e)]; exact ⟨h1,h2,ry⟩
  ·rw [if_neg e,if_neg (fun z=>e (h1.trans z))]; exact ⟨h1,h2,h3⟩
theorem KT.put{H:Hp}{kvs:List (List Key×V)}{xs:List (List Key×VB×VR)}(r:KT H kvs xs)(k:List Key){b:VB}{y:V}{u:VR}(hb:H b=some (.tup (k.map kV)))(ry:RelV y u) :
  KT H (putK kvs k y) (storedH xs k b u):=by
 have e:(kvs.any fun kv=>decide (kv.1=k))=(atKey xs k).isSome:=by rw[ZQ,(r.val k).isSome_eq,Option.isSome_map]
 unfold putK storedH;rw[e];by_cases q:(atKey xs k).isSome=true
 ·rw [if_pos q,if_pos q]; exact r.repl k ry
 ·rw [if_neg q,if_neg q]; exact Paired.snoc r ⟨rfl,hb,ry⟩
theorem KT.keeps{H H':Hp}{kvs:List (List Key×V)}{xs:List (List Key×VB×VR)}(r:KT H kvs xs)(ht:∀b ys,H b=some (.tup ys)->H' b=some (.tup ys)):KT H' kvs xs :=
 Paired.mapP r fun _ _ z=>⟨z.1,ht _ _ z.2.1,z.2.2⟩
section
variable{P:VC}{w:VF}{H:Hp}{h:Heap}{a:VB}
theorem Jth{u:HO}(ok:HOk P w H h)(e:Rd H a u):ObjOk P w H h a u:=e.ok ok
theorem Jjy{kvs:List (Key×V)}(ok:HOk P w H h)(e:Rd H a (.dK kvs)):kvs.length<=sizeLine/\(a==sysModules)=false/\∃vs,KV kvs vs/\h.DictOf (JX P w) a vs :=
 show ObjOk P w H h a (.dK kvs)from Jth ok e
theorem dk_of{kvs:List (Key×V)}(ok:HOk P w H h)(e:H a=some (.dK kvs)):kvs.length<=sizeLine/\(a==sysModules)=false/\∃vs,KV kvs vs/\h.DictOf (JX P w) a vs:=Jjy ok (.inl e)
theorem Jbe{ks:List Key}(ok:HOk P w H h)(e:H a=some (.tup (ks.map kV))):(tupleKind (JX P w)).is h ks a:=by obtain⟨_,its,r,o,h1,h2,n,h3⟩:=(show ObjOk P w H h a (.tup (ks.map kV))from ok a _ e);exact⟨o,its.toArray,n,h1,h2,h3,by simpa using Jcp r⟩
theorem Jqa{kvs:List (List Key×V)}(ok:HOk P w H h)(e:Rd H a (.dT kvs)):kvs.length<=sizeLine/\(a==sysModules)=false /\
  ∃xs,KT H kvs xs/\h.DictOfH (tupleKind (JX P w)) a xs:=by
 obtain⟨z,y,xs,r,o,es,ep,h1,h2,h3,h4,h5⟩:=(show ObjOk P w H h a (.dT kvs)from Jth ok e);refine⟨z,y,xs,r,o,es,ep,h1,h2,h3,h4,fun x hx=>?_,h5⟩;have all:∀{l:List (List Key×V)}{m:List (List Key×VB×VR)},KT H l m->∀x∈m,(tupleKind (JX P w)).is h x.1 x.2.1:=by
  intro l m q;induction q with
  | nil=>intro x hx; exact nomatch hx
  | @cons p q ps qs hq t ih =>
   intro x hx;rcases List.mem_cons.mp hx with e|hx
   ·subst e;exact Jbe ok (by rw[<- hq.1];exact hq.2.1)
   ·exact ih x hx
 exact all r x hx
theorem Jtq{kvs:List (List Key×V)}(ok:HOk P w H h)(e:H a=some (.dT kvs)):kvs.length<=sizeLine/\(a==sysModules)=false /\
  ∃xs,KT H kvs xs/\h.DictOfH (tupleKind (JX P w)) a xs:=Jqa ok (.inl e)
end
def DGet(H:Hp)(a:VB)(y:V)(r:Option V):Prop :=
 (∃kvs k,Rd H a (.dK kvs)/\y=kV k/\r=valV kvs k)\/∃kvs k b,Rd H a (.dT kvs)/\y=.ref b/\H b=some (.tup (k.map kV))/\r=valV kvs k
def DPut(H:Hp)(a:VB)(y v:V)(H':Hp):Prop :=
 (∃kvs k,H a=some (.dK kvs)/\y=kV k/\kvs.length<sizeLine/\H'=upd H a (.dK (putK kvs k v))) \/
 ∃kvs k b,H a=some (.dT kvs)/\y=.ref b/\H b=some (.tup (k.map kV))/\kvs.length<sizeLine/\H'=upd H a (.dT (putK kvs k v))
theorem DGet.k{H:Hp}{a:VB}{kvs:List (Key×V)}{k:Key}(e:H a=some (.dK kvs)):DGet H a (kV k) (valV kvs k):=.inl ⟨kvs,k,.inl e,rfl,rfl⟩
theorem DGet.t{H:Hp}{a b:VB}{kvs:List (List Key×V)}{k:List Key}(e:H a=some (.dT kvs))(eb:H b=some (.tup (k.map kV))):DGet H a (.ref b) (valV kvs k):=.inr ⟨kvs,k,b,.inl e,rfl,eb,rfl⟩
theorem DPut.k{H:Hp}{a:VB}{kvs:List (Key×V)}{k:Key}{v:V}(e:H a=some (.dK kvs))(hl:kvs.length<sizeLine):DPut H a (kV k) v (upd H a (.dK (putK kvs k v))):=.inl ⟨kvs,k,e,rfl,hl,rfl⟩
theorem DPut.t{H:Hp}{a b:VB}{kvs:List (List Key×V)}{k:List Key}{v:V}(e:H a=some (.dT kvs))(eb:H b=some (.tup (k.map kV)))(hl:kvs.length<sizeLine) :
  DPut H a (.ref b) v (upd H a (.dT (putK kvs k v))):=.inr ⟨kvs,k,b,e,rfl,eb,hl,rfl⟩
section
variable{X:Cx}{pins:VW}{σ:St}{H:Hp}{s:VP}{a:VB}{y v:V}{u r:VR}{o:Option V}{A:VD}{E:VQ}
theorem Inv.big(I:Inv X pins σ H s):sysModules<s.heap.objs.size:=by have h:mainGlobals<s.heap.objs.size:=(I.mod.glob.keeps I.bk).lt;exact Nat.lt_trans (by decide) h
theorem d_in{Q:VQ}(hu:A.units+1<cLine)(I:Inv X pins σ H s)(g:DGet H a y o)(ry:RelV y u)(h:∀s',Inv X pins σ H s'->Q (.bool o.isSome) s') :
  wpAny (model X.prog X.w) A (compareOp .In u (.ref a)) Q E s:=by
 rcases g with⟨kvs,k,e,ey,l⟩|⟨kvs,k,b,e,ey,eb,l⟩
 ·subst ey;obtain⟨z,hd,vs,rel,dd⟩:=Jjy I.hok e;refine wpAny_in_of (Jjm ry) hd dd.mapOf ?_;rw[<- (rel.val k).isSome_eq,<- l];exact h _ (I.tok _)
 ·subst ey;cases (show u=Value.ref b from ry);obtain⟨z,hd,xs,rel,dd⟩:=Jqa I.hok e;refine wpAny_in_heap (tupleKind_room_in1 hu) (Jbe I.hok eb) hd dd ?_;have q:=(rel.val k).isSome_eq;rw[Option.isSome_map]at q;rw[<- q,<- l];exact h _ (I.tok _)
theorem Jsq{Q:VQ}(hu:A.units+1<cLine)(I:Inv X pins σ H s)(g:DGet H a y o)(ry:RelV y u)(h:∀s',Inv X pins σ H s'->Q (.bool (!o.isSome)) s') :
  wpAny (model X.prog X.w) A (compareOp .NotIn u (.ref a)) Q E s:=by
 rcases g with⟨kvs,k,e,ey,l⟩|⟨kvs,k,b,e,ey,eb,l⟩
 ·subst ey;obtain⟨z,hd,vs,rel,dd⟩:=Jjy I.hok e;refine wpAny_notIn_of (Jjm ry) hd dd.mapOf ?_;rw[<- (rel.val k).isSome_eq,<- l];exact h _ (I.tok _)
 ·subst ey;cases (show u=Value.ref b from ry);obtain⟨z,hd,xs,rel,dd⟩:=Jqa I.hok e;refine wpAny_notIn_heap (tupleKind_room_in1 hu) (Jbe I.hok eb) hd dd ?_;have q:=(rel.val k).isSome_eq;rw[Option.isSome_map]at q;rw[<- q,<- l];exact h _ (I.tok _)
theorem Jeh{h':Heap}{t':Nat}{ob:HO}(I:Inv X pins σ H s)(mu:Mut (H a))(hs:Heap.SameBut a s.heap h')(he:∃q,h'.get? a=some q)(new:ObjOk X.prog X.w (upd H a ob) h' a ob) :
  Inv X pins σ (upd H a ob) { s with heap:=h',toks:=t' } :=
 I.write (x:=a) (e:=a) mu (.inl rfl) (fun b q hb z=>(hs.2 b hb).trans z) he new
theorem Jqb{P:VC}{w:VF}{H':Hp}{h':Heap}{kvs:List (Key×V)}{vs:List (Key×VR)}(z:kvs.length<=sizeLine)(hd:(a==sysModules)=false)(rel:KV kvs vs)(dd:h'.DictOf (JX P w) a vs) :
  ObjOk P w H' h' a (.dK kvs):=⟨z,hd,vs,rel,dd⟩
theorem Jme{H':Hp}{Q:Unit->VP->Prop}(hu:A.units+1<cLine)(I:Inv X pins σ H s)(g:DPut H a y v H')(ry:RelV y u)(rv:RelV v r)(h:∀s',Inv X pins σ H' s'->Q () s') :
  wpAny (model X.prog X.w) A (setItem (.ref a) u r) Q E s:=by
 rcases g with⟨kvs,k,e,ey,l,eH⟩|⟨kvs,k,b,e,ey,eb,l,eH⟩
 ·subst ey eH;obtain⟨z,hd,vs,rel,dd⟩:=dk_of I.hok e;have hz:vs.length<=sizeLine:=by rw[<- rel.length];exact z
  have hl:(putK kvs k v).length<=sizeLine:=by have:=YH kvs k v;omega
  refine wpAny_setItem_pairs (hsz:=hz) (Jjm ry) dd fun h' dd' hs=>h _ ?_;have he:∃q,h'.get? a=some q:=let⟨q,_,_,hq,_⟩:=dd';⟨q,hq⟩
  exact Jeh I (by rw[e];exact True.intro) hs he (Jqb hl hd (rel.put k rv) dd')
 ·subst ey eH;cases (show u=Value.ref b from ry);obtain⟨z,hd,xs,rel,dd⟩:=Jtq I.hok e;have hz:xs.length<=sizeLine:=by rw[<- Paired.length rel];exact z
  have hl:(putK kvs k v).length<=sizeLine:=by have:=YH kvs k v;omega
  refine wpAny_setItem_heap (hsz:=hz) (tupleKind_room_in1 hu) (Jbe I.hok eb) dd fun h' dd' hs=>h _ ?_;obtain⟨q,es,ep,hq,h2,h3,h4,_,h5⟩:=dd';refine Jeh I (by rw[e];exact True.intro) hs ⟨q,hq⟩ ⟨hl,hd,_,(rel.put k eb rv).keeps fun c ys ec=>?_,q,es,ep,hq,h2,h3,h4,h5⟩;rw[Jj (Wt ec e (fun z=>nomatch z))];exact ec
end
section
variable{X:Cx}{pins:VW}{σ:St}{H:Hp}{s:VP}{a:VB}{kvs:List (Key×V)}{k:Key}{u:VR}{A:VD}{E:VQ}
end
def tDIn(ty td:TE):TE:=fun σ H Q=>ty σ H fun y H1=>td σ H1 fun x H2=>∃a o,x=.ref a/\DGet H2 a y o/\Q (.bl o.isSome) H2
def Jqr(ty td:TE):TE:=fun σ H Q=>ty σ H fun y H1=>td σ H1 fun x H2=>∃a o,x=.ref a/\DGet H2 a y o/\Q (.bl (!o.isSome)) H2
def Jwu(td ty tv:TE):TS:=fun D σ H=>tv σ H fun v H1=>td σ H1 fun x H2=>ty σ H2 fun y H3=>∃a H4,x=.ref a/\DPut H3 a y v H4/\D.nx σ H4
section
variable{X:Cx}{o i e value:Expr}{pos pos' tpos:Pos}{td ty tv:TE}
theorem Qx(hu:X.A.units+1<cLine)(hi:PE X i ty)(ho:PE X o td):PC X .In i o (tDIn ty td):=by intro pins s σ H Q I h;refine thn (hi pins s σ H _ I h) fun iv s1 ⟨y,H1,I1,ry,q1⟩=>thn (ho pins s1 σ H1 _ I1 q1) fun u s2 ⟨x,H2,I2,rx,a,ov,ex,g,q2⟩=>?_;subst ex;obtain rfl:u=Value.ref a:=rx;exact d_in hu I2 g ry fun s3 I3=>⟨.bl ov.isSome,H2,I3,rfl,q2⟩
theorem Uc(hu:X.A.units+1<cLine)(hi:PE X i ty)(ho:PE X o td):PC X .NotIn i o (Jqr ty td):=by intro pins s σ H Q I h;refine thn (hi pins s σ H _ I h) fun iv s1 ⟨y,H1,I1,ry,q1⟩=>thn (ho pins s1 σ H1 _ I1 q1) fun u s2 ⟨x,H2,I2,rx,a,ov,ex,g,q2⟩=>?_;subst ex;obtain rfl:u=Value.ref a:=rx;exact Jsq hu I2 g ry fun s3 I3=>⟨.bl (!ov.isSome),H2,I3,rfl,q2⟩
theorem Zx(hu:X.A.units+1<cLine)(ho:PE X o td)(hi:PE X i ty)(hv:PE X value tv)(hs:swapsWith value (some (.Subscript o i pos')) pos.line X.env=pure false) :
  PS X (.Assign [.Subscript o i pos'] value pos) (Jwu td ty tv):=by
 intro pins s σ H D I h;refine wpAny_Assign_Subscript (thn (hv pins s σ H _ I h) fun r s1 ⟨v,H1,I1,rv,q1⟩=>thn (ho pins s1 σ H1 _ I1 q1) fun u s2 ⟨x,H2,I2,rx,q2⟩=>thn (hi pins s2 σ H2 _ I2 q2) fun iv s3 ⟨y,H3,I3,ry,a,H4,ex,g,q3⟩=>?_) hs;subst ex;obtain rfl:u=Value.ref a:=rx;exact Jme hu I3 g ry rv fun s4 I4=>⟨σ,H4,I4,q3⟩
end
theorem Jqc{P:VC}{w:VF}{H:Hp}(h:Heap)(hb:sysModules<h.objs.size):ObjOk P w H (h.push { cls:=.type "dict",data:=.dict #[] }) h.objs.size (.dK []) :=
 ⟨LX _,beq_eq_false_iff_ne.mpr (Ne.symm (SF hb)),[],.nil,Heap.DictOf.new h⟩
theorem Jgh{P:VC}{w:VF}{H:Hp}(h:Heap)(hb:sysModules<h.objs.size):ObjOk P w H (h.push { cls:=.type "dict",data:=.dict #[] }) h.objs.size (.dT []) :=
 ⟨LX _,beq_eq_false_iff_ne.mpr (Ne.symm (SF hb)),[],.nil,_,#[],0,VT _ rfl,⟨rfl,rfl,rfl⟩,rfl,rfl,List.nodup_nil⟩
def Jty:TE:=fun _ H Q=>∀p,H p=none->Q (.ref p) (upd H p (.dK []))
def Jtx:TE:=fun _ H Q=>∀p,H p=none->Q (.ref p) (upd H p (.dT []))
section
variable{X:Cx}{pos:Pos}
theorem UT:PE X (.Dict [] [] pos) Jty:=fun pins s σ H Q I h =>
 wpAny_Dict_empty ⟨.ref s.heap.objs.size,_,I.laid (a:=s.heap.objs.size) (o:=.dK []) (t':=s.toks) (fun _ _ q=>VN _ q) (SJ _) (Jqc s.heap I.big),rfl,h _ (I.hok.fresh (SJ _))⟩
theorem Jnu:PE X (.Dict [] [] pos) Jtx:=fun pins s σ H Q I h =>
 wpAny_Dict_empty ⟨.ref s.heap.objs.size,_,I.laid (a:=s.heap.objs.size) (o:=.dT []) (t':=s.toks) (fun _ _ q=>VN _ q) (SJ _) (Jgh s.heap I.big),rfl,h _ (I.hok.fresh (SJ _))⟩
end
def Jgv:List (TE×TE)->St->Hp->(List (V×V)->Hp->Prop)->Prop
 | [],_,H,Q=>Q [] H
 | (tk,tv)::r,σ,H,Q=>tk σ H fun x H1=>tv σ H1 fun y H2=>Jgv r σ H2 fun ps H3=>Q ((x,y)::ps) H3
abbrev VV:List (V×V)->List (VR×VR)->Prop:=Paired fun p q=>RelV p.1 q.1/\RelV p.2 q.2
def PPs(X:Cx)(pos:Pos)(keys:List (Option Expr))(values:List Expr)(trs:List (TE×TE)):Prop :=
 ∀(pins:VW)(s:VP)(σ:St)(H:Hp)(Q:List (V×V)->Hp->Prop),Inv X pins σ H s->Jgv trs σ H Q ->
  wpAny (model X.prog X.w) X.A (evalPairs (pairTrees keys values X.env pos)) (fun vs s'=>∃ps H',Inv X pins σ H' s'/\VV ps vs/\Q ps H') X.xe s
theorem Jrd{X:Cx}{pos:Pos}:PPs X pos [] [] []:=fun pins s σ H Q I h=>pairTrees_nil_walk ⟨[],H,I,.nil,h⟩
theorem Jno{X:Cx}{pos:Pos}{k v:Expr}{ks:List (Option Expr)}{vs:List Expr}{tk tv:TE}{trs:List (TE×TE)}(hk:PE X k tk)(hv:PE X v tv)(hr:PPs X pos ks vs trs) :
  PPs X pos (some k::ks) (v::vs) ((tk,tv)::trs):=fun pins s σ H Q I h =>
 pairTrees_cons_walk (thn (hk pins s σ H _ I h) fun u s1 ⟨x,H1,I1,rx,q1⟩=>thn (hv pins s1 σ H1 _ I1 q1) fun w2 s2 ⟨y,H2,I2,ry,q2⟩ =>
  thn (hr pins s2 σ H2 _ I2 q2) fun ws s3 ⟨ps,H3,I3,rel,q3⟩=>⟨(x,y)::ps,H3,I3,.cons ⟨rx,ry⟩ rel,q3⟩)
section
variable{X:Cx}{pins:VW}{σ:St}{H:Hp}{s:VP}{a:VB}{y d:V}{u r:VR}{o:Option V}{A:VD}{E:VQ}
end
section
variable{X:Cx}{o e f:Expr}{apos cpos:Pos}{td ty tx:TE}
end
section
variable{X:Cx}{pins:VW}{σ:St}{H:Hp}{s:VP}{a:VB}{kvs:List (Key×V)}{A:VD}{E:VQ}
theorem Jqe{Q:VQ}(I:Inv X pins σ H s)(e:Rd H a (.dK kvs))(h:∀p s',H p=none->Inv X pins σ (upd H p (.dK kvs)) s'->Q (.ref p) s'):wpAny (model X.prog X.w) A (call (.type "dict") [.ref a]) Q E s:=by obtain⟨z,hd,vs,rel,dd⟩:=Jjy I.hok e;refine kt_call_dict hd dd (by rw[<- rel.length];exact z) fun h' dd' hs=>?_;refine h _ _ (I.hok.fresh (SJ _)) (I.laid (a:=s.heap.objs.size) (o:=.dK kvs) (t':=s.toks) (fun b q hq=>?_) (SJ _) (Jqb z (beq_eq_false_iff_ne.mpr (Ne.symm (SF I.big))) rel dd'));exact(hs.2 b (SF (SQ hq))).trans (VN _ hq)
end
section
variable{X:Cx}{pins:VW}{σ:St}{H:Hp}{s:VP}{a:VB}{y:V}{u:VR}{A:VD}{E:VQ}
end
end L2
namespace Att
open PySem PySem.W PySem.Calls PyProof.Rows
theorem QZ{P:Params}{h:Heap}:∀(ns:VY)(vs:VU),WellAll P h vs (ns.map WData.int)->IntsAre vs ns:=by
 intro ns;induction ns with
 | nil =>
  intro vs w;rw[List.map_nil]at w;cases w;exact .nil
 | cons n ns ih =>
  intro vs w;rw[List.map_cons]at w;cases w with
  | cons a b =>
   cases a;exact .cons _ _ (ih _ b)
theorem Jky{l:OpenLaw}{n:Nat}(hn:l.most=some n){P:Params}{h:Heap}{args:List WData}{vals:VU}
  (hpre:l.row.toRowW.claim.pre args=true) (hwl:WellAll P h vals args) :
  ∃a vs ns,vals=[Value.ref a]/\args=[WData.list (ns.map WData.int)]/\h.get? a=some { cls:=.type "list",data:=.seq vs.toArray }/\IntsAre vs ns/\ns.length<=n:=by
 have hsh:WShape.hasAll [] args [.list .int]=true:=(pre_splitW hpre).1;have hc:l.pre.holds [] { args:=args }=true:=(pre_splitW hpre).2;obtain⟨d,r,rfl,h1,h2⟩:=hasAllW_cons hsh;obtain rfl:=hasAllW_nil h2;obtain⟨xs,rfl,h3⟩:=hasW_list h1;obtain⟨ns,rfl⟩:=items_int h3;have hlen:ns.length<=n:=by
  unfold OpenLaw.pre at hc;have h4:(WTm.not (.lt (.lit (.int (n:Int))) (.len (.arg 0)))).holds [] { args:=[.list (ns.map .int)] }=true:=by have h4:=(holds_andW hc).1;rw[hn]at h4;exact h4
  have h5:=condW_of h4 (w_not (w_lt w_lit (w_len_list (w_arg rfl))));rw[List.length_map]at h5;refine Nat.le_of_not_lt fun q=>?_;have q':(n:Int)<((ns.length:Nat):Int):=by omega
  first
   | (rw [decide_eq_true q'] at h5; exact absurd h5 (by decide))
   | (simp at h5; omega)
 cases hwl with
 | cons w1 w2 =>
  cases w2;cases w1 with
  | list ho hall=>exact ⟨_,_,ns,rfl,rfl,ho,QZ ns _ hall,hlen⟩
theorem Jlb(l:OpenLaw)(args:List WData):l.row.toRowW.claim.post args (.bool true) args=true :=
 postW_of (r:=l.row.toRowW) (X:=(true==true))
  (show WShape.has [] (.bool true) .bool=true by first|rfl|decide|simp[WShape.has,WShape.arms,WShape.armsAll])
  (show(WTm.eq .res (.lit (.bool true))).value [] { args:=args,res:=some (.bool true),after:=args }=some (.bool (true==true))from w_eq_bool (w_res rfl) w_lit) rfl
theorem attach_call{l:OpenLaw}{n:Nat}{q:VC}{loose:VJ}{XP:(VZ)->Heap->Prop}{YP:VF->Heap->Prop}{d:DefRec}
  (hn:l.most=some n) (hdf:d.params.defaults=[])
  (call:∀ (w:VF) (s₀ s₁:VP) (mg mb:VZ) (fa:VB) (o:Obj) (pm cd doc:VR) (a:VB) (vs:VU) (ns:VY),
   Ground q loose [] XP w s₀ mg mb s₁.heap->YP w s₁.heap ->
   s₁.heap.get? fa=some o->o.data=.func (docDef d.name d.params d.body d.scope pm cd doc)->s₁.heap.CodeRec cd d.name->mg d.name=some (.ref fa) ->
   s₁.heap.get? a=some { cls:=.type "list",data:=.seq vs.toArray }->IntsAre vs ns->ns.length<=n->s₁.gens=#[] ->
   codeAny (model l.prog w) callerA (.call (.ref fa) ⟨[.ref a],[]⟩) (fun r s'=>r=.ok (.ret (.bool true))/\OldK s₁.heap s'.heap/\s'.os=s₁.os/\AllBare s'.gens) s₁) :
  WalkO q loose XP YP l.row.toRowW d [] (fun f vs=>PySem.call f vs):=by
 intro w s₀ s₁ mg mb G Y fa o pm cd doc dV kV ho hd hcd hD hmg hg args vals as hpre hlay hrd hwl hlo;obtain rfl:dV=.none:=Dflts.none hD hdf;obtain rfl:kV=.none:=Dflts.noKw hD;obtain⟨a,vs,ns,rfl,rfl,hobj,hints,hlen⟩:=Jky hn hpre hwl;refine enter_call (codeAny_mono (call w s₀ s₁ mg mb fa o pm cd doc a vs ns G Y ho (fd_plain hd) hcd hmg hobj hints hlen hg) fun r s' hq=>?_);obtain⟨rfl,h2,h3,h4⟩:=hq;exact⟨.inl ⟨.bool true,.bool true,[],rfl,fun _=>rfl,.bool true,Jlb l _,fun _=>⟨List.Pairwise.nil,fun _ hm=>(nomatch hm)⟩⟩,h2,h3,h4⟩
section
variable{prog:VC}{w:VF}{A:VD}{E:VQ}{s:VP}{K:Frag}
end
end Att
namespace L2
open PySem PySem.Spec PyProof.Rows
theorem Qt:∀{vs:VU}{ns:VY},IntsAre vs ns->Vals (ns.map V.int) vs
 | _,_,.nil=>.nil
 | _,_,.cons n t h=>.cons ⟨t,rfl⟩ (Qt h)
def Only(H:Hp):Prop:=∀b,H b=none\/∃o xs,H b=some (.frz o (.lst xs))
theorem Jop{P:VC}{w:VF}{K:VG}{mg mb:VZ}{CX:CXT}{k:Nat}{fa a:VB}{fd:FuncData}{x:Str}{sp:Sp}{s₁:VP}{vs:VU}{ns:VY}
  (KX:K.In s₁.heap) (hns:s₁.heap.Ns mainGlobals mg) (hb:s₁.heap.Ns builtinsNs mb) (hbb:∀x:Str,x≠"__name__"->mb x=bootBuiltins x) (hlim:s₁.heap.NoLimit) (hg:s₁.gens=#[])
  (ha:s₁.heap.get? a=some { cls:=.type "list",data:=.seq vs.toArray }) (hi:IntsAre vs ns) (hl:ns.length<=sizeLine) (hr:Room k callerA)
  (F:∀base:Heap,K.In base->base.Ns mainGlobals mg->FnOk P w K mg base CX k fa fd [x] sp) (hbind:∀(s:VP)(u:VR),BindsTo s fd ⟨[u],[]⟩ [(x,u)])
  (hsp:∀H:Hp,Only H->SqL K H a (ns.map V.int)->sp [.ref a] H (fun v _=>v=.bl true) fun _ _ _=>False)
  (hCX:∀H e s',CX [] H s₁ (fun _ _ _=>False) e s'->False) :
  codeAny (model P w) callerA (.call (.ref fa) ⟨[.ref a],[]⟩) (fun r s'=>r=.ok (.ret (.bool true))/\OldK s₁.heap s'.heap/\s'.os=s₁.os/\AllBare s'.gens) s₁:=by
 have rv:=Qt hi;have lenV:=hi.length
 -- from an abstract heap in which nothing but the script may be tracked
 have core:∀H:Hp,Only H->SqL K H a (ns.map V.int)->HOk P w H s₁.heap->(∀b,H b≠none->b=a)->(H a≠none->K.lookup a=none) ->
   codeAny (model P w) callerA (.call (.ref fa) ⟨[.ref a],[]⟩) (fun r s'=>r=.ok (.ret (.bool true))/\OldK s₁.heap s'.heap/\s'.os=s₁.os/\AllBare s'.gens) s₁:=by
  intro H hO hS hok hA hK;have base_of:∀{b:VB}{o:Obj},s₁.heap.get? b=some o->H b=none->(hidT s₁.heap H).get? b=some o:=fun e n=>Jpl e n;have noA:∀{b:VB}{o:Obj}{es:Array DictEntry}{ep:Nat},s₁.heap.get? b=some o->o.data=.dict es ep->H b=none:=fun {b o es ep} e d=>by
   cases q:H b with
   | none=>rfl
   | some u =>
    have e':b=a:=hA b (by rw[q];simp);subst e';rw[ha]at e;cases e;have d':Data.seq vs.toArray _=Data.dict es ep:=d;cases d'
  have nsK:∀{b:VB}{m:VZ},s₁.heap.Ns b m->(hidT s₁.heap H).Ns b m:=fun {b m} ⟨o,es,ep,e,d,r⟩=>⟨o,es,ep,base_of e (noA e d),d,r⟩;have hKb:K.In (hidT s₁.heap H):=fun b o e=>base_of (KX b o e) (by
   cases q:H b with
   | none=>rfl
   | some u =>
    have e':b=a:=hA b (by rw[q];simp);subst e'
    rw [hK (by rw [q]; simp)] at e; cases e)
  have hM:Mod K mg (hidT s₁.heap H):=⟨hKb,nsK hns,⟨mb,nsK hb,hbb⟩,let⟨mc,h1,h2⟩:=hlim;⟨mc,nsK h1,h2⟩⟩;have e0:Env0 P w K mg (hidT s₁.heap H) callerA [] s₁ H:=⟨rfl,hM,fun b o e=>Jrq e,Nat.le_of_eq (Jma _ _),trivial,fun b hb=>absurd (show b∈([]:List VB)from hb) (by simp),hok,.of_eq hg⟩;refine codeAny_mono ((F _ hKb (nsK hns)).run callerA [] s₁ H ⟨[.ref a],[]⟩ [.ref a] [.ref a] _ _ hr e0 (hbind s₁ (.ref a)) (.cons rfl .nil) (hsp H hO hS)) fun r s' h=>?_;cases r with
  | error e=>exact (hCX H e s' h).elim
  | ok fl =>
   cases fl with
   | next=>exact False.elim h
   | brk=>exact False.elim h
   | cont=>exact False.elim h
   | ret u =>
    obtain⟨v,H',os,bare,un,hok',r',q⟩:=h;have q':v=.bl true:=q;subst q';obtain rfl:u=Value.bool true:=r';refine⟨rfl,OldK.of_keep fun b o e=>?_,os,bare⟩;cases q:H b with
    | none=>exact un.keep b o e q (by intro z; exact absurd (show b∈([]:List VB) from z) (by simp)) (by simp)
    | some u =>
     rcases hO b with z|⟨ob,xs,z⟩
     ·rw [q] at z; cases z
     ·have z2:=un.frzs b ob _ z;obtain⟨e1,_⟩:=hok b _ z;obtain⟨e2,_⟩:=hok' b _ z2;rw[e]at e1;cases e1;exact e2
 cases hk:K.lookup a with
 | some o =>
  -- the script is one of the module's own objects
  have e:=KX a o hk;rw[ha]at e;cases e;refine core (fun _=>none) (fun _=>.inl rfl) (.inr ⟨_,vs.toArray,_,hk,rfl,rfl,rfl,by rw[List.size_toArray,lenV];exact hl,by simpa using rv⟩) (fun b u z=>by have z':(none:Option HO)=some u:=z;cases z') (fun b z=>absurd rfl z) fun z=>absurd rfl z
 | none =>
  refine core (fun b=>if b=a then some (.frz { cls:=.type "list",data:=.seq vs.toArray } (.lst (ns.map V.int)))else none) (fun b=>?_) (.inl (.inr ⟨{ cls:=.type "list",data:=.seq vs.toArray },if_pos rfl⟩)) (fun b u z=>?_) (fun b z=>?_) fun _=>hk
  ·by_cases hb:b=a
   ·exact .inr ⟨_,_,if_pos hb⟩
   ·exact .inl (if_neg hb)
  ·by_cases hb:b=a
   ·have z':=(if_pos hb).symm.trans z;cases z';subst hb;exact⟨ha,by rw[List.length_map];exact hl,vs,_,rv,ha⟩
   ·have z':=(if_neg hb).symm.trans z;cases z'
  ·by_cases hb:b=a
   ·exact hb
   ·exact absurd (if_neg hb) z
theorem walk_of{l:PySem.W.OpenLaw}{n k:Nat}{q:VC}{loose:VJ}{XP:(VZ)->Heap->Prop}{YP:VF->Heap->Prop}{d:DefRec}{K:Params->VG}{CX:VF->CXT}{sp:VF->Sp}{x:Str}
  (hn:l.most=some n) (hn2:n<=sizeLine) (hdf:d.params.defaults=[]) (hr:Room k callerA)
  (hY:∀(w:VF)(h:Heap),YP w h->(K w.params).In h)
  (F:∀ (w:VF) (mg:VZ) (fa:VB) (h:Heap),(K w.params).In h->h.Ns mainGlobals mg->mg d.name=some (.ref fa) ->
   ∃fd:FuncData,(∀(s:VP)(u:VR),BindsTo s fd ⟨[u],[]⟩ [(x,u)]) /\
    ∀ base:Heap,(K w.params).In base->base.Ns mainGlobals mg->FnOk l.prog w (K w.params) mg base (CX w) k fa fd [x] (sp w))
  (hsp:∀(w:VF)(H:Hp)(a:VB)(ns:VY),ns.length<=n->Only H->SqL (K w.params) H a (ns.map V.int)->sp w [.ref a] H (fun v _=>v=.bl true) fun _ _ _=>False)
  (hCX:∀(w:VF)(H:Hp)(s:VP)(e:VR)(s':VP),CX w [] H s (fun _ _ _=>False) e s'->False) :
  PySem.W.WalkO q loose XP YP l.row.toRowW d [] (fun f vs=>PySem.call f vs):=by
 refine Att.attach_call hn hdf fun w s₀ s₁ mg mb fa o pm cd doc a vs ns G Y ho hd hcd hmg hobj hints hlen hg=>?_;have KX:=hY w _ Y;obtain⟨fd,hb,hF⟩:=F w mg fa _ KX G.T.g hmg;exact Jop KX G.T.g G.T.b G.T.builtins G.T.nolimit hg hobj hints (LQ hlen hn2) hr hF hb (fun H hO hS=>hsp w H a ns hlen hO hS) fun H e s'=>hCX w H s₁ e s'
def ZD(s:Stmt):Arguments:=match s with
 | .FunctionDef _ a _ _ _ _ _ _ _ _=>a
 | _=>{ posonlyargs:=[],args:=[],vararg:=none,kwonlyargs:=[],kw_defaults:=[],kwarg:=none,defaults:=[] }
def Za(s:Stmt):List Stmt:=match s with
 | .FunctionDef _ _ b _ _ _ _ _ _ _=>b
 | _=>[]
def Jh(s:Stmt):Scope:=match s with
 | .FunctionDef _ _ _ _ _ _ sc _ _ _=>sc
 | _=>{ kind:=.function,names:=[],isGenerator:=false,isCoroutine:=false }
abbrev CX0:CXT:=fun _ _ _ _ _ _=>False
abbrev E0:XK:=fun _ _ _=>False
theorem pass0{X:Cx}:Jie CX0 X E0:=fun _ _ _ _ _ _ _ h=>h.elim
structure Fun(K:VG)(x qual:Str)(st:Stmt)(f:VB)(fd:FuncData):Prop where
 ex:∃(oc:VR)(od:Option VB)(kV doc pm:VR)(an:Option VB)(cdv ct:VR)(osl:Array (VH)),
  fd=PySem.W.fnOf x qual (ZD st) (Za st) (Jh st) .none kV doc pm an cdv ct/\K.lookup f=some ⟨oc,od,.func fd,osl⟩/\PySem.W.codeIn K cdv qual=true
 kp:PySem.W.keepIn K (.ref f)=true
section
variable{P:VC}{w:VF}{K:VG}{mg:VZ}{base:Heap}
theorem Fun.ok{x qual:Str}{st:Stmt}{f:VB}{fd:FuncData}{N ps:VJ}{k:Nat}{sp:Sp}(F:Fun K x qual st f fd)(S:FnScope N ps (Jh st))(len:∀vs H Q E,sp vs H Q E->vs.length=ps.length)
  (hbody:∀ (cdv:VR) (A:VD) (outer:List Env) (s:VP) (H:Hp) (vs:VS) (Q:VK) (E:XK),Room k (A.deeper (envOfC qual (Jh st) s.heap.objs.size f cdv))->sp vs H Q E ->
   ∃ t,PSs (cxOf CX0 P w K mg base N qual (Jh st) f cdv A outer s H E).nox (Za st) t/\t { nx:=fun _ H'=>Q .non H',rt:=Q } (start N vs) H):FnOk P w K mg base CX0 (k + 1) f fd ps sp:=by
 obtain⟨oc,od,kV,doc,pm,an,cdv,ct,osl,rfl,lk,hcd⟩:=F.ex;refine fn_of lk hcd S len fun A outer s H vs Q E hr hsp=>?_;obtain⟨t,h,q⟩:=hbody cdv A outer s H vs Q E hr hsp;exact⟨t,h.nox,q⟩
theorem Fun.binds{x qual:Str}{st:Stmt}{f:VB}{fd:FuncData}{ps:VJ}(F:Fun K x qual st f fd)
  (h:∀(kV doc pm:VR)(an:Option VB)(cdv ct:VR)(us:VU),us.length=ps.length->bindArgs (PySem.W.fnOf x qual (ZD st) (Za st) (Jh st) .none kV doc pm an cdv ct) ⟨us,[]⟩=pure (ps.zip us)):Binds K fd ps []:=by
 obtain⟨oc,od,kV,doc,pm,an,cdv,ct,osl,rfl,lk,hcd⟩:=F.ex;exact .all (h kV doc pm an cdv ct)
theorem Jht{x qual:Str}{st:Stmt}{f:VB}{oc:VR}{od an:Option VB}{osl:Array (VH)}{kV doc pm cdv ct:VR}(l:K.lookup f=some ⟨oc,od,.func (PySem.W.fnOf x qual (ZD st) (Za st) (Jh st) .none kV doc pm an cdv ct),osl⟩)
  (c:PySem.W.codeIn K cdv qual=true) (k:PySem.W.keepIn K (.ref f)=true):Fun K x qual st f (PySem.W.fnOf x qual (ZD st) (Za st) (Jh st) .none kV doc pm an cdv ct):=⟨⟨oc,od,kV,doc,pm,an,cdv,ct,osl,rfl,l,c⟩,k⟩
end
theorem YI{A:VD}{k:Nat}(hr:Room k A):A.units+1<cLine:=Nat.lt_of_le_of_lt (Nat.add_le_add_left (by decide:1<=64) _) hr.units
theorem Jk{n:Nat}(h:n<=1000):n<sizeLine:=Nat.lt_of_le_of_lt h (by decide)
section
variable{X:Cx}
theorem pv(i:Nat){x:Str}{pos:Pos}(hN:X.N[i]?=some x:=by rfl)(hv:Vis X.env.scope x:=by first|exact Or.inl rfl|exact Or.inr (Or.inl rfl)|exact Or.inr (Or.inr rfl))(hd:(x==("__debug__":Str))=false:=by decide)
  (hcd:(x==("__classdict__":Str))=false:=by decide):PE X (.Name x pos) (tVar i):=Jun hN hv hd hcd
end
theorem iteF{A B:Prop}(h:B):if false=true then A else B:=by rw[if_neg Bool.false_ne_true];exact h
theorem iteT{A B:Prop}(h:A):if true=true then A else B:=by rw[if_pos rfl];exact h
theorem ite2{c A B:Prop}[Decidable c](h1:c->A)(h2:¬ c->B):if c then A else B:=by
 by_cases h:c
 ·rw [if_pos h];exact h1 h
 ·rw [if_neg h];exact h2 h
theorem iteNS{c A B:Prop}[Decidable c](hc:c)(h:B):if (!decide c)=true then A else B:=by rw[decide_eq_true hc];exact iteF h
def Same(H H':Hp):Prop:=∀b o,H b=some o->H' b=some o
theorem Same.refl(H:Hp):Same H H:=fun _ _ h=>h
theorem Same.trans{H H1 H2:Hp}(a:Same H H1)(b:Same H1 H2):Same H H2:=fun c o h=>b c o (a c o h)
theorem Same.free{H H':Hp}(e:Same H H'){l:VB}(h:H' l=Option.none):H l=Option.none:=by
 cases q:H l with
 | none=>rfl
 | some o =>
  rw[e l o q]at h;cases h
theorem Same.seq{K:VG}{H H':Hp}{a:VB}{xs:VS}(e:Same H H')(h:SqL K H a xs):SqL K H' a xs:=by
 rcases h with(h|⟨o,h⟩)|h
 ·exact .inl (.inl (e _ _ h))
 ·exact .inl (.inr ⟨o,e _ _ h⟩)
 ·exact .inr h
section
variable{κ:Type}[DecidableEq κ]
end
section
variable{prog:VC}{w:VF}{A:VD}{R:Result->VP->Prop}
theorem Jjl{elt tg iter:Expr}{ifs:List Expr}{scope:Scope}{pos:Pos}{itv accv:VR}{ce:Env}(J:Nat->VP->Prop)
  (step:∀ k t,J k t->wpAny (model prog w) A (pyNext itv) (fun r t1=>match r with
   | none=>R (.ok .next) t1
   | some v=>wpAny (model prog w) A (letOwnedTupleGo tg itv v) (fun _ t2=>wpAny (model prog w) A (assign tg ce v) (fun _ t3 =>
     wpAny (model prog w) A (forIn ifs true fun c r=>if r=true then do let ok <- isTrue c ce (eval c ce); pure (ForInStep.yield ok) else pure (ForInStep.yield r)) (fun ok t4 =>
      if ok=true then wpAny (model prog w) A (eval elt ce) (fun x t5 =>
       wpAny (model prog w) A (call (.builtin "list.append") [accv,x]) (fun _ t6=>∃ j,j < k/\J j t6) (fun _ _=>False) t5) (fun _ _=>False) t4
      else ∃ j,j < k/\J j t4) (fun _ _=>False) t3) (fun _ _=>False) t2) (fun _ _=>False) t1) (fun _ _=>False) t)
  (n:Nat) {s:VP} (h:J n s) :
  codeAny (model prog w) A (.compLoop (.ListComp elt [⟨tg,iter,ifs,0⟩] scope pos) 0 itv accv ce) R s:=by
 refine codeAny_loop rfl J (fun k t hJ=>?_) n h;show wpAny _ A ((compTurn (.ListComp elt [⟨tg,iter,ifs,0⟩] scope pos) 0 itv accv ce).onRaise (fun x=>do noteFrame x ce;theTreesLotGoes x)) _ _ t;refine wpAny_noted ?_;rw[compTurn_list];refine VL (wpAny_standAt (VL (wpAny_mono (step k t hJ) (fun r t1 h1=>?_) fun _ _ z=>z.elim)));cases r with
 | none=>exact VM h1
 | some v =>
  refine VL (wpAny_mono h1 (fun _ t2 h2=>?_) fun _ _ z=>z.elim);refine VL (wpAny_mono h2 (fun _ t3 h3=>VL (wpAny_mono h3 (fun ok t4 h4=>?_) fun _ _ z=>z.elim)) fun _ _ z=>z.elim);cases ok with
  | false=>exact VM ⟨rfl,h4⟩
  | true =>
   exact VL (VL (wpAny_mono h4 (fun x t5 h5=>VL (wpAny_mono h5 (fun _ t6 h6=>VM (VM ⟨rfl,h6⟩)) fun _ _ z=>z.elim)) fun _ _ z=>z.elim))
end
def cxLc(X:Cx)(N:VJ)(scope:Scope)(cl:List (Str×VB))(C:VB)(s:VP)(H:Hp)(fp:List VB):Cx where
 prog:=X.prog
 w:=X.w
 K:=X.K
 mg:=X.mg
 base:=X.base
 A:=X.A
 N:=N
 s₀:=s
 H₀:=H
 env:=compEnvC scope cl C X.env
 outer:=X.stack
 stack:=X.stack
 ex:=fp
 fn:=fun _=>false
 calm:=X.calm
 pn:=[]
 xe:=fun _ _=>False
def CapsIn(env:Env):List (Str×VB)->Prop
 | []=>True
 | p::r=>(env.kindOf p.1=some .cell/\env.cells.lookup p.1=some p.2)/\CapsIn env r
theorem CapsIn.get{env:Env}:∀{cl:List (Str×VB)},CapsIn env cl->∀x c,cl.lookup x=some c->env.kindOf x=some .cell/\env.cells.lookup x=some c
 | [],_,_,_,e=>by simp at e
 | (n,a)::r,h,x,c,e=>by
  by_cases hx:x=n
  ·subst hx;simp only[List.lookup_cons,beq_self_eq_true]at e;cases e;exact h.1
  ·have hb:(x == n)=false:=by simpa using hx
   simp only[List.lookup_cons,hb]at e;exact CapsIn.get h.2 x c e
structure LcOk(X:Cx)(N:VJ)(src:List (Option Nat))(scope:Scope)(cl:List (Str×VB)):Prop where
 clos:closureFor scope X.env=pure cl
 kind:scope.kind=.function
 nocell:scope.names.all (fun y=>!(y.2==.cell))=true
 names:scope.names.all (fun y=>!(y.2==.local)||scope.names.lookup y.1==some .local)=true
 caps:CapsIn X.env cl
 has:(relabel scope X.env).names.all (fun y=>!(y.2==.cell||y.2==.free)||(cl.lookup y.1).isSome)=true
 len:N.length=src.length
 srcs:(N.zip src).all (fun p=>match p.2 with|none=>true|some i=>X.N[i]?==some p.1&&!((relabel scope X.env).names.lookup p.1==some .local))=true
def capS(src:List (Option Nat))(σ:St):St:=src.map fun o=>match o with|none=>none|some i=>(σ[i]?).join
def GOwn(g:TG)(src:List (Option Nat)):Prop :=
 ∀x σ H Q,g x σ H Q->g x σ H fun σ2 H2=>Q σ2 H2/\σ2.length=σ.length/\∀k:Nat,src[k]?≠some none->σ2[k]?=σ[k]?
theorem Js{i:Nat}{src:List (Option Nat)}(h:src[i]?=some none):GOwn (Wu i) src:=fun x σ H Q q =>
 ⟨q,by simp,fun k hk=>by
  have:i≠k:=fun e=>hk (by rw[<- e];exact h)
  rw [List.getElem?_set_ne this]⟩
theorem Jcq{K:VG}{i j n:Nat}{src:List (Option Nat)}(h:src[i]?=some none)(h':src[j]?=some none):GOwn (gTup K n (Jpo (Wu i) (Jpo (Wu j) gNil))) src:=by intro x σ H Q q;obtain⟨a,xs,e1,e2,e3,v,r,e4,v2,r2,e5,e6,q⟩:=q;refine⟨a,xs,e1,e2,e3,v,r,e4,v2,r2,e5,e6,q,by simp,fun k hk=>?_⟩;have n1:i≠k:=fun e=>hk (by rw[<- e];exact h);have n2:j≠k:=fun e=>hk (by rw[<- e];exact h');rw[List.getElem?_set_ne n2,List.getElem?_set_ne n1]
theorem Jgk(src:List (Option Nat))(σ:St):(capS src σ).length=src.length:=by simp[capS]
theorem Qk{src:List (Option Nat)}{σ:St}{k:Nat}{v:V}(h:(capS src σ)[k]?=some (some v)):∃i,src[k]?=some (some i)/\σ[i]?=some (some v):=by
 unfold capS at h;rw[List.getElem?_map]at h;cases e:src[k]? with
 | none=>rw [e] at h; cases h
 | some o =>
  rw[e]at h;cases o with
  | none=>cases h
  | some i =>
   refine⟨i,rfl,?_⟩;have h:some ((σ[i]?).join)=some (some v):=h;have h:=Option.some.inj h;cases q:σ[i]? with
   | none=>rw [q] at h; cases h
   | some z=>rw [q] at h; have h:z=some v:=h; rw [h]
def PIfs(X:Cx)(ifs:List Expr)(t:TT):Prop :=
 ∀(pins:VW)(s:VP)(σ:St)(H:Hp)(Q:Bool->Hp->Prop),Inv X pins σ H s->t σ H Q ->
  wpAny (model X.prog X.w) X.A (forIn ifs true fun c r=>if r=true then do let ok <- isTrue c X.env (eval c X.env);pure (ForInStep.yield ok)else pure (ForInStep.yield r)) (TP X pins σ Q) X.xe s
def tYes:TT:=fun _ H Q=>Q true H
theorem JC{X:Cx}:PIfs X [] tYes:=fun _ _ _ H _ I h=>wpAny_tests_nil ⟨H,I,h⟩
theorem JW{X:Cx}{c:Expr}{t:TT}(h:PT X c t):PIfs X [c] t:=fun pins s σ H Q I q=>wpAny_tests_one (h pins s σ H Q I q)
def tLc(wi:TI)(src:List (Option Nat))(g:TG)(tc:TT)(te:TE):TE:=fun σ H Q=>wi σ H fun J H1 =>
 ∃W:Nat->Nat->VS->Hp->Prop,(∃m,W 0 m [] H1)/\∀i m ys H,W i m ys H ->
  (J.stop i H/\ys.length<=sizeLine/\∀p,H p=none->Q (.ref p) (upd H p (.lst ys))) \/
  (J.go i H/\ys.length<=sizeLine/\∀ x H',J.yld i H x H'->g x (capS src σ) H' fun σ2 H2=>tc σ2 H2 fun b H3 =>
   if b=true then te σ2 H3 fun y H4=>∃ m',m' < m/\W (i + 1) m' (ys++[y]) H4 else ∃ m',m' < m/\W (i + 1) m' ys H3)
section
variable{X:Cx}{N:VJ}{src:List (Option Nat)}{scope:Scope}{cl:List (Str×VB)}{pins:VW}{σ:St}{H:Hp}{s:VP}
theorem LcOk.cellAt(ok:LcOk X N src scope cl):∀x,((relabel scope X.env).names.lookup x=some .cell\/(relabel scope X.env).names.lookup x=some .free)->∃c,cl.lookup x=some c:=by
 intro x hx;have key:∀k:NameKind,(k==.cell||k==.free)=true->(relabel scope X.env).names.lookup x=some k->∃c,cl.lookup x=some c:=by intro k hk e;have m:=PySem.mem_of_lookup e;have q:=SM.mp ok.has _ m;rw[hk]at q;simp only[Bool.not_true,Bool.false_or]at q;exact Option.isSome_iff_exists.mp q
 rcases hx with e|e
 ·exact key _ rfl e
 ·exact key _ rfl e
theorem LcOk.enter(ok:LcOk X N src scope cl)(I:Inv X pins σ H s){fp:List VB}(hfp:∀b∈fp,FpOk X pins H b)(hlt:∀b∈fp,b<s.heap.objs.size){C:VB}(hC:s.heap.objs.size<=C)
  {t:VP} {m:VZ} (ho:t.os=s.os) (hg:t.gens=s.gens) (hk:∀b o,s.heap.get? b=some o->t.heap.get? b=some o) (hn:t.heap.Ns C m)
  {pl:VW} (hpl:∀p∈pl,t.heap.get? p.1=some p.2/\H p.1=none/\p.1≠C/\p.1∉frs X.stack/\∀v,p.2.data≠.cell v) :
  Inv (cxLc X N scope cl C s H fp) pl (capS src σ) H t:=by
 have cg:=ok.caps.get;have okX:(cxLc X N scope cl C s H fp).Ok:=by
  refine⟨I.ok.mod,ok.kind,I.ok.glob,I.ok.blt,hC,fun x y c h1 h2=>?_,fun x hx=>ok.cellAt x hx,(fun x c z _=>nomatch z),I.ok.hd,I.ok.frames,.inl rfl,fun b hb=>?_,I.bs,LQ I.ok.bsz I.sz,fun b o e hb=>?_,fun b hb z=>?_,I.stack,I.stkFree⟩
  ·exact I.ok.inj x y c (cg x c h1).2 (cg y c h2).2
  ·refine ⟨fun e=>?_,fun x c e=>?_⟩
   ·have e:b=C:=e;have:=hlt b hb;rw[e]at this;exact absurd (SC this hC) (SW _)
   ·exact (hfp b hb).2.2.2.2.1 x c (cg x c e).2
  ·rcases (hfp b hb).2.2.2.1 with z | z
   ·exact I.ok.noex b o e z
   ·exact absurd (SC (SQ e) (LQ I.ok.bsz z)) (SW _)
  ·rcases List.mem_cons.mp (I.stkSub b z) with e | e
   ·exact (hfp b hb).2.1 e
   ·exact (hfp b hb).2.2.1 e
 obtain⟨mX,hnX,hlX⟩:=I.loc;refine⟨okX,ho,by rw[hg];exact I.bare,Un.kept hk,⟨m,hn,fun j x v e1 e2 e3=>?_⟩,fun x c e=>?_,I.hok.fresh hC,fun x c e=>I.freeC x c (cg x c e).2,fun p hp=>hpl p hp,I.hok.kept hk,?_⟩
 ·obtain ⟨i,e4,e5⟩:=Qk e2;have hz:(N.zip src)[j]?=some (x,some i):=by
   rw[List.getElem?_zip_eq_some];exact⟨e1,e4⟩
  have q:=SM.mp ok.srcs _ (SK hz);have q:(X.N[i]?==some x&&!((relabel scope X.env).names.lookup x==some .local))=true:=q;rw[Bool.and_eq_true]at q;have q1:X.N[i]?=some x:=by simpa using q.1
  have q2:¬ (relabel scope X.env).names.lookup x=some .local:=by intro z;rw[z]at q;exact absurd q.2 (by decide)
  have e3:(relabel scope X.env).names.lookup x=some .local\/(relabel scope X.env).names.lookup x=some .cell\/(relabel scope X.env).names.lookup x=some .free:=e3;have e6:(relabel scope X.env).names.lookup x=some .cell\/(relabel scope X.env).names.lookup x=some .free:=e3.resolve_left q2;obtain⟨c,hc⟩:=ok.cellAt x e6;obtain⟨k1,k2⟩:=cg x c hc;obtain⟨u,r,l⟩:=hlX i x v q1 e5 (.inr (.inl k1));refine⟨u,r,.inr ⟨e6,c,hc,?_⟩⟩;rcases l with⟨z,_⟩|⟨_,c',z1,z2⟩
  ·rw [k1] at z; cases z
  ·rw [k2] at z1;cases z1;obtain⟨o,ho',hd⟩:=z2;exact⟨o,hk _ o ho',hd⟩
 ·obtain ⟨v,o,ho',hd⟩:=I.cell x c (cg x c e).2;exact⟨v,o,hk _ o ho',hd⟩
 ·rw [Jgk];exact ok.len.symm
theorem Joo(I:Inv X pins σ H s){fp:List VB}(hfp:∀b∈fp,FpOk X pins H b){C D:VB}(hD:s.heap.objs.size<=D)(hC:s.heap.objs.size<=C)
  {σ':St} {H':Hp} {t:VP} {pl:VW} (J:Inv (cxLc X N scope cl C s H fp) pl σ' H' t) {ys:VS} {its:VU} {n:Nat} (hy:ys.length<=sizeLine) (rv:Vals ys its)
  (hd:t.heap.get? D=some { cls:=.type "list",data:=.seq its.toArray n }) (hn:H' D=none) (hDC:D≠C) {h':Heap} (hs:Heap.SameBut C t.heap h'):Inv X pins σ (upd H' D (.lst ys)) { t with heap:=h' }:=by
 have neC:∀b o,s.heap.get? b=some o->b≠C:=fun b o e=>SF (SC (SQ e) hC);have neD:∀b o,s.heap.get? b=some o->b≠D:=fun b o e=>SF (SC (SQ e) hD);have B:Un (frs X.stack) fp H H' s.heap t.heap:=J.base;have fC:H' C=none:=J.free;refine I.call' (s':={ t with heap:=h' }) (ch:=fp) J.os ?_ ?_ J.bare fun b hb=>⟨(hfp b hb).2.2.2.1,(hfp b hb).2.1,(hfp b hb).2.2.2.2.1,(hfp b hb).2.2.2.2.2⟩
 ·refine ⟨fun b o e q hb hx=>(hs.2 b (neC b o e)).trans (B.keep b o e q hb hx),fun b o e q hb hx=>?_,fun b o e q hx=>?_,fun b o e hx=>?_,fun b xs e=>?_,fun b o u e=>?_,fun b ps e=>?_⟩
  ·obtain ⟨sl,z⟩:=B.slot b o e q hb hx;exact⟨sl,(hs.2 b (neC b o e)).trans z⟩
  ·rw [Jj (neD b o e)];exact B.free b o e q hx
  ·obtain ⟨o',z⟩:=B.there b o e hx;exact⟨o',(hs.2 b (neC b o e)).trans z⟩
  ·have z:=B.tups b xs e;rw[Jj (Jg z hn)];exact z
  ·have z:=B.frzs b o u e;rw[Jj (Jg z hn)];exact z
  ·obtain ⟨more,z⟩:=B.tbls b ps e;exact⟨more,by rw[Jj (Jg z hn)];exact z⟩
 ·intro b u e;by_cases hb:b=D
  ·subst hb;rw[Jc]at e;cases e;exact⟨hy,its,n,rv,(hs.2 b hDC).trans hd⟩
  ·rw [Jj hb] at e;refine(J.hok b u e).stay (fun c v hc q=>(hs.2 c ?_).trans q) (fun c q=>?_) fun c xs q=>?_
   ·rintro rfl;rcases hc with z|z
    ·rw [<- z,fC] at e; cases e
    ·rw [fC] at z; cases z
   ·rw [Jj (Jg q hn)]; exact q
   ·rw [Jj (Jg q hn)]; exact q
theorem Jfw{elt tg iter:Expr}{ifs:List Expr}{pos:Pos}{te:TE}{tc:TT}{g:TG}{it:VB}{fp:List VB}{tn:Nat->Heap->Prop}{J:It}{E:VQ}{RR:VR->VB->Result->VP->Prop}{Qr:VS->Hp->Prop}
  (hc:X.calm=true) (ok:LcOk X N src scope cl) (hgo:GOwn g src)
  (hb:∀C,PG (cxLc X N scope cl C s H fp) tg g/\PIfs (cxLc X N scope cl C s H fp) ifs tc/\PE (cxLc X N scope cl C s H fp) elt te)
  (I:Inv X pins σ H s) (T:Turn X.prog X.w X.K tg J fp it tn) (st:tn 0 s.heap) (hfp:∀b∈fp,FpOk X pins H b)
  (W:Nat->Nat->VS->Hp->Prop) (w0:∃m,W 0 m [] H)
  (turn:∀ i m ys H,W i m ys H->(J.stop i H/\ys.length<=sizeLine/\Qr ys H)\/(J.go i H/\ys.length<=sizeLine/\∀ x H',J.yld i H x H'->g x (capS src σ) H' fun σ2 H2=>tc σ2 H2 fun b H3 =>
   if b=true then te σ2 H3 fun y H4=>∃ m',m' < m/\W (i + 1) m' (ys++[y]) H4 else ∃ m',m' < m/\W (i + 1) m' ys H3))
  (fin:∀ D C t ys H',s.heap.objs.size<=D->s.heap.objs.size<=C->D≠C->H' D=none->H' C=none->(∃ m,t.heap.Ns C m)->Qr ys H'->(∀ h',Heap.SameBut C t.heap h'->Inv X pins σ (upd H' D (.lst ys)) { t with heap:=h' }) ->
   RR (.ref D) C (.ok .next) t) :
  wpAny (model X.prog X.w) X.A (newList []) (fun acc s₃=>wpAny (model X.prog X.w) X.A (newFunctionEnv scope X.env.globals cl [] X.env.qual none .none (some X.env)) (fun cenv s₄ =>
   codeAny (model X.prog X.w) X.A (.compStart (.ListComp elt [⟨tg,iter,ifs,0⟩] scope pos) 0 (.ref it) acc { cenv with scope:=relabel scope X.env }) (RR acc cenv.locals) s₄) E s₃) E s:=by
 have noc:∀y∈scope.names,y.2≠.cell:=fun y hy z=>by have q:=SM.mp ok.nocell y hy;rw[z]at q;exact absurd q (by decide)
 obtain⟨m0,w0⟩:=w0;refine wpAny_newList (wpAny_newFunctionEnv noc (by intro y hy;simp at hy) (fun h1 hns hsb=>?_) ok.kind) (by show 0<=sizeLine;exact LX _);dsimp only at hns hsb ⊢;generalize hp1:s.heap.push { cls:=.type "list",data:=.seq ([]:VU).toArray }=hD at hns hsb ⊢;have eC:hD.objs.size=s.heap.objs.size+1:=by rw[<- hp1,Heap.size_push]
 have nDC:s.heap.objs.size≠hD.objs.size:=by rw[eC];exact SF (Nat.lt_succ_self _)
 have leC:s.heap.objs.size<=hD.objs.size:=by rw[eC];exact LU _
 have kept:∀b o,s.heap.get? b=some o->h1.get? b=some o:=fun b o e =>
  hsb.extBut b o (SF (SC (SQ e) leC)) (VN _ (hp1▸VN _ e))
 have atD:h1.get? s.heap.objs.size=some { cls:=.type "list",data:=.seq ([]:VU).toArray }:=hsb.extBut _ _ nDC (VN _ (hp1▸VT _ rfl));have ltf:∀b∈fp,b<s.heap.objs.size:=fun b hb=>by obtain⟨o,e,_⟩:=T.obj 0 _ st b hb;exact SQ e
 have nstk:s.heap.objs.size∉frs X.stack:=fun z=>by
  rcases List.mem_cons.mp (I.stkSub _ z)with e|e
  ·exact absurd (SC I.lt (Nat.le_of_eq e)) (SW _)
  ·exact I.nofs (SJ _) e
 have ncl:∀x c,cl.lookup x=some c->c≠s.heap.objs.size:=fun x c e z=>by obtain⟨v,q⟩:=I.cell x c (ok.caps.get x c e).2;exact absurd q.lt (by rw[z];exact SW _)
 -- what stays true of the iterator's records
 have stat:∀{H':Hp}{its:VU}{k:Nat},(∀b∈fp,H' b=none)->∀b∈fp,FpOk (cxLc X N scope cl hD.objs.size s H fp) [(s.heap.objs.size,{ cls:=.type "list",data:=.seq its.toArray k })] H' b:=fun fr b hb=>by
  refine⟨fr b hb,fun z=>?_,fun z=>?_,.inl hb,fun x c e=>(hfp b hb).2.2.2.2.1 x c (ok.caps.get x c e).2,fun p hp z=>?_⟩
  ·have z:b=hD.objs.size:=z;exact absurd (SC (ltf b hb) (by rw[z];exact leC)) (SW _)
  ·rcases List.mem_cons.mp (I.stkSub b z) with e | e
   ·exact (hfp b hb).2.1 e
   ·exact (hfp b hb).2.2.1 e
  ·have hp:p∈([]:VW)++[(s.heap.objs.size,{ cls:=.type "list",data:=.seq _ _ })]:=hp;rw[List.nil_append,List.mem_singleton]at hp;rw[hp]at z;exact absurd (ltf b hb) (by rw[<- z];exact SW _)
 have loop:∀t:VP,t={ s with heap:=h1,toks:=s.toks+([]:List (Str×VR)).length } ->
   codeAny (model X.prog X.w) X.A (.compLoop (.ListComp elt [⟨tg,iter,ifs,0⟩] scope pos) 0 (.ref it) (.ref s.heap.objs.size) (compEnvC scope cl hD.objs.size X.env)) (RR (.ref s.heap.objs.size) hD.objs.size) t:=by
  rintro t rfl;refine Jjl (fun n t=>∃i ys its k H',Inv (cxLc X N scope cl hD.objs.size s H fp) [(s.heap.objs.size,{ cls:=.type "list",data:=.seq its.toArray k })] (capS src σ) H' t/\Vals ys its/\tn i t.heap/\(∀b∈fp,H' b=none)/\W i n ys H') ?_ m0
   ⟨0,[],[],0,H,ok.enter (t:={ s with heap:=h1,toks:=s.toks+([]:List (Str×VR)).length }) I hfp ltf leC rfl rfl kept hns ?_,.nil,T.keep 0 _ _ st fun b _ o e=>kept b o e,fun b hb=>(hfp b hb).1,w0⟩
  ·rintro n t ⟨i,ys,its,k,H',Iy,rv,stt,fr,wv⟩;rcases turn i n ys H' wv with⟨stop,hy,q⟩|⟨go,hy,body⟩
   ·refine wpAny_mono (T.done (cxLc X N scope cl hD.objs.size s H fp) rfl rfl rfl hc i _ t _ H' (fun _ _=>False) Iy (stat fr) stt stop) (fun r t1 hr=>?_) fun _ _ z=>z;obtain⟨hr,I1⟩:=hr;subst hr;have p:=I1.pin (s.heap.objs.size,_) (SB _ SG);obtain⟨m,hnC,_⟩:=id I1.loc;exact fin _ _ t1 ys H' (SJ _) leC nDC p.2.1 I1.free ⟨m,hnC⟩ q fun h' hs=>Joo I hfp (SJ _) leC I1 hy rv p.1 p.2.1 nDC hs
   ·refine wpAny_mono (T.item (cxLc X N scope cl hD.objs.size s H fp) rfl rfl rfl hc i _ t _ H' (fun _ _=>False) Iy (stat fr) stt go) (fun r t1 hr=>?_) fun _ _ z=>z;obtain⟨u,hr,h4⟩:=hr;subst hr;refine wpAny_mono h4 (fun _ t2 h5=>?_) fun _ _ z=>z;obtain⟨x,H5,I5,r5,y5,st5,fr5⟩:=h5;have I5':=I5.pinned (stat fr5) (T.obj _ _ st5);obtain⟨pg,pi,pe⟩:=hb hD.objs.size;refine wpAny_mono (pg _ t2 _ H5 x u _ I5' r5 (hgo _ _ _ _ (body x H5 y5))) (fun _ t3 h6=>?_) fun _ _ z=>z;obtain⟨σ6,H6,I6,q6,len6,keep6⟩:=h6;refine wpAny_mono (pi _ t3 σ6 H6 _ I6 q6) (fun b t4 h7=>?_) fun _ _ z=>z;obtain⟨H7,I7,q7⟩:=h7;have wk:∀{pl:VW}{Hz:Hp}{tz:VP},Inv (cxLc X N scope cl hD.objs.size s H fp) pl σ6 Hz tz->Inv (cxLc X N scope cl hD.objs.size s H fp) pl (capS src σ) Hz tz:=fun Iz =>
     Iz.weak len6.symm fun j v e=>by obtain⟨a,ea,_⟩:=Qk e;rw[keep6 j (by rw[ea];simp)];exact e
    have held:∀{Hz:Hp}{tz:VP}{pl:VW},Inv (cxLc X N scope cl hD.objs.size s H fp) (pl++YM fp t2.heap) σ6 Hz tz->(∀b∈fp,∀o,t2.heap.get? b=some o->tz.heap.get? b=some o)/\∀b∈fp,Hz b=none:=fun Iz =>
     ⟨fun b hb o e=>(Iz.pin (b,o) (SB _ (SB _ (YX hb e)))).1,fun b hb=>by
      obtain⟨o,e,_⟩:=T.obj _ _ st5 b hb
      exact (Iz.pin (b,o) (SB _ (SB _ (YX hb e)))).2.1⟩
    cases b with
    | false =>
     rw[if_neg Bool.false_ne_true]at q7 ⊢;obtain⟨m',hm,w'⟩:=q7;exact⟨m',hm,i+1,ys,its,k,H7,wk I7.unpinned,rv,T.keep _ _ _ st5 (held I7).1,(held I7).2,w'⟩
    | true =>
     rw[if_pos rfl]at q7 ⊢;refine wpAny_mono (pe _ t4 σ6 H7 _ I7 q7) (fun v t5 h8=>?_) fun _ _ z=>z;obtain⟨y,H8,I8,r8,m',hm,w'⟩:=h8;have p:=I8.pin (s.heap.objs.size,_) (SB _ (List.mem_append_left _ SG));have hl:its.toArray.size<=sizeLine:=by rw[List.size_toArray,<- rv.length];exact hy
     refine wpAny_list_append_plain (items:=its.toArray) ⟨k,p.1⟩ (fun h' hpl hs=>?_) hl;obtain⟨k',ek⟩:=hpl;have ek:h'.get? s.heap.objs.size=some { cls:=.type "list",data:=.seq (its++[v]).toArray k' }:=by rw[ek];simp
     have I9:Inv (cxLc X N scope cl hD.objs.size s H fp) (YM fp t2.heap) σ6 H8 t5:=I8.pins_of fun a ha=>I8.pin a (SB _ (SB _ ha));have I10:Inv (cxLc X N scope cl hD.objs.size s H fp) (YM fp t2.heap) σ6 H8 { t5 with heap:=h' }:=I9.turned (it:=s.heap.objs.size) (t':=t5.toks) (fun b o hb e=>hs.extBut b o hb e) p.2.1 nDC (.inr (SJ _)) (fun x c e=>ncl x c e) fun a ha z=>by have ha:a∈([]:VW)++YM fp t2.heap:=ha;rw[List.nil_append]at ha;exact absurd (ltf a.1 (Qy ha).1) (by rw[z];exact SW _)
     have hld:=held (pl:=[]) (show Inv (cxLc X N scope cl hD.objs.size s H fp) ([]++YM fp t2.heap) σ6 H8 { t5 with heap:=h' } from I10);refine⟨m',hm,i+1,ys++[y],its++[v],k',H8,(wk I10).pins_of fun a ha=>?_,rv.append (.cons r8 .nil),T.keep _ _ _ st5 hld.1,hld.2,w'⟩;rw[List.mem_singleton]at ha;subst ha;exact⟨ek,p.2.1,nDC,nstk,fun _ z=>nomatch z⟩
  ·intro a ha;rw[List.mem_singleton]at ha;subst ha;exact⟨atD,I.hok.fresh (SJ _),nDC,nstk,fun _ z=>nomatch z⟩
 exact codeAny_compStart_list (loop _ rfl) (T.self _ 0 _ _ _ (T.keep 0 _ _ st fun b _ o e=>kept b o e) (loop _ rfl))
theorem Yb{elt tg iter:Expr}{ifs:List Expr}{pos:Pos}{te:TE}{tc:TT}{g:TG}{wi:TI}(hc:X.calm=true)(ok:LcOk X N src scope cl)(hgo:GOwn g src)(hi:PI X tg iter wi)
  (hb:∀C s H fp,PG (cxLc X N scope cl C s H fp) tg g/\PIfs (cxLc X N scope cl C s H fp) ifs tc/\PE (cxLc X N scope cl C s H fp) elt te)
  (hs:∀x,foldedSetIterable iter X.env x=pure x:=by intro _;rfl):PE X (.ListComp elt [⟨tg,iter,ifs,0⟩] scope pos) (tLc wi src g tc te):=by
 intro pins s σ H Q I h;have nms:∀y∈scope.names,y.2=.local->scope.names.lookup y.1=some .local:=fun y hy z=>by have q:=SM.mp ok.names y hy;rw[z]at q;simpa using q
 rw[eval_ListComp];refine wpAny_comprehension_free (use:=none) rfl hs ok.clos ok.kind nms (thn (hi pins s σ H _ I h) fun v s1 h1=>thn h1 fun itv s2 h2=>?_);obtain⟨it,fp,tn,J,H2,e,I2,T,st2,f2,W,w0,turn⟩:=h2;subst e;refine Jfw (RR:=fun acc C=>compPost (model X.prog X.w) X.A X.xe none (EP X pins σ Q) acc C) (Qr:=fun ys H=>∀p,H p=none->Q (.ref p) (upd H p (.lst ys))) hc ok hgo (fun C=>hb C s2 H2 fp) I2 T st2 f2 W w0 turn ?_;intro D C t ys H' hD hC nDC n1 n2 hn q inv;obtain⟨m,hn⟩:=hn;exact⟨m,hn,fun h' hs=>⟨.ref D,_,inv h' hs,rfl,q D n1⟩⟩
theorem YK{elt tg iter:Expr}{ifs:List Expr}{pos pos' spos:Pos}{te:TE}{tc:TT}{g:TG}{wi:TI}{i:Nat}{x:Str}(hN:X.N.Nodup)(hx:X.N[i]?=some x)(hl:X.env.scope.names.lookup x=some .local)
  (hsw:swapsWith (.ListComp elt [⟨tg,iter,ifs,0⟩] scope pos) (some (.Name x pos')) spos.line X.env=pure true) (hc:X.calm=true) (ok:LcOk X N src scope cl) (hgo:GOwn g src) (hi:PI X tg iter wi)
  (hb:∀C s H fp,PG (cxLc X N scope cl C s H fp) tg g/\PIfs (cxLc X N scope cl C s H fp) ifs tc/\PE (cxLc X N scope cl C s H fp) elt te)
  (hs:∀x,foldedSetIterable iter X.env x=pure x:=by intro _;rfl):PS X (.Assign [.Name x pos'] (.ListComp elt [⟨tg,iter,ifs,0⟩] scope pos) spos) (tAsg (tLc wi src g tc te) (Wu i)):=by
 intro pins s σ H DD I h;have nms:∀y∈scope.names,y.2=.local->scope.names.lookup y.1=some .local:=fun y hy z=>by have q:=SM.mp ok.names y hy;rw[z]at q;simpa using q
 rw[exec_Assign_Name_used _ _ _ _ hsw];refine VL (wpAny_standAt (VL ?_));show wpAny (model X.prog X.w) X.A (do let _ <- comprehension (.ListComp elt [⟨tg,iter,ifs,0⟩] scope pos) scope X.env _ (newList []) false (eval iter X.env) (some (assign (.Name x pos') X.env))) _ _ s;refine VL (wpAny_mono (wpAny_comprehension_free (use:=some (assign (.Name x pos') X.env)) (Q:=fun _ t=>SP X pins DD .next t) rfl hs ok.clos ok.kind nms
  (thn (hi pins s σ H _ I h) fun v s1 h1=>thn h1 fun itv s2 h2=>?_)) (fun _ t hq=>VM (VM hq)) fun _ _ e=>e)
 obtain⟨it,fp,tn,J,H2,e,I2,T,st2,f2,W,w0,turn⟩:=h2;subst e;refine Jfw (RR:=fun acc C=>compPost (model X.prog X.w) X.A X.xe (some (assign (.Name x pos') X.env)) (fun _ t=>SP X pins DD .next t) acc C) (Qr:=fun ys H=>∀p,H p=none->DD.nx (σ.set i (some (.ref p))) (upd H p (.lst ys))) hc ok hgo (fun C=>hb C s2 H2 fp) I2 T st2 f2 W w0 turn ?_;intro D C t ys H' hD hC nDC n1 n2 hn q inv;obtain⟨m,hn⟩:=hn;have I3:=inv t.heap (Heap.SameBut.refl ..);have neL:C≠X.env.locals:=Nat.ne_of_gt (SC I2.lt hC);have neK:∀y c,X.env.cells.lookup y=some c->c≠C:=fun y c e=>by obtain⟨v,z⟩:=I2.cell y c e;exact SF (SC z.lt hC)
 show wpAny (model X.prog X.w) X.A (assign (.Name x pos') X.env (.ref D)) _ X.xe t;refine wpAny_assign_Name (Jcc (v:=.ref D) (s:={ t with heap:=t.heap }) I3 hN hx (.inl hl) rfl (fun t2 I4 hw=>?_) (.inr hl));obtain⟨a,sb,ha⟩:=hw;have naC:C≠a:=by
  rcases ha with e|e
  ·rw [e]; exact neL
  ·exact fun z=>neK _ _ e z.symm
 refine⟨m,hn.sameBut sb naC,fun h' hs'=>?_⟩;refine⟨_,_,I4.turned (it:=C) (t':=t2.toks) (fun b o hb e=>hs'.extBut b o hb e) ?_ neL (.inr (LQ I2.sz hC)) (fun y c e=>neK y c e) (fun p hp z=>?_),q D n1⟩
 ·rw [Jj (Ne.symm nDC)];exact n2
 ·have e:=(I2.pin p hp).1;exact absurd (SC (SQ e) (by rw[z];exact hC)) (SW _)
end
end L2
namespace L2
open PySem
theorem Jhk{prog:VC}{w:VF}{A:VD}{E:VQ}{s:VP}{it t:VB}{i:Nat}{its:Array VR}{x:VR}{Q:VQ}(hi:s.heap.IsTupleIter it t i)
  (ht:s.heap.IsTuple t its) (hx:its[i]?=some x) (q:∀h',h'.IsTupleIter it t (i+1)->Heap.SameBut it s.heap h'->Q x { s with heap:=h' }) :
  wpAny (model prog w) A (Builtin.SmallTypes.nextOf (.ref it)) Q E s:=by
 obtain⟨o,h1,h2,h3⟩:=id hi;obtain⟨o2,h4,_,n2,h5⟩:=ht;unfold Builtin.SmallTypes.nextOf;refine VL (wpAny_callSpecial?_slot (name:=Str.ofString "__next__") hi.typeIs F.slot_tuple_iterator_next
  (wpAny_call_entry F.slot_tuple_iterator_next hi.typeIs F.entry_tuple_iterator_next ?_ (F.args_tuple_iterator_next_1 _)))
 show wpAny (model prog w) _ (field (.ref it) 0 >>= _) _ _ s;refine VL (wpAny_field h1 h3 (x:=.ref t) rfl ?_);show wpAny (model prog w) _ (if (Value.ref t==Value.none)=true then _ else _) _ _ s;rw[if_neg (show ¬ (Value.ref t==Value.none)=true from Bool.false_ne_true)];show wpAny (model prog w) _ (field (.ref it) 1 >>= _) _ _ s;refine VL (wpAny_field h1 h3 (x:=.int i 0) rfl ?_);show wpAny (model prog w) _ (seqItems? (.ref t) >>= _) _ _ s;refine VL (wpAny_seqItems h4 h5 ?_);simp only[Int.toNat_natCast,hx];refine VL (wpAny_setField h1 h3 (by simp) (VM ⟨x,rfl,VM (q _ ?_ (Heap.SameBut.update ..))⟩));exact ⟨_,Heap.get?_update_self _ h1 (Obj.isFreed_of_fields (Obj.data_mapFields h3 _)),(Obj.cls_mapFields ..).trans h2,by
  rw [Obj.data_mapFields h3]; simp [rawInt]⟩
theorem Jaw{prog:VC}{w:VF}{A:VD}{E:VQ}{s:VP}{it t:VB}{i:Nat}{its:Array VR}{Q:VQ}(hh:A.handled=none)(hi:s.heap.IsTupleIter it t i)
  (ht:s.heap.IsTuple t its) (hx:its[i]?=none) (q:∀h' e,Heap.ExtBut it s.heap h'->(∃o,h'.get? e=some o/\o.cls=.type "StopIteration")->E (.ref e) { s with heap:=h' }) :
  wpAny (model prog w) A (Builtin.SmallTypes.nextOf (.ref it)) Q E s:=by
 obtain⟨o,h1,h2,h3⟩:=id hi;obtain⟨o2,h4,_,n2,h5⟩:=ht;unfold Builtin.SmallTypes.nextOf;refine VL (wpAny_callSpecial?_slot (name:=Str.ofString "__next__") hi.typeIs F.slot_tuple_iterator_next
  (wpAny_call_entry F.slot_tuple_iterator_next hi.typeIs F.entry_tuple_iterator_next ?_ (F.args_tuple_iterator_next_1 _)))
 show wpAny (model prog w) _ (field (.ref it) 0 >>= _) _ _ s;refine VL (wpAny_field h1 h3 (x:=.ref t) rfl ?_);show wpAny (model prog w) _ (if (Value.ref t==Value.none)=true then _ else _) _ _ s;rw[if_neg (show ¬ (Value.ref t==Value.none)=true from Bool.false_ne_true)];show wpAny (model prog w) _ (field (.ref it) 1 >>= _) _ _ s;refine VL (wpAny_field h1 h3 (x:=.int i 0) rfl ?_);show wpAny (model prog w) _ (seqItems? (.ref t) >>= _) _ _ s;refine VL (wpAny_seqItems h4 h5 ?_);simp only[Int.toNat_natCast,hx];refine VL (wpAny_rule (VL (wpAny_setField h1 h3 (by simp) ?_)));show wpAny (model prog w) _ (newExc (.type "StopIteration") [] >>= _) _ _ _;refine VL ?_;simp only[newExc,newTuple];refine VL (wpAny_newObj_type ?_ (by size_fits));refine VL (m:=firstArgMember _ _) (wpAny_of_eq (a:=Value.none) (by first|rfl|(simp only[firstArgMember];rfl)) ?_);refine wpAny_newObj_type ?_ (by size_fits);simp only[raiseNew];refine VL (wpAny_handled ?_)
 first|rw[show A.in1.handled=none from hh]|rw[hh]
 refine VL (VM (wpAny_throw ?_));exact q _ _ (((Heap.SameBut.update ..).extBut.push _).push _) ⟨_,VT _ rfl,rfl⟩
theorem Yg{prog:VC}{w:VF}{A:VD}(hh:A.handled=none)(it l:VB)(hne:l≠it)(its:Array VR) :
  Draws prog w A it [it,l] its.size (fun i v=>its[i]?=some v) (fun i h=>h.IsTupleIter it l i/\h.IsTuple l its) where
 live:=fun _ _ st=>let⟨o,ho,_⟩:=st.1;⟨o,ho⟩
 frame:=fun _ _ _ st hk=>⟨let⟨o,a,r⟩:=st.1;⟨o,hk it (by simp) o a,r⟩,let⟨o,a,r⟩:=st.2;⟨o,hk l (by simp) o a,r⟩⟩
 item:=fun i s Q E hi st hQ=>by refine Jhk st.1 st.2 (x:=its[i]) (by simp[hi]) fun h' a b=>?_;exact hQ _ h' s.toks (by simp[hi]) ⟨a,st.2.extBut b.extBut hne⟩ b
 done:=fun s Q E st hE=>Jaw hh st.1 st.2 (by simp) hE
structure ZAp(z TI TO i1 i2:VB)(f1 f2:List VB):Prop where
 a1:TI≠z
 a2:TO≠z
 a3:i1≠z
 a4:i2≠z
 a5:TI≠TO
 a6:TI≠i1
 a7:TI≠i2
 a8:TO≠i1
 a9:TO≠i2
 b1:i1≠i2
 b2:z∉f1
 b3:z∉f2
 b4:TO∉f1
 b5:TO∉f2
 b6:i1∉f2
 b7:i2∉f1
abbrev IsZb(h:Heap)(z TI TO:VB)(f0:VR)(b:Bool):Prop :=
 h.get? z=some { cls:=.type "zip",dict:=none,data:=.fields #[f0,.bool b,.bool false,.ref TI,.ref TO],slots:=#[] }
theorem QY{M:Model}{A:VD}{E:VQ}{s:VP}{a:VB}{Q:Option Obj->VP->Prop}(h:Q (s.heap.get? a) s):wpAny M A (loadIfAlive a) Q E s:=fun Γ p _=>by show Sem.wp M Γ (.loadIfAlive a .pure) _ _ p s;rw[Sem.wp_loadIfAlive];exact h
section
variable{prog:VC}{w:VF}{z TI TO i1 i2:VB}{f1 f2:List VB}{n1 n2:Nat}{P1 P2:Nat->VR->Prop}{S1 S2:Nat->Heap->Prop}
def ZSt(z TI TO i1 i2:VB)(S1 S2:Nat->Heap->Prop)(i:Nat)(h:Heap):Prop:=IsZip h z TI TO .none/\IsPair h TI (.ref i1) (.ref i2)/\(∃a b,IsPair h TO a b)/\S1 i h/\S2 i h
theorem Jat{A:VD}{E:VQ}{s:VP}{Q:Bool->VP->Prop}{f0:VR}{b:Bool}(hz:IsZb s.heap z TI TO f0 b)(hf:f0=.none\/∃a,f0=rawInt a)(q1:Q true s)
  (q2:f0≠.none->∀h' f1 b1,IsZb h' z TI TO f1 b1->(∃a,f1=rawInt a)->Heap.SameBut z s.heap h'->Q false { s with heap:=h' }):wpAny (model prog w) A (Builtin.SmallTypes.ownedTupleIsFree (.ref z)) Q E s:=by
 unfold Builtin.SmallTypes.ownedTupleIsFree;refine VL (wpAny_field hz rfl (x:=f0) rfl ?_);rcases hf with rfl|⟨a,rfl⟩
 ·exact VM q1
 ·show wpAny (model prog w) A (loadIfAlive a.toNat >>= _) Q E s;refine VL (QY ?_);cases e:s.heap.get? a.toNat with
  | none =>
   simp only[Option.isNone_none,if_true];exact VM q1
  | some o =>
   simp only[Option.isNone_some,Bool.false_eq_true,if_false];refine VL (wpAny_field hz rfl (x:=.bool b) rfl ?_);cases b with
   | true=>exact VM (q2 (fun h=>nomatch h) s.heap _ _ hz ⟨a,rfl⟩ (Heap.SameBut.refl _ _))
   | false=>exact VL (wpAny_setField_rec hz (by simp) fun g1 z1 e1=>VM (q2 (fun h=>nomatch h) g1 _ true z1 ⟨a,rfl⟩ e1))
def ZSb(z TI TO i1 i2:VB)(S1 S2:Nat->Heap->Prop)(i:Nat)(h:Heap):Prop:=(∃f0 b,IsZb h z TI TO f0 b/\(f0=.none\/∃a,f0=rawInt a))/\IsPair h TI (.ref i1) (.ref i2)/\(∃a b,IsPair h TO a b)/\S1 i h/\S2 i h
theorem Jbz{A:VD}{E:VQ}{s:VP}{k:Nat}{Q:VQ}(D:ZAp z TI TO i1 i2 f1 f2)(d1:Draws prog w A i1 f1 n1 P1 S1)(d2:Draws prog w A i2 f2 n2 P2 S2)(l1:k<n1)(l2:k<n2)
  {f0:VR} {b0:Bool} (hz:IsZb s.heap z TI TO f0 b0) (hf:f0=.none\/∃a,f0=rawInt a) (hTI:IsPair s.heap TI (.ref i1) (.ref i2)) (hTO:∃a b,IsPair s.heap TO a b) (s1:S1 k s.heap) (s2:S2 k s.heap)
  (q:∀ x y h' tk,P1 k x->P2 k y->(∃ f0 b,IsZb h' z TI TO f0 b/\(f0=.none\/∃ a,f0=rawInt a))->(∃ a b,IsPair h' TO a b)->(f0=.none->IsZip h' z TI TO (rawInt s.heap.objs.size)/\IsPair h' TO x y)->IsPair h' TI (.ref i1) (.ref i2)->S1 (k + 1) h'->S2 (k + 1) h'->IsPair h' s.heap.objs.size x y->h'.objs.size=s.heap.objs.size + 1 ->
   (∀ c o,c≠z->c≠TO->c≠i1->c≠i2->s.heap.get? c=some o->h'.get? c=some o)->Q (.ref s.heap.objs.size) { s with heap:=h',toks:=tk }) :
  wpAny (model prog w) A (Builtin.«zip.__next__» ⟨[.ref z],[]⟩) (fun fin t=>∃v,fin=.done (.ret v)/\Q v t) E s:=by
 obtain⟨a,b,hTO⟩:=hTO;show wpAny (model prog w) _ (field (.ref z) 2 >>= _) _ _ _;refine VL (wpAny_field hz rfl (x:=.bool false) rfl ?_);show wpAny (model prog w) _ (field (.ref z) 3 >>= _) _ _ _;refine VL (wpAny_field hz rfl (x:=.ref TI) rfl ?_);refine VL (wpAny_seqItems hTI rfl ?_);show wpAny (model prog w) _ (Builtin.SmallTypes.ownedTupleIsFree (.ref z) >>= _) _ _ _;refine VL (Jat hz hf ?_ fun nf h1 f1 b1 hz1 hf1 e0=>?_)
 ·simp only [if_true];refine VL (wpAny_rule ?_);refine VL (wpAny_field hz rfl (x:=.ref TO) rfl ?_);refine VL (wpAny_setField_rec hz (by simp) fun g1 z1 e1=>?_);replace z1:IsZb g1 z TI TO .ellipsis b0:=z1;refine VL ?_;simp only[List.zipIdx_cons,List.zipIdx_nil,List.forIn_cons,List.forIn_nil];refine VL (VL (wpAny_onRaise ?_));show wpAny (model prog w) _ (Builtin.SmallTypes.nextOf (.ref i1) >>= _) _ _ _;have s1a:S1 k g1:=d1.frame _ _ _ s1 fun c hc o e=>e1.extBut _ _ (fun x=>D.b2 (x▸hc)) e;have s2a:S2 k g1:=d2.frame _ _ _ s2 fun c hc o e=>e1.extBut _ _ (fun x=>D.b3 (x▸hc)) e;refine VL (d1.item k _ _ _ l1 s1a fun x g2 tk2 p1 s1b e2=>VM ?_);have t2:IsPair g2 TO a b:=e2.extBut _ _ D.a8 (e1.extBut _ _ D.a2 hTO);refine VL (wpAny_seqItems t2 rfl ?_);refine VL (wpAny_updateSeq_pair t2 fun g3 t3 e3=>?_);replace t3:IsPair g3 TO x b:=t3;refine VL (wpAny_letGo (VM ?_));refine VL (VL (wpAny_onRaise ?_));show wpAny (model prog w) _ (Builtin.SmallTypes.nextOf (.ref i2) >>= _) _ _ _;have s2b:S2 k g3:=d2.frame _ _ _ s2a fun c hc o e=>e3.extBut _ _ (fun x=>D.b5 (x▸hc)) (e2.extBut _ _ (fun x=>D.b6 (x▸hc)) e);have s1c:S1 (k+1) g3:=d1.frame _ _ _ s1b fun c hc o e=>e3.extBut _ _ (fun x=>D.b4 (x▸hc)) e;refine VL (d2.item k _ _ _ l2 s2b fun y g4 tk4 p2 s2c e4=>VM ?_);have t4:IsPair g4 TO x b:=e4.extBut _ _ D.a9 t3;refine VL (wpAny_seqItems t4 rfl ?_);refine VL (wpAny_updateSeq_pair t4 fun g5 t5 e5=>?_);replace t5:IsPair g5 TO x y:=t5;refine VL (wpAny_letGo (VM (VM ?_)));refine VL (wpAny_seqItems t5 rfl ?_);refine VL (wpAny_newTuple ?_);have sz:g5.objs.size=s.heap.objs.size:=by rw[e5.1,e4.1,e3.1,e2.1,e1.1]
  have z5:IsZb g5 z TI TO .ellipsis b0:=e5.extBut _ _ D.a2.symm (e4.extBut _ _ D.a4.symm (e3.extBut _ _ D.a2.symm (e2.extBut _ _ D.a3.symm z1)));have kp:∀c o,c≠z->c≠TO->c≠i1->c≠i2->s.heap.get? c=some o->g5.get? c=some o:=fun c o c1 c2 c3 c4 e =>
   e5.extBut _ _ c2 (e4.extBut _ _ c4 (e3.extBut _ _ c2 (e2.extBut _ _ c3 (e1.extBut _ _ c1 e))))
  have s1d:S1 (k+1) g5:=d1.frame _ _ _ s1c fun c hc o e=>e5.extBut _ _ (fun x=>D.b4 (x▸hc)) (e4.extBut _ _ (fun x=>D.b7 (x▸hc)) e);have s2d:S2 (k+1) g5:=d2.frame _ _ _ s2c fun c hc o e=>e5.extBut _ _ (fun x=>D.b5 (x▸hc)) e;have zlt:z<g5.objs.size:=SQ z5;show wpAny (model prog w) _ (Builtin.SmallTypes.ownedTupleHandOut (.ref z) (.ref g5.objs.size) >>= _) _ _ _;refine VL ?_;unfold Builtin.SmallTypes.ownedTupleHandOut;have z6:IsZb (g5.push { cls:=.type "tuple",data:=.seq #[x,y] }) z TI TO .ellipsis b0:=VN _ z5;refine VL (wpAny_setField_rec z6 (by simp) fun g7 z7 e7=>?_);replace z7:IsZb g7 z TI TO (rawInt g5.objs.size) b0:=z7;refine wpAny_setField_rec z7 (by simp) fun g8 z8 e8=>?_;replace z8:IsZb g8 z TI TO (rawInt g5.objs.size) false:=z8;have up:∀c o,c≠z->g5.get? c=some o->g8.get? c=some o:=fun c o c1 e=>e8.extBut _ _ c1 (e7.extBut _ _ c1 (VN _ e));have t8:IsPair g8 g5.objs.size x y:=e8.extBut _ _ (Nat.ne_of_gt zlt) (e7.extBut _ _ (Nat.ne_of_gt zlt) (VT _ rfl));have sz8:g8.objs.size=g5.objs.size+1:=by rw[e8.1,e7.1,Heap.size_push]
  rw[sz]at z8 t8 sz8;refine VM ⟨_,rfl,?_⟩;show Q (.ref g5.objs.size) _;rw[sz];exact q x y g8 tk4 p1 p2 ⟨_,_,z8,.inr ⟨_,rfl⟩⟩ ⟨_,_,up _ _ D.a2 t5⟩ (fun _=>⟨z8,up _ _ D.a2 t5⟩) (up _ _ D.a1 (kp _ _ D.a1 D.a5 D.a6 D.a7 hTI)) (d1.frame _ _ _ s1d fun c hc o e=>up c o (fun x=>D.b2 (x▸hc)) e) (d2.frame _ _ _ s2d fun c hc o e=>up c o (fun x=>D.b3 (x▸hc)) e) t8 sz8
   fun c o c1 c2 c3 c4 e=>up c o c1 (kp c o c1 c2 c3 c4 e)
 ·simp only [Bool.false_eq_true,if_false];have s1a:S1 k h1:=d1.frame _ _ _ s1 fun c hc o e=>e0.extBut _ _ (fun x=>D.b2 (x▸hc)) e;have s2a:S2 k h1:=d2.frame _ _ _ s2 fun c hc o e=>e0.extBut _ _ (fun x=>D.b3 (x▸hc)) e;rw[<- Array.forIn_toList];simp only[List.forIn_cons,List.forIn_nil];refine VL (VL (VL (wpAny_holding ?_)));show wpAny (model prog w) _ (Builtin.SmallTypes.nextOf (.ref i1) >>= _) _ _ _;refine VL (d1.item k _ _ _ l1 s1a fun x g2 tk2 p1 s1b e2=>VM (VM ?_));dsimp only;refine VL (VL (wpAny_holding ?_));show wpAny (model prog w) _ (Builtin.SmallTypes.nextOf (.ref i2) >>= _) _ _ _;have s2b:S2 k g2:=d2.frame _ _ _ s2a fun c hc o e=>e2.extBut _ _ (fun x=>D.b6 (x▸hc)) e;refine VL (d2.item k _ _ _ l2 s2b fun y g4 tk4 p2 s2c e4=>VM (VM ?_));dsimp only;refine VM ?_;dsimp only;refine VL (wpAny_newTuple (hsz:=by show 2<=sizeLine;decide) ?_);have sz:g4.objs.size=s.heap.objs.size:=by rw[e4.1,e2.1,e0.1]
  have z4:IsZb g4 z TI TO f1 b1:=e4.extBut _ _ D.a4.symm (e2.extBut _ _ D.a3.symm hz1);have kp:∀c o,c≠z->c≠TO->c≠i1->c≠i2->s.heap.get? c=some o->g4.get? c=some o:=fun c o c1 c2 c3 c4 e=>e4.extBut _ _ c4 (e2.extBut _ _ c3 (e0.extBut _ _ c1 e));have up:∀c o,g4.get? c=some o->(g4.push { cls:=.type "tuple",data:=.seq #[x,y] }).get? c=some o:=fun c o e=>VN _ e;have s1c:S1 (k+1) g4:=d1.frame _ _ _ s1b fun c hc o e=>e4.extBut _ _ (fun x=>D.b7 (x▸hc)) e;have tO:IsPair g4 TO a b:=e4.extBut _ _ D.a9 (e2.extBut _ _ D.a8 (e0.extBut _ _ D.a2 hTO));refine VM ⟨_,rfl,?_⟩;show Q (.ref g4.objs.size) _;have t8:IsPair (g4.push { cls:=.type "tuple",data:=.seq #[x,y] }) g4.objs.size x y:=VT _ rfl;have sz8:(g4.push { cls:=.type "tuple",data:=.seq #[x,y] }).objs.size=g4.objs.size+1:=Heap.size_push ..;rw[sz]at t8 sz8;rw[sz];exact q x y _ tk4 p1 p2 ⟨_,_,up _ _ z4,.inr hf1⟩ ⟨_,_,up _ _ tO⟩ (fun h=>absurd h nf) (up _ _ (kp _ _ D.a1 D.a5 D.a6 D.a7 hTI)) (d1.frame _ _ _ s1c fun c hc o e=>up c o e) (d2.frame _ _ _ s2c fun c hc o e=>up c o e) t8 sz8 fun c o c1 c2 c3 c4 e=>up c o (kp c o c1 c2 c3 c4 e)
theorem Jby{A:VD}{E:VQ}{s:VP}{k:Nat}{Q:Fin->VP->Prop}(D:ZAp z TI TO i1 i2 f1 f2)(d1:Draws prog w A i1 f1 n1 P1 S1)(d2:Draws prog w A i2 f2 n2 P2 S2)(hk:k=n1\/(k<n1/\k=n2))
  (st:ZSb z TI TO i1 i2 S1 S2 k s.heap)
  (q:∀h' e tk,(∀c o,c≠z->c≠TO->c≠i1->c≠i2->s.heap.get? c=some o->h'.get? c=some o)->(∃o,h'.get? e=some o/\o.cls=.type "StopIteration")->E (.ref e) { s with heap:=h',toks:=tk }) :
  wpAny (model prog w) A (Builtin.«zip.__next__» ⟨[.ref z],[]⟩) Q E s:=by
 obtain⟨⟨f0,b0,hz,hf⟩,hTI,⟨a,b,hTO⟩,s1,s2⟩:=st;show wpAny (model prog w) _ (field (.ref z) 2 >>= _) _ _ _;refine VL (wpAny_field hz rfl (x:=.bool false) rfl ?_);show wpAny (model prog w) _ (field (.ref z) 3 >>= _) _ _ _;refine VL (wpAny_field hz rfl (x:=.ref TI) rfl ?_);refine VL (wpAny_seqItems hTI rfl ?_);show wpAny (model prog w) _ (Builtin.SmallTypes.ownedTupleIsFree (.ref z) >>= _) _ _ _;refine VL (Jat hz hf ?_ fun nf h1 f1 b1 hz1 hf1 e0=>?_)
 ·simp only [if_true];refine VL (wpAny_rule ?_);refine VL (wpAny_field hz rfl (x:=.ref TO) rfl ?_);refine VL (wpAny_setField_rec hz (by simp) fun g1 z1 e1=>?_);replace z1:IsZb g1 z TI TO .ellipsis b0:=z1;refine VL ?_;simp only[List.zipIdx_cons,List.zipIdx_nil,List.forIn_cons,List.forIn_nil];refine VL (VL (wpAny_onRaise ?_));show wpAny (model prog w) _ (Builtin.SmallTypes.nextOf (.ref i1) >>= _) _ _ _;have s1a:S1 k g1:=d1.frame _ _ _ s1 fun c hc o e=>e1.extBut _ _ (fun x=>D.b2 (x▸hc)) e;have s2a:S2 k g1:=d2.frame _ _ _ s2 fun c hc o e=>e1.extBut _ _ (fun x=>D.b3 (x▸hc)) e;rcases hk with rfl|⟨l1,rfl⟩
  ·refine VL (d1.done _ _ _ s1a fun g2 x e2 hx=>?_);obtain⟨ox,hox,hcx⟩:=hx;have z2:IsZb g2 z TI TO .ellipsis b0:=e2 _ _ D.a3.symm z1;have nz:x≠z:=fun r=>by subst r;rw[z2]at hox;cases hox;simp at hcx
   exact wpAny_setField_rec z2 (by simp) fun g3 _ e3=>q g3 x _ (fun c o c1 _ c3 _ y=>e3.extBut _ _ c1 (e2 _ _ c3 (e1.extBut _ _ c1 y))) ⟨ox,e3.extBut _ _ nz hox,hcx⟩
  ·refine VL (d1.item _ _ _ _ l1 s1a fun x g2 tk2 p1 s1b e2=>VM ?_);have t2:IsPair g2 TO a b:=e2.extBut _ _ D.a8 (e1.extBut _ _ D.a2 hTO);refine VL (wpAny_seqItems t2 rfl ?_);refine VL (wpAny_updateSeq_pair t2 fun g3 t3 e3=>?_);refine VL (wpAny_letGo (VM ?_));refine VL (VL (wpAny_onRaise ?_));show wpAny (model prog w) _ (Builtin.SmallTypes.nextOf (.ref i2) >>= _) _ _ _;have s2b:S2 k g3:=d2.frame _ _ _ s2a fun c hc o e=>e3.extBut _ _ (fun x=>D.b5 (x▸hc)) (e2.extBut _ _ (fun x=>D.b6 (x▸hc)) e);refine VL (d2.done _ _ _ s2b fun g4 y e4 hy=>?_);obtain⟨oy,hoy,hcy⟩:=hy;have z4:IsZb g4 z TI TO .ellipsis b0:=e4 _ _ D.a4.symm (e3.extBut _ _ D.a2.symm (e2.extBut _ _ D.a3.symm z1));have nz:y≠z:=fun r=>by subst r;rw[z4]at hoy;cases hoy;simp at hcy
   exact wpAny_setField_rec z4 (by simp) fun g5 _ e5=>q g5 y _ (fun c o c1 c2 c3 c4 r=>e5.extBut _ _ c1 (e4 _ _ c4 (e3.extBut _ _ c2 (e2.extBut _ _ c3 (e1.extBut _ _ c1 r))))) ⟨oy,e5.extBut _ _ nz hoy,hcy⟩
 ·simp only [Bool.false_eq_true,if_false];have s1a:S1 k h1:=d1.frame _ _ _ s1 fun c hc o e=>e0.extBut _ _ (fun x=>D.b2 (x▸hc)) e;have s2a:S2 k h1:=d2.frame _ _ _ s2 fun c hc o e=>e0.extBut _ _ (fun x=>D.b3 (x▸hc)) e;rw[<- Array.forIn_toList];simp only[List.forIn_cons,List.forIn_nil];refine VL (VL (VL (wpAny_holding ?_)));show wpAny (model prog w) _ (Builtin.SmallTypes.nextOf (.ref i1) >>= _) _ _ _;rcases hk with rfl|⟨l1,rfl⟩
  ·refine VL (d1.done _ _ _ s1a fun g2 x e2 hx=>?_);exact q g2 x _ (fun c o c1 _ c3 _ y=>e2 _ _ c3 (e0.extBut _ _ c1 y)) hx
  ·refine VL (d1.item _ _ _ _ l1 s1a fun x g2 tk2 p1 s1b e2=>VM (VM ?_));dsimp only;refine VL (VL (wpAny_holding ?_));show wpAny (model prog w) _ (Builtin.SmallTypes.nextOf (.ref i2) >>= _) _ _ _;have s2b:S2 k g2:=d2.frame _ _ _ s2a fun c hc o e=>e2.extBut _ _ (fun x=>D.b6 (x▸hc)) e;refine VL (d2.done _ _ _ s2b fun g4 y e4 hy=>?_);exact q g4 y _ (fun c o c1 c2 c3 c4 r=>e4 _ _ c4 (e2.extBut _ _ c3 (e0.extBut _ _ c1 r))) hy
theorem Jmp{A:VD}{E:VQ}{s:VP}{k:Nat}{Q:VQ}(D:ZAp z TI TO i1 i2 f1 f2)(d1:Draws prog w A i1 f1 n1 P1 S1)(d2:Draws prog w A i2 f2 n2 P2 S2)(l1:k<n1)(l2:k<n2)
  (st:ZSt z TI TO i1 i2 S1 S2 k s.heap)
  (q:∀ x y h' tk,P1 k x->P2 k y->IsZip h' z TI TO (rawInt s.heap.objs.size)->IsPair h' TO x y->IsPair h' TI (.ref i1) (.ref i2)->S1 (k + 1) h'->S2 (k + 1) h'->IsPair h' s.heap.objs.size x y->h'.objs.size=s.heap.objs.size + 1 ->
   (∀ c o,c≠z->c≠TO->c≠i1->c≠i2->s.heap.get? c=some o->h'.get? c=some o)->Q (.ref s.heap.objs.size) { s with heap:=h',toks:=tk }) :
  wpAny (model prog w) A (Builtin.«zip.__next__» ⟨[.ref z],[]⟩) (fun fin t=>∃v,fin=.done (.ret v)/\Q v t) E s:=by
 obtain⟨hz,hTI,hTO,s1,s2⟩:=st;exact Jbz D d1 d2 l1 l2 (f0:=.none) (b0:=false) hz (.inl rfl) hTI hTO s1 s2 fun x y h' tk c1 c2 _ _ c4=>q x y h' tk c1 c2 (c4 rfl).1 (c4 rfl).2
theorem Jmo{A:VD}{E:VQ}{s:VP}{k:Nat}{Q:Fin->VP->Prop}(D:ZAp z TI TO i1 i2 f1 f2)(d1:Draws prog w A i1 f1 n1 P1 S1)(d2:Draws prog w A i2 f2 n2 P2 S2)(hk:k=n1\/(k<n1/\k=n2))
  (st:ZSt z TI TO i1 i2 S1 S2 k s.heap)
  (q:∀h' e tk,(∀c o,c≠z->c≠TO->c≠i1->c≠i2->s.heap.get? c=some o->h'.get? c=some o)->(∃o,h'.get? e=some o/\o.cls=.type "StopIteration")->E (.ref e) { s with heap:=h',toks:=tk }) :
  wpAny (model prog w) A (Builtin.«zip.__next__» ⟨[.ref z],[]⟩) Q E s:=by
 obtain⟨hz,hTI,hTO,s1,s2⟩:=st;exact Jby D d1 d2 hk ⟨⟨_,false,hz,.inl rfl⟩,hTI,hTO,s1,s2⟩ q
theorem Jgo{A:VD}{E:VQ}{s:VP}{k:Nat}{Q:VH->VP->Prop}(D:ZAp z TI TO i1 i2 f1 f2)(d1:Draws prog w A.in1 i1 f1 n1 P1 S1)(d2:Draws prog w A.in1 i2 f2 n2 P2 S2)(l1:k<n1)(l2:k<n2)
  (st:ZSt z TI TO i1 i2 S1 S2 k s.heap)
  (q:∀ x y h' tk,P1 k x->P2 k y->IsZip h' z TI TO (rawInt s.heap.objs.size)->IsPair h' TO x y->IsPair h' TI (.ref i1) (.ref i2)->S1 (k + 1) h'->S2 (k + 1) h'->IsPair h' s.heap.objs.size x y->h'.objs.size=s.heap.objs.size + 1 ->
   (∀ c o,c≠z->c≠TO->c≠i1->c≠i2->s.heap.get? c=some o->h'.get? c=some o)->Q (some (.ref s.heap.objs.size)) { s with heap:=h',toks:=tk }) :
  wpAny (model prog w) A (pyNext (.ref z)) Q E s:=by
 have hT:s.TypeIs (.ref z) "zip":=⟨_,st.1,rfl⟩;unfold pyNext;exact VL (wpAny_attempt (wpAny_callSpecial?_slot (name:=Str.ofString "__next__") hT F.slot_zip_next
  (wpAny_call_entry F.slot_zip_next hT F.entry_zip_next
   (Jmp D d1 d2 l1 l2 st fun x y h' tk c1 c2 c3 c4 c5 c6 c7 c8 c9 c10=>VM (q x y h' tk c1 c2 c3 c4 c5 c6 c7 c8 c9 c10)) (F.args_zip_next_1 _))))
theorem Jag{A:VD}{E:VQ}{s:VP}{k:Nat}{Q:VH->VP->Prop}(D:ZAp z TI TO i1 i2 f1 f2)(d1:Draws prog w A.in1 i1 f1 n1 P1 S1)(d2:Draws prog w A.in1 i2 f2 n2 P2 S2)
  (hk:k=n1\/(k<n1/\k=n2)) (st:ZSt z TI TO i1 i2 S1 S2 k s.heap)
  (q:∀h' tk,(∀c o,c≠z->c≠TO->c≠i1->c≠i2->s.heap.get? c=some o->h'.get? c=some o)->Q none { s with heap:=h',toks:=tk }):wpAny (model prog w) A (pyNext (.ref z)) Q E s:=by
 have hT:s.TypeIs (.ref z) "zip":=⟨_,st.1,rfl⟩;unfold pyNext;refine VL (wpAny_attempt (wpAny_callSpecial?_slot (name:=Str.ofString "__next__") hT F.slot_zip_next
  (wpAny_call_entry F.slot_zip_next hT F.entry_zip_next (Jmo D d1 d2 hk st fun h' e tk kp he=>?_) (F.args_zip_next_1 _))))
 obtain⟨o,ho,hc⟩:=he;refine VL (wpAny_isInstance (T:="StopIteration") (b:=true) ⟨o,ho,hc⟩ isSubtype_stop ?_);exact VM (q _ _ kp)
end
abbrev zpa(h:Heap)(l1:VB):Heap:=h.push { cls:=.type "tuple_iterator",data:=.fields #[.ref l1,.int 0 0] }
abbrev zpb(h:Heap)(l1 l2:VB):Heap:=(zpa h l1).push { cls:=.type "tuple_iterator",data:=.fields #[.ref l2,.int 0 0] }
abbrev zpc(h:Heap)(l1 l2:VB):Heap:=(zpb h l1 l2).push { cls:=.type "tuple",data:=.seq #[.ref h.objs.size,.ref (zpa h l1).objs.size] }
abbrev zpd(h:Heap)(l1 l2:VB):Heap:=(zpc h l1 l2).push { cls:=.type "tuple",data:=.seq #[.none,.none] }
abbrev zpe(h:Heap)(l1 l2:VB):Heap:=(zpd h l1 l2).push { cls:=.type "zip",data:=.fields #[.none,.bool false,.bool false,.ref (zpb h l1 l2).objs.size,.ref (zpc h l1 l2).objs.size] }
theorem Jdd(l1 l2:VB)(xs ys:Array VR) :
  Meets (Builtin.«zip.__new__» ⟨[.type "zip",.ref l1,.ref l2],[]⟩) (fun _ R s=>s.heap.IsTuple l1 xs/\s.heap.IsTuple l2 ys /\
   R (.ok (.ret (.ref (zpd s.heap l1 l2).objs.size))) { s with heap:=zpe s.heap l1 l2 }) :=
 .of_wp fun prog w A R s h=>by obtain⟨hp,g,d,tk,os⟩:=s;obtain⟨t1,t2,h⟩:=h;have f0:=sub_zip;have T1:Heap.IsTuple (Shared.heap ⟨hp,g,d,tk,os⟩) l1 xs:=t1;have T2:Heap.IsTuple (Shared.heap ⟨hp.push { cls:=.type "tuple_iterator",data:=.fields #[.ref l1,.int 0 0] },g,d,tk,os⟩) l2 ys:=Heap.IsTuple.push t2 _;wp_walk using wpAny_pyIter_tuple T1,wpAny_pyIter_tuple T2;exact⟨_,rfl,h⟩
theorem Uw{prog:VC}{w:VF}{A:VD}{E:VQ}{s:VP}{l1 l2:VB}{xs ys:Array VR}{Q:VQ}(h1:s.heap.IsTuple l1 xs)(h2:s.heap.IsTuple l2 ys)
  (q:∀ h',IsZip h' (s.heap.objs.size + 4) (s.heap.objs.size + 2) (s.heap.objs.size + 3) .none->IsPair h' (s.heap.objs.size + 2) (.ref s.heap.objs.size) (.ref (s.heap.objs.size + 1)) ->
   IsPair h' (s.heap.objs.size+3) .none .none->h'.IsTupleIter s.heap.objs.size l1 0->h'.IsTupleIter (s.heap.objs.size+1) l2 0 ->
   (∀ c o,s.heap.get? c=some o->h'.get? c=some o)->Q (.ref (s.heap.objs.size + 4)) { s with heap:=h' }) :
  wpAny (model prog w) A (call (.type "zip") [.ref l1,.ref l2]) Q E s:=by
 refine callType_new F.called_zip (by decide) (F.typeCall_zip_2 _ _) (F.newCall_zip_2 _ _) (fun obj=>F.args_object_init_3 obj _ _) F.entry_zip_new
  (Jdd l1 l2 xs ys) ⟨h1,h2,?_⟩
 have z1:(zpa s.heap l1).objs.size=s.heap.objs.size+1:=Heap.size_push ..;have z2:(zpb s.heap l1 l2).objs.size=s.heap.objs.size+2:=by rw[Heap.size_push,z1]
 have z3:(zpc s.heap l1 l2).objs.size=s.heap.objs.size+3:=by rw[Heap.size_push,z2]
 have z4:(zpd s.heap l1 l2).objs.size=s.heap.objs.size+4:=by rw[Heap.size_push,z3]
 have k5:(zpe s.heap l1 l2).get? (zpd s.heap l1 l2).objs.size=some _:=VT _ rfl;have k4:(zpe s.heap l1 l2).get? (zpc s.heap l1 l2).objs.size=some _:=VN _ (VT _ rfl);have k3:(zpe s.heap l1 l2).get? (zpb s.heap l1 l2).objs.size=some _:=VN _ (VN _ (VT _ rfl));have k2:(zpe s.heap l1 l2).get? (zpa s.heap l1).objs.size=some _:=VN _ (VN _ (VN _ (VT _ rfl)));have k1:(zpe s.heap l1 l2).get? s.heap.objs.size=some _:=VN _ (VN _ (VN _ (VN _ (VT _ rfl))));show _/\_;rw[z2,z3,z4]at k5;rw[z1,z2]at k3;rw[z3]at k4;rw[z1]at k2;rw[z4];exact ⟨⟨_,k5,rfl⟩,q _ k5 k3 k4 ⟨_,k1,rfl,rfl⟩ ⟨_,k2,rfl,rfl⟩ fun c o x =>
  VN _ (VN _ (VN _ (VN _ (VN _ x))))⟩
end L2
namespace L2
open PySem PySem.Spec PyProof.Rows
theorem Jgm:bootBuiltins "zip"=some (.type "zip"):=by decide +kernel
theorem nne(n a b:Nat)(h:a≠b):n+a≠n+b:=by omega
theorem nne0(n b:Nat)(h:0<b):n≠n+b:=by omega
theorem Jde{x y:V}{us:VU}(r:Vals [x,y] us):∃u v,us=[u,v]/\RelV x u/\RelV y v:=by
 cases r with
 | cons p q =>
  cases q with
  | cons p' q' =>
   cases q';exact⟨_,_,rfl,p,p'⟩
section
variable{X:Cx}{pins:VW}{σ:St}{H:Hp}{s:VP}{h':Heap}
theorem Inv.turnedL{t':Nat}{l:List VB}(I:Inv X pins σ H s)(k:∀b o,b∉l->s.heap.get? b=some o->h'.get? b=some o)(hf:∀b∈l,FpOk X pins H b):Inv X pins σ H { s with heap:=h',toks:=t' }:=by
 have nl:∀b u,H b=some u->b∉l:=fun b u e z=>by rw[(hf b z).1]at e;cases e
 refine I.step (g':=s.gens) (d':=s.drawn) (ch:=l) (fun b hb=>⟨(hf b hb).2.2.2.1,(hf b hb).2.1,(hf b hb).2.2.2.2.1,(hf b hb).2.2.2.2.2⟩) (fun b o _ _ hc e _=>k b o hc e) (fun b o _ _ hc e _=>⟨o.slots,k b o hc e⟩) (fun _ _ _ _ n=>n)
  (fun b o hc e=>⟨o,k b o hc e⟩) (fun _ _ e=>e) (fun _ _ _ e=>e) (fun b ps e=>⟨#[],by rw[e];simp⟩) (fun m hm=>?_) (fun b u e=>?_) I.bare
 ·obtain ⟨o,es,ep,ho,r⟩:=hm;exact⟨o,es,ep,k _ o (fun z=>(hf _ z).2.1 rfl) ho,r⟩
 ·refine (I.hok b u e).stay (fun c v hc q=>k c v ?_ q) (fun _ q=>q) fun _ _ q=>q;rcases hc with z|z
  ·rw [z]; exact nl b u e
  ·exact nl c _ z
theorem Inv.adopt{p:VB}{o:HO}(I:Inv X pins σ H s)(hf:FpOk X pins H p)(new:ObjOk X.prog X.w (upd H p o) s.heap p o):Inv X pins σ (upd H p o) s:=by
 have e0:({ s with heap:=s.heap,gens:=s.gens,drawn:=s.drawn,toks:=s.toks }:VP)=s:=rfl;rw[<- e0];refine I.step (H':=upd H p o) (h':=s.heap) (g':=s.gens) (d':=s.drawn) (t':=s.toks) (ch:=[p]) (fun b hb=>?_) (fun b u _ _ _ e _=>e) (fun b u _ _ _ e _=>⟨u.slots,e⟩) (fun b u hc e n=>?_) (fun b u _ e=>⟨u,e⟩)
  (fun b xs e=>?_) (fun b u v e=>?_) (fun b ps e=>⟨#[],?_⟩) (fun m hm=>hm) (fun b u e=>?_) I.bare
 ·rw [List.mem_singleton] at hb;subst hb;exact⟨hf.2.2.2.1,hf.2.1,hf.2.2.2.2.1,hf.2.2.2.2.2⟩
 ·rw [Jj fun z=>hc (by rw [z]; exact List.mem_singleton_self _)];exact n
 ·rw [Jj (Jg e hf.1)]; exact e
 ·rw [Jj (Jg e hf.1)]; exact e
 ·rw [Jj (Jg e hf.1),e]; simp
 ·by_cases hb:b=p
  ·subst hb;rw[Jc]at e;cases e;exact new
  ·rw [Jj hb] at e;exact(I.hok b u e).stay (fun c v hc q=>q) (fun c q=>by rw[Jj (Jg q hf.1)];exact q) fun c xs q=>by rw[Jj (Jg q hf.1)];exact q
end
def Itz (a b:VB):It:=⟨fun i H=>∃ xs ys,H a=some (.tup xs)/\H b=some (.tup ys)/\i < xs.length/\i < ys.length,
 fun i H x H'=>∃p v w,x=.ref p/\H p=none/\H'=upd H p (.tup [v,w])/\∀xs ys,H a=some (.tup xs)->H b=some (.tup ys)->xs[i]?=some v/\ys[i]?=some w,
 fun i H=>∃ xs ys,H a=some (.tup xs)/\H b=some (.tup ys)/\(i=xs.length\/(i < xs.length/\i=ys.length))⟩
theorem Jmu{P:VC}{w:VF}{K:VG}{es:List Expr}{kt:Nat}{tp:Pos}(a b z TI TO i1 i2:VB)(d1:TI≠z)(d2:TO≠z)(d3:i1≠z)(d4:i2≠z)(d5:TI≠TO)(d6:TI≠i1)(d7:TI≠i2)(d8:TO≠i1)(d9:TO≠i2)(d0:i1≠i2) :
  Turn P w K (.Tuple es kt tp) (Itz a b) [z,TI,TO,i1,i2] z (fun i h=>IsZip h z TI TO .none/\IsPair h TI (.ref i1) (.ref i2)/\(∃x y,IsPair h TO x y)/\h.IsTupleIter i1 a i/\h.IsTupleIter i2 b i) where
 mem:=by simp
 obj:=fun i h st c hc=>by
  obtain⟨s1,s2,⟨x,y,s3⟩,⟨o4,s4,_,q4⟩,⟨o5,s5,_,q5⟩⟩:=st;simp only[List.mem_cons,List.not_mem_nil,or_false]at hc;rcases hc with rfl|rfl|rfl|rfl|rfl
  ·exact ⟨_,s1,fun v=>by intro q; cases q⟩
  ·exact ⟨_,s2,fun v=>by intro q; cases q⟩
  ·exact ⟨_,s3,fun v=>by intro q; cases q⟩
  ·exact ⟨_,s4,fun v=>by intro q; rw [q4] at q; cases q⟩
  ·exact ⟨_,s5,fun v=>by intro q; rw [q5] at q; cases q⟩
 keep:=fun i h h' st kp=>by obtain⟨s1,s2,⟨x,y,s3⟩,⟨o4,s4,r4⟩,⟨o5,s5,r5⟩⟩:=st;exact⟨kp z (by simp) _ s1,kp TI (by simp) _ s2,⟨x,y,kp TO (by simp) _ s3⟩,⟨o4,kp i1 (by simp) _ s4,r4⟩,⟨o5,kp i2 (by simp) _ s5,r5⟩⟩
 item:=by
  intro X hP hw hK hc i pins s σ H E I hf st hg;subst hP hw hK;obtain⟨xs,ys,ha,hb,l1,l2⟩:=hg;obtain⟨s1,s2,s3,s4,s5⟩:=st;have nf:∀{c:VB}{o:HO},H c=some o->∀e∈[z,TI,TO,i1,i2],c≠e:=fun hcc e he q=>by rw[q,(hf e he).1]at hcc;cases hcc
  obtain⟨its,r1,t1,_⟩:=I.tuple (SqT.of ha);obtain⟨its2,r2,t2,_⟩:=I.tuple (SqT.of hb);have D:ZAp z TI TO i1 i2 [i1,a] [i2,b]:=by
   refine⟨d1,d2,d3,d4,d5,d6,d7,d8,d9,d0,?_,?_,?_,?_,?_,?_⟩<;>simp only[List.mem_cons,List.not_mem_nil,or_false,not_or]
   ·exact ⟨d3.symm,(nf ha z (by simp)).symm⟩
   ·exact ⟨d4.symm,(nf hb z (by simp)).symm⟩
   ·exact ⟨d8,(nf ha TO (by simp)).symm⟩
   ·exact ⟨d9,(nf hb TO (by simp)).symm⟩
   ·exact ⟨d0,(nf hb i1 (by simp)).symm⟩
   ·exact ⟨d0.symm,(nf ha i2 (by simp)).symm⟩
  have hh:X.A.in1.handled=none:=I.ok.hd hc;have e1:its.toArray.size=xs.length:=by rw[List.size_toArray,<- r1.length]
  have e2:its2.toArray.size=ys.length:=by rw[List.size_toArray,<- r2.length]
  refine Jgo D (Yg hh i1 a (nf ha i1 (by simp)) its.toArray) (Yg hh i2 b (nf hb i2 (by simp)) its2.toArray) (by omega) (by omega) ⟨s1,s2,s3,⟨s4,t1⟩,⟨s5,t2⟩⟩ fun x y g tk p1 p2 z1 z2 z3 z4 z5 z6 z7 kp=>⟨_,rfl,?_⟩;have p1:its[i]?=some x:=by simpa using p1
  have p2:its2[i]?=some y:=by simpa using p2
  obtain⟨vx,hx⟩:∃v,xs[i]?=some v:=⟨xs[i],by simp[l1]⟩;obtain⟨vy,hy⟩:∃v,ys[i]?=some v:=⟨ys[i],by simp[l2]⟩;obtain⟨x',q1,rx⟩:=r1.get hx;rw[p1]at q1;cases q1;obtain⟨y',q2,ry⟩:=r2.get hy;rw[p2]at q2;cases q2;refine wpAny_letOwnedTupleGo_zip z1 fun g2 zz hs=>?_;have fr:H s.heap.objs.size=none:=I.hok.fresh (SJ _);have I1:Inv X pins σ H { s with heap:=g2,toks:=tk }:=I.turnedL (l:=[z,TO,i1,i2]) (t':=tk) (fun c o hc e=>by
   simp only[List.mem_cons,List.not_mem_nil,or_false,not_or]at hc
   exact hs.extBut _ _ hc.1 (kp c o hc.1 hc.2.1 hc.2.2.1 hc.2.2.2 e)) fun c hc=>hf c (by
    simp only[List.mem_cons,List.not_mem_nil,or_false]at hc ⊢
    rcases hc with h | h | h | h <;> simp [h])
  have fp:=I.fpOk (H':=H) (SJ _) fr;have nz:∀e∈[z,TI,TO,i1,i2],e≠s.heap.objs.size:=fun e he q=>by
   obtain⟨o,ho⟩:∃o,s.heap.get? e=some o:=by
    obtain⟨x3,y3,s3⟩:=s3;obtain⟨o4,s4,_⟩:=s4;obtain⟨o5,s5,_⟩:=s5;simp only[List.mem_cons,List.not_mem_nil,or_false]at he;rcases he with rfl|rfl|rfl|rfl|rfl
    ·exact ⟨_,s1⟩
    ·exact ⟨_,s2⟩
    ·exact ⟨_,s3⟩
    ·exact ⟨_,s4⟩
    ·exact ⟨_,s5⟩
   exact absurd (SQ ho) (by rw[q];exact SW _)
  have at2:g2.get? s.heap.objs.size=some { cls:=.type "tuple",data:=.seq #[x,y] }:=hs.extBut _ _ (nz z (by simp)).symm z6;refine ⟨.ref s.heap.objs.size,upd H s.heap.objs.size (.tup [vx,vy]),I1.adopt fp ⟨?_,[x,y],.cons rx (.cons ry .nil),⟨_,at2,rfl,_,rfl⟩⟩,rfl,⟨_,vx,vy,rfl,fr,rfl,fun xs' ys' q1 q2=>?_⟩,
   ⟨zz,hs.extBut _ _ d1 z3,⟨_,_,hs.extBut _ _ d2 z2⟩,z4.1.extBut hs.extBut d3,z5.1.extBut hs.extBut d4⟩,fun c hc=>?_⟩
  ·show 2<=sizeLine;decide
  ·rw [ha] at q1; cases q1;rw[hb]at q2;cases q2;exact⟨hx,hy⟩
  ·rw [Jj (nz c hc)];exact(hf c hc).1
 done:=by
  intro X hP hw hK hc i pins s σ H E I hf st hg;subst hP hw hK;obtain⟨xs,ys,ha,hb,hl⟩:=hg;obtain⟨s1,s2,s3,s4,s5⟩:=st;have nf:∀{c:VB}{o:HO},H c=some o->∀e∈[z,TI,TO,i1,i2],c≠e:=fun hcc e he q=>by rw[q,(hf e he).1]at hcc;cases hcc
  obtain⟨its,r1,t1,_⟩:=I.tuple (SqT.of ha);obtain⟨its2,r2,t2,_⟩:=I.tuple (SqT.of hb);have D:ZAp z TI TO i1 i2 [i1,a] [i2,b]:=by
   refine⟨d1,d2,d3,d4,d5,d6,d7,d8,d9,d0,?_,?_,?_,?_,?_,?_⟩<;>simp only[List.mem_cons,List.not_mem_nil,or_false,not_or]
   ·exact ⟨d3.symm,(nf ha z (by simp)).symm⟩
   ·exact ⟨d4.symm,(nf hb z (by simp)).symm⟩
   ·exact ⟨d8,(nf ha TO (by simp)).symm⟩
   ·exact ⟨d9,(nf hb TO (by simp)).symm⟩
   ·exact ⟨d0,(nf hb i1 (by simp)).symm⟩
   ·exact ⟨d0.symm,(nf ha i2 (by simp)).symm⟩
  have hh:X.A.in1.handled=none:=I.ok.hd hc;have e1:its.toArray.size=xs.length:=by rw[List.size_toArray,<- r1.length]
  have e2:its2.toArray.size=ys.length:=by rw[List.size_toArray,<- r2.length]
  refine Jag D (Yg hh i1 a (nf ha i1 (by simp)) its.toArray) (Yg hh i2 b (nf hb i2 (by simp)) its2.toArray) (by rcases hl with h|⟨h,h2⟩<;>omega) ⟨s1,s2,s3,⟨s4,t1⟩,⟨s5,t2⟩⟩ fun g tk kp=>⟨rfl,?_⟩;exact I.turnedL (l:=[z,TO,i1,i2]) (t':=tk) (fun c o hc e=>by
   simp only[List.mem_cons,List.not_mem_nil,or_false,not_or]at hc
   exact kp c o hc.1 hc.2.1 hc.2.2.1 hc.2.2.2 e) fun c hc=>hf c (by
    simp only[List.mem_cons,List.not_mem_nil,or_false]at hc ⊢
    rcases hc with h | h | h | h <;> simp [h])
 self:=fun _ _ _ _ _ st h=>wpAny_pyIter_zip st.1 h
section
variable{X:Cx}{es:List Expr}{kt:Nat}{tp:Pos}
def iZip(ta:TA):TI:=fun σ H R=>ta σ H fun vs H1=>∃a b xs ys,vs=[.ref a,.ref b]/\H1 a=some (.tup xs)/\H1 b=some (.tup ys)/\R (Itz a b) H1
theorem Jum{a b:Expr}{ta:TA}{p pos:Pos}(hg:Gl X "zip")(hm:X.mg "zip"=none)(ha:PA X [a,b] ta)(hs:starEach [a,b] X.env=[(false,eval a X.env),(false,eval b X.env)]:=by rfl)(hs2:starEach [b] X.env=[(false,eval b X.env)]:=by rfl) :
  PI X (.Tuple es kt tp) (.Call (.Name "zip" p) [a,b] [] pos) (iZip ta):=by
 intro pins s σ H R I h;refine Call_ (Zk I hg hm Jgm (PyProof.Rows.callWith_type1 (thn (ha pos pins s σ H _ I h) fun us s1 h1=>?_) (by rw[hs,hs2]) (by rw[hs2];rfl)));obtain⟨vs,H1,I1,r1,a,b,xs,ys,e,ha,hb,q⟩:=h1;subst e;obtain⟨u,v,rfl,ru,rv⟩:=Jde r1;cases ru;cases rv;obtain⟨its,_,t1,_⟩:=I1.tuple (SqT.of ha);obtain⟨its2,_,t2,_⟩:=I1.tuple (SqT.of hb);refine Uw t1 t2 fun h' z1 z2 z3 z4 z5 kp=>wpAny_pyIter_zip z1 ?_;have I2:Inv X pins σ H1 { s1 with heap:=h' }:=I1.kept (t':=s1.toks) kp;have fr:∀k:Nat,H1 (s1.heap.objs.size+k)=none:=fun k=>I1.hok.fresh (Nat.le_add_right _ _);refine ⟨s1.heap.objs.size + 4,_,_,Itz a b,H1,rfl,I2,Jmu a b (s1.heap.objs.size + 4) (s1.heap.objs.size + 2) (s1.heap.objs.size + 3) s1.heap.objs.size (s1.heap.objs.size + 1)
  (nne _ 2 4 (by decide)) (nne _ 3 4 (by decide)) (nne0 _ 4 (by decide)) (nne _ 1 4 (by decide)) (nne _ 2 3 (by decide)) (nne0 _ 2 (by decide)).symm (nne _ 2 1 (by decide)) (nne0 _ 3 (by decide)).symm (nne _ 3 1 (by decide)) (nne0 _ 1 (by decide)),⟨z1,z2,⟨_,_,z3⟩,z4,z5⟩,fun c hc=>?_,q⟩
 simp only[List.mem_cons,List.not_mem_nil,or_false]at hc;rcases hc with rfl|rfl|rfl|rfl|rfl
 ·exact I1.fpOk (Nat.le_add_right _ _) (fr 4)
 ·exact I1.fpOk (Nat.le_add_right _ _) (fr 2)
 ·exact I1.fpOk (Nat.le_add_right _ _) (fr 3)
 ·exact I1.fpOk (SJ _) (fr 0)
 ·exact I1.fpOk (Nat.le_add_right _ _) (fr 1)
end
theorem Same.upd{H:Hp}{p:VB}{o:HO}(h:H p=none):Same H (upd H p o):=fun b u e=>by rw[Jj (Jg e h)];exact e
def SameBut(p:VB)(H H':Hp):Prop:=∀b o,b≠p->H b=some o->H' b=some o
theorem Same.but{p:VB}{H H':Hp}(h:Same H H'):SameBut p H H':=fun b o _ e=>h b o e
theorem SameBut.refl(p:VB)(H:Hp):SameBut p H H:=fun _ _ _ e=>e
theorem SameBut.trans{p:VB}{H H1 H2:Hp}(a:SameBut p H H1)(b:SameBut p H1 H2):SameBut p H H2:=fun c o n e=>b c o n (a c o n e)
theorem SameBut.upd{p:VB}{H:Hp}{o:HO}:SameBut p H (upd H p o):=fun b u n e=>by rw[Jj n];exact e
section
variable{X:Cx}
theorem Yc(hc:X.calm=true):Yd X (.builtin "all") (fun xs H Q=>∃(p:VB)(bs:List Bool),xs=[.ref p]/\SqL X.K H p (bs.map V.bl)/\Q (.bl (bs.all id)) H):=by
 intro pins s σ H xs us Q I r h;obtain⟨p,bs,rfl,hq,q⟩:=h;obtain⟨u,rfl,ru⟩:=Ym r;cases ru;obtain⟨its,rv,pl,hz⟩:=I.list hq;have hlen:its.toArray.size=bs.length:=by rw[List.size_toArray,<- rv.length,List.length_map]
 have hne:p≠s.heap.objs.size:=by obtain⟨o,n,e,_⟩:=pl;exact SF (SQ e)
 refine call_all_walk (wpAny_pyIter_list pl.isList ?_);refine⟨s.heap.objs.size,_,_,its.toArray.size,_,_,fun i=>bs.getD i false,rfl,Walks.list (A:=X.A.in1) (I.ok.hd hc) s.heap.objs.size p hne its.toArray,⟨⟨_,VT _ rfl,rfl,rfl⟩,pl.isList.push _⟩,fun i v t Q' E' hv hQ'=>?_,fun h' tk kp=>?_⟩
 ·have hv:its[i]?=some v:=by simpa using hv
  have hi:i<bs.length:=by have:=(SY.mp hv).1;rw[<- rv.length,List.length_map]at this;exact this
  obtain⟨u,e1,e2⟩:=rv.get (i:=i) (x:=V.bl bs[i]) (by simp[hi]);rw[hv]at e1;cases e1;have e2:v=Value.bool bs[i]:=e2;subst e2;have e3:bs.getD i false=bs[i]:=by simp[hi]
  rw[<- e3];exact wpAny_truthy_bool hQ'
 ·have e:(List.range its.toArray.size).all (fun i=>bs.getD i false)=bs.all id:=by
   rw[hlen,Bool.eq_iff_iff,List.all_eq_true,List.all_eq_true];constructor
   ·intro h b hb;obtain⟨i,hi,rfl⟩:=List.mem_iff_getElem.mp hb;have:=h i (by simpa using hi);simpa [hi]using this
   ·intro h i hi;have hi:i<bs.length:=by simpa using hi
    have:=h bs[i] (LV hi);simpa [hi]using this
  rw[e];exact ⟨.bl (bs.all id),H,I.kept (t':=tk) fun b o eb=>kp b o (fun z=>by
   have z:b=s.heap.objs.size:=by simpa using z
   exact absurd (SQ eb) (by rw [z]; exact SW _)) (VN _ eb),rfl,q⟩
theorem WX(hc:X.calm=true):Yd X (.builtin "any") (fun xs H Q=>∃(p:VB)(bs:List Bool),xs=[.ref p]/\SqL X.K H p (bs.map V.bl)/\Q (.bl (bs.any id)) H):=by
 intro pins s σ H xs us Q I r h;obtain⟨p,bs,rfl,hq,q⟩:=h;obtain⟨u,rfl,ru⟩:=Ym r;cases ru;obtain⟨its,rv,pl,hz⟩:=I.list hq;have hlen:its.toArray.size=bs.length:=by rw[List.size_toArray,<- rv.length,List.length_map]
 have hne:p≠s.heap.objs.size:=by obtain⟨o,n,e,_⟩:=pl;exact SF (SQ e)
 refine call_any_walk (wpAny_pyIter_list pl.isList ?_);refine⟨s.heap.objs.size,_,_,its.toArray.size,_,_,fun i=>bs.getD i false,rfl,Walks.list (A:=X.A.in1) (I.ok.hd hc) s.heap.objs.size p hne its.toArray,⟨⟨_,VT _ rfl,rfl,rfl⟩,pl.isList.push _⟩,fun i v t Q' E' hv hQ'=>?_,fun h' tk kp=>?_⟩
 ·have hv:its[i]?=some v:=by simpa using hv
  have hi:i<bs.length:=by have:=(SY.mp hv).1;rw[<- rv.length,List.length_map]at this;exact this
  obtain⟨u,e1,e2⟩:=rv.get (i:=i) (x:=V.bl bs[i]) (by simp[hi]);rw[hv]at e1;cases e1;have e2:v=Value.bool bs[i]:=e2;subst e2;have e3:bs.getD i false=bs[i]:=by simp[hi]
  rw[<- e3];exact wpAny_truthy_bool hQ'
 ·have e:(List.range its.toArray.size).any (fun i=>bs.getD i false)=bs.any id:=by
   rw[hlen,Bool.eq_iff_iff,List.any_eq_true,List.any_eq_true];constructor
   ·rintro ⟨i,hi,h⟩;have hi:i<bs.length:=by simpa using hi
    exact⟨bs[i],LV hi,by simpa [hi]using h⟩
   ·rintro ⟨b,hb,h⟩;obtain⟨i,hi,rfl⟩:=List.mem_iff_getElem.mp hb;exact⟨i,by simpa using hi,by simpa [hi]using h⟩
  rw[e];exact ⟨.bl (bs.any id),H,I.kept (t':=tk) fun b o eb=>kp b o (fun z=>by
   have z:b=s.heap.objs.size:=by simpa using z
   exact absurd (SQ eb) (by rw [z]; exact SW _)) (VN _ eb),rfl,q⟩
theorem Jgl:Yd X (.builtin "isinstance") (fun xs H Q=>∃x T t b,xs=[x,.ty T]/\TyOf X.K H x t/\PySem.W.kitOne X.K t (.type T)=some b/\Q (.bl b) H):=by intro pins s σ H xs us Q I r h;obtain⟨x,T,t,b,rfl,ty,e,q⟩:=h;obtain⟨u,v,rfl,ru,rv⟩:=Jmr r;have rv:v=Value.type T:=rv;subst rv;exact Jlw I ru ty e fun tk=>⟨.bl b,H,I.tok tk,rfl,q⟩
def Juh(K:VG):R2:=fun x y H Q=>∃a b xs,x=.ref a/\y=.ref b/\SqL K H a xs/\SqL K H b []/\Q (.bl xs.isEmpty) H
def Jug(K:VG):R2:=fun x y H Q=>∃a b xs,x=.ref a/\y=.ref b/\SqL K H a xs/\SqL K H b []/\Q (.bl (!xs.isEmpty)) H
theorem WO(hu:X.A.units<cLine):OpR X (compareOp .Eq) (Juh X.K):=by
 intro pins s σ H x y v u Q I rx ry h;obtain⟨a,b,xs,rfl,rfl,ha,hb,q⟩:=h;cases rx;cases ry;obtain⟨its,r1,p1,_⟩:=I.list ha;obtain⟨its2,r2,p2,_⟩:=I.list hb;cases r2;by_cases hx:xs=[]
 ·subst hx;cases r1;exact SeqAt.eq_listAt (e:=fun _=>true) p1.isList p2.isList rfl hu (fun j h1 _=>absurd h1 (by simp)) ⟨.bl true,H,I,by simp;rfl,q⟩
 ·have e:xs.isEmpty=false:=by cases xs with
   | nil=>exact absurd rfl hx
   | cons _ _=>rfl
  rw[e]at q;refine SeqAt.eq_list_lengthsAt p1.isList p2.isList ?_ hu ⟨.bl false,H,I,rfl,q⟩;have h0:its.length≠0:=by rw[<- r1.length];exact fun z=>hx (List.length_eq_zero_iff.mp z)
  simpa using h0
theorem UX(hu:X.A.units<cLine):OpR X (compareOp .NotEq) (Jug X.K):=by
 intro pins s σ H x y v u Q I rx ry h;obtain⟨a,b,xs,rfl,rfl,ha,hb,q⟩:=h;cases rx;cases ry;obtain⟨its,r1,p1,_⟩:=I.list ha;obtain⟨its2,r2,p2,_⟩:=I.list hb;cases r2;by_cases hx:xs=[]
 ·subst hx;cases r1;exact SeqAt.RcNeAt.lists (e:=fun _=>true) p1.isList p2.isList rfl hu (fun j h1 _=>absurd h1 (by simp)) _ _ _ _ ⟨.bl false,H,I,by simp;rfl,q⟩
 ·have e:xs.isEmpty=false:=by cases xs with
   | nil=>exact absurd rfl hx
   | cons _ _=>rfl
  rw[e]at q;refine SeqAt.RcNeAt.lists_lengths p1.isList p2.isList ?_ hu _ _ _ _ ⟨.bl true,H,I,rfl,q⟩;have h0:its.length≠0:=by rw[<- r1.length];exact fun z=>hx (List.length_eq_zero_iff.mp z)
  simpa using h0
def rCat2:R2:=fun x y H Q=>∃a b xs ys,x=.ref a/\y=.ref b/\H a=some (.tup xs)/\H b=some (.tup ys)/\xs.length+ys.length<=sizeLine/\∀p H',Same H H'->H' p=some (.tup (xs++ys))->Q (.ref p) H'
theorem YZ:OpR X (binaryOp .Add) rCat2:=by
 intro pins s σ H x y v u Q I rx ry h;obtain⟨a,b,xs,ys,rfl,rfl,ha,hb,hz,q⟩:=h;by_cases hx:xs=[]
 ·subst hx;cases rx;cases ry;obtain⟨its,r1,p1,_⟩:=I.tuple (SqT.of ha);obtain⟨its2,r2,p2,_⟩:=I.tuple (SqT.of hb);cases r1;obtain⟨⟨cls,dd,data,sl⟩,ho,hc,n,hd⟩:=id p1;obtain⟨⟨cls2,dd2,data2,sl2⟩,ho2,hc2,n2,hd2⟩:=id p2;simp only at hc hd hc2 hd2;subst hc hd hc2 hd2;exact concat_meets ⟨_,ho,rfl⟩ ⟨_,ho2,rfl⟩ noFill_tuple_add seq_tuple_add PySem.F.slot_tuple_add PySem.F.entry_tuple_add (PySem.F.args_tuple_add_2 _ _)
   (tuple_addW0 a b _ _ n n2 dd dd2 sl sl2 (by simp)) ⟨ho,ho2,⟨.ref b,H,I,rfl,q b H (Same.refl H) hb⟩⟩
 ·refine Jrp pins s σ H (.ref a) (.ref b) v u Q I rx ry ⟨a,b,xs,ys,rfl,rfl,SqT.of ha,SqT.of hb,hx,hz,fun e=>?_,fun _ p hp=>q p _ (Same.upd hp) Jc⟩;subst e;exact q a H (Same.refl H) (by rw[List.append_nil];exact ha)
def rSl2:V->Option Int->Option Int->Hp->VK->Prop:=fun x lo hi H Q=>∃a xs,x=.ref a/\H a=some (.tup xs)/\∀p H',Same H H'->H' p=some (.tup (cutV xs lo hi))->Q (.ref p) H'
theorem Um{prog:VC}{w:VF}{A:VD}{E:VQ}{s:VP}{t sl:VB}{items:Array VR}{vl vu:VR}{lo hi:Option Int}{Q:VQ}(ht:IsTup s.heap t items)(hs:s.heap.IsSliceOf sl vl vu .none)
  (pl:IsPart vl lo) (pu:IsPart vu hi) (hw:HT.sIx items.size 0 lo=0/\HT.sIx items.size items.size hi=items.size) (h:Q (.ref t) s):wpAny (model prog w) A (getItem (.ref t) (.ref sl)) Q E s:=by
 obtain⟨os,hos,hcs,hds⟩:=id hs;have hTs:s.TypeIs (.ref sl) "slice":=⟨os,hos,hcs⟩;unfold getItem
 try with_reducible refine wpAny_holding ?_
 first|refine VL (VM ?_)|skip
 refine VL (wpAny_sequenceKey ht.typeIs (by decide) ?_);refine VL (wpAny_callSpecial?_slot (name:=Str.ofString "__getitem__") ht.typeIs PyProof.Rows.slot_tuple_getitem
  (wpAny_call_entry PyProof.Rows.slot_tuple_getitem ht.typeIs entry_tuple_getitem ?_ (args_tuple_getitem _ _)))
 show wpAny (model prog w) _ (Builtin.Tuple.tupleItemsOf (.ref t) >>= _) _ _ s;refine VL (tupleItemsOf_ ht ?_);refine VL (wpAny_typeOf hTs ?_);rw[if_pos (by decide)];refine VL (HT.sliceApplied_gen hs pl pu ?_);have yes:(((HT.sIx items.size 0 lo:Nat):Int)==0&&(1:Int)==1&&(HT.sIx items.size items.size hi-HT.sIx items.size 0 lo)==items.size)=true:=by rw[hw.1,hw.2];simp
 show wpAny (model prog w) _ (if (((HT.sIx items.size 0 lo:Nat):Int)==0&&(1:Int)==1&&(HT.sIx items.size items.size hi-HT.sIx items.size 0 lo)==items.size)=true then _ else _) _ _ s;rw[if_pos yes];have ex:wpAny (model prog w) A.in1 (Builtin.Tuple.tupleIsExact (.ref t)) (fun b t'=>b=true/\t'=s) E s:=by unfold Builtin.Tuple.tupleIsExact;exact VL (wpAny_typeOf ht.typeIs (VM ⟨rfl,rfl⟩))
 refine VL (wpAny_mono ex (fun b t' hb=>?_) fun _ _ z=>z);obtain⟨rfl,rfl⟩:=hb;rw[if_pos rfl];exact VL (wpAny_rule (VM ⟨_,rfl,VM h⟩))
theorem UP:SlR X rSl2:=by
 intro pins s σ H x v vl vu lo hi sl Q I rx hs pl pu h;obtain⟨a,xs,rfl,hx,q⟩:=h;by_cases hw:HT.sIx xs.length 0 lo=0/\HT.sIx xs.length xs.length hi=xs.length
 ·cases rx;obtain⟨its,r,ht,hz⟩:=I.tuple (SqT.of hx);have hlen:its.toArray.size=xs.length:=by rw[List.size_toArray];exact r.length.symm
  refine⟨"tuple",_,PyProof.Rows.slot_tuple_getitem.lookup,ht.typeIs,?_⟩;refine Um ht hs pl pu (by rw[hlen];exact hw) ⟨.ref a,H,I,rfl,q a H (Same.refl H) ?_⟩;have e:cutV xs lo hi=xs:=by unfold cutV;rw[hw.1,hw.2];simp
  rw[e];exact hx
 ·exact Jtz pins s σ H (.ref a) v vl vu lo hi sl Q I rx hs pl pu ⟨a,xs,rfl,SqT.of hx,hw,fun p hp=>q p _ (Same.upd hp) Jc⟩
theorem Jek:Yd X (.type "dict") (fun xs H Q=>∃a kvs,xs=[.ref a]/\H a=some (.dK kvs)/\∀p,H p=none->Q (.ref p) (upd H p (.dK kvs))):=by intro pins s σ H xs us Q I r h;obtain⟨a,kvs,rfl,ha,q⟩:=h;obtain⟨u,rfl,ru⟩:=Ym r;cases ru;exact Jqe I (.inl ha) fun p s' hp I'=>⟨.ref p,_,I',rfl,q p hp⟩
end
structure Kn(P:VC)(w:VF)(K:VG)(mg:VZ)(base:Heap)(k:Nat)(x:Str)(ps:VJ)(sp:Sp):Prop where
 ex:∃(f:VB)(fd:FuncData),FnOk P w K mg base CX0 k f fd ps sp/\mg x=some (.ref f)/\PySem.W.keepIn K (.ref f)=true/\Binds K fd ps []
theorem Jl{X:Cx}{k:Nat}{x:Str}{ps:VJ}{sp:Sp}{p pos:Pos}{e:Expr}{es:List Expr}{t:TA}(h:Kn X.prog X.w X.K X.mg X.base k x ps sp)(hr:Room k X.A)(ha:PA X (e::es) t)(hg:Gl X x:=by rfl)
  (hdb:(x==("__debug__":Str))=false:=by decide) (he:starEach (e::es) X.env=(false,eval e X.env)::starEach es X.env:=by rfl) (hpl:(backTo pos (starEach es X.env)).any (·.1)=false:=by rfl) :
  PE X (.Call (.Name x p) (e::es) [] pos) (Jsx sp [] E0 t):=by
 obtain⟨f,fd,F,hm,hk,hb⟩:=h.ex;exact Jrl F hr hg hm hk hb .nil pass0 ha hdb he hpl
theorem JM{X:Cx}{f:Expr}{es:List Expr}{ks:List Keyword}{pos:Pos}{t:TE}(h:PE X (.Call f es ks pos) t):PT X (.Call f es ks pos) (tB t):=Jui h
structure DefAt(K:VG)(mg:VZ)(x:Str)(st:Stmt)(ps:VJ):Prop where
 ex:∃(f:VB)(fd:FuncData),Fun K x x st f fd/\mg x=some (.ref f)/\Binds K fd ps []
theorem DefAt.kn{P:VC}{w:VF}{K:VG}{mg:VZ}{base:Heap}{k:Nat}{x:Str}{st:Stmt}{N ps:VJ}{sp:Sp}(D:DefAt K mg x st ps)(S:FnScope N ps (Jh st))(len:∀vs H Q E,sp vs H Q E->vs.length=ps.length)
  (hbody:∀ (f:VB) (cdv:VR) (A:VD) (outer:List Env) (s:VP) (H:Hp) (vs:VS) (Q:VK) (E:XK),Room k (A.deeper (envOfC x (Jh st) s.heap.objs.size f cdv))->sp vs H Q E ->
   ∃ t,PSs (cxOf CX0 P w K mg base N x (Jh st) f cdv A outer s H E).nox (Za st) t/\t { nx:=fun _ H'=>Q .non H',rt:=Q } (start N vs) H):Kn P w K mg base (k + 1) x ps sp:=by
 obtain⟨f,fd,F,hm,hb⟩:=D.ex;exact⟨f,fd,F.ok S len fun cdv A outer s H vs Q E hr h=>hbody f cdv A outer s H vs Q E hr h,hm,F.kp,hb⟩
def Free(mg:VZ)(l:VJ):Prop:=∀x∈l,mg x=none
inductive Dat(H:Hp):V->String->Prop where
 | non:Dat H .non "NoneType"
 | bl (b:Bool):Dat H (.bl b) "bool"
 | int (i:Int):Dat H (.int i) "int"
 | str (x:Str):Dat H (.str x) "str"
 | lst {a:VB} {xs:VS} (h:H a=some (.lst xs)):Dat H (.ref a) "list"
 | tup {a:VB} {xs:VS} (h:H a=some (.tup xs)):Dat H (.ref a) "tuple"
 | dK {a:VB} {kvs:List (Key×V)} (h:H a=some (.dK kvs)):Dat H (.ref a) "dict"
theorem Dat.mono{H H':Hp}{x:V}{T:String}(s:Same H H')(h:Dat H x T):Dat H' x T:=by
 cases h with
 | non=>exact .non
 | bl b=>exact .bl b
 | int i=>exact .int i
 | str z=>exact .str z
 | lst e=>exact .lst (s _ _ e)
 | tup e=>exact .tup (s _ _ e)
 | dK e=>exact .dK (s _ _ e)
theorem Dat.ty{K:VG}{H:Hp}{x:V}{T:String}(h:Dat H x T):TyOf K H x (.type T):=by
 cases h with
 | non=>exact .non
 | bl b=>exact .bl b
 | int i=>exact .int i
 | str z=>exact .str z
 | lst e=>exact .lst e
 | tup e=>exact .tup e
 | dK e=>exact .dK e
theorem Dat.mem{H:Hp}{x:V}{T:String}(h:Dat H x T):T∈["NoneType","bool","int","str","list","tuple","dict"]:=by cases h<;>simp
def kitB(t T:String):Bool:=t==T||(t=="bool"&&T=="int")
theorem Jpe(K:VG){t T:String}(h:t∈["NoneType","bool","int","str","list","tuple","dict"])(h':T∈["int","bool","tuple","list","str","dict"]):PySem.W.kitOne K (.type t) (.type T)=some (kitB t T):=by simp only[List.mem_cons,List.not_mem_nil,or_false]at h h';rcases h with rfl|rfl|rfl|rfl|rfl|rfl|rfl<;>rcases h' with rfl|rfl|rfl|rfl|rfl|rfl<;>kernel_rfl
theorem Zf{X:Cx}:Yd X (.builtin "isinstance") (fun xs H Q=>∃x T T',xs=[x,.ty T]/\Dat H x T'/\T∈["int","bool","tuple","list","str","dict"]/\Q (.bl (kitB T' T)) H):=by intro pins s σ H xs us Q I r h;obtain⟨x,T,T',e,d,m,q⟩:=h;exact Jgl pins s σ H xs us Q I r ⟨x,T,.type T',_,e,d.ty,Jpe X.K d.mem m,q⟩
theorem YR:bootBuiltins "isinstance"=some (.builtin "isinstance"):=by decide +kernel
theorem Uj:bootBuiltins "int"=some (.type "int"):=by decide +kernel
theorem Jbr:bootBuiltins "bool"=some (.type "bool"):=by decide +kernel
theorem JE:bootBuiltins "tuple"=some (.type "tuple"):=by decide +kernel
theorem Jhz:bootBuiltins "dict"=some (.type "dict"):=by decide +kernel
theorem Yh:bootBuiltins "all"=some (.builtin "all"):=by decide +kernel
theorem QL:bootBuiltins "any"=some (.builtin "any"):=by decide +kernel
theorem Jmn:bootBuiltins "max"=some (.builtin "max"):=by decide +kernel
theorem Jmm:bootBuiltins "min"=some (.builtin "min"):=by decide +kernel
theorem Yu:bootBuiltins "sorted"=some (.builtin "sorted"):=by decide +kernel
inductive Thing(H:Hp):V->Option (VS)->Prop where
 | tup {p:VB} {ys:VS} (h:H p=some (.tup ys)) (ty:∀ y∈ys,∃ T,Dat H y T) (z:ys.length<=sizeLine):Thing H (.ref p) (some ys)
 | oth {x:V} {T:String} (h:Dat H x T) (n:T≠"tuple"):Thing H x none
def Ars(H:Hp):VS->VX->Prop:=Paired fun v p=>∃q,v=V.ref q/\H q=some (.tup [.int p.1,.int p.2])
theorem Ars.mono{H H':Hp}{vs:VS}{ars:VX}(s:Same H H')(h:Ars H vs ars):Ars H' vs ars:=Paired.mapP h fun _ _ ⟨q,e,z⟩=>⟨q,e,s _ _ z⟩
structure Web(H:Hp)(a t:VB)(m:Int)(vs:VS)(ars:VX):Prop where
 top:H a=some (.tup [.int m,.ref t])
 arr:H t=some (.tup vs)
 ars:Ars H vs ars
 len:vs.length<=1000
 mb:0<=m/\m<=1000
theorem Web.mono{H H':Hp}{a t:VB}{m:Int}{vs:VS}{ars:VX}(s:Same H H')(h:Web H a t m vs ars):Web H' a t m vs ars:=⟨s _ _ h.top,s _ _ h.arr,h.ars.mono s,h.len,h.mb⟩
theorem Paired.get'{α β:Type}{F:α->β->Prop}:∀{l:List α}{r:List β}{i:Nat}{x:α},Paired F l r->l[i]?=some x->∃y,r[i]?=some y/\F x y
 | _,_,_,_,.nil,e=>by simp at e
 | _,_,0,_,.cons h _,e=>by simp at e;subst e;exact⟨_,rfl,h⟩
 | _,_,i + 1,x,.cons _ t,e=>by obtain⟨y,h1,h2⟩:=Paired.get' (i:=i) (x:=x) t (by simpa using e);exact⟨y,by simpa using h1,h2⟩
def isI:V->Bool
 | .int _=>true
 | _=>false
def plG(m:Int):V->Bool
 | .int n=>decide (0<=n) && decide (n < m)
 | _=>false
def Zj:VY->Bool
 | []=>true
 | [_]=>true
 | a::b::r=>decide (a < b) && Zj (b::r)
def JO(ys:VS):VY:=ys.filterMap fun y=>match y with|.int n=>some n|_=>none
def plsG(m:Int):Option (VS)->Bool
 | none=>false
 | some ys=>ys.all (plG m) && Zj (JO ys)
theorem WS{m:Int}:∀{ys:VS},ys.all (plG m)=true->ys=(JO ys).map V.int
 | [],_=>rfl
 | y::r,h=>by
  rw[List.all_cons,Bool.and_eq_true]at h;cases y with
  | int n =>
   show V.int n::r=V.int n::(JO r).map V.int;rw[<- WS h.2]
  | _=>exact absurd h.1 (by simp [plG])
theorem UI(ns:VY):JO (ns.map V.int)=ns:=by
 induction ns with
 | nil=>rfl
 | cons n r ih=>show n::JO (r.map V.int)=n::r; rw [ih]
def Wn(n:Nat)(Pv:Nat->VS->Hp->Prop)(i m:Nat)(zs:VS)(H:Hp):Prop:=m=n-i/\i<=n/\Pv i zs H
theorem nx{n i:Nat}{Pv:Nat->VS->Hp->Prop}{zs:VS}{H:Hp}(hi:i<n)(h:Pv (i+1) zs H):∃m',m'<n-i/\Wn n Pv (i+1) m' zs H:=⟨n-(i+1),by omega,rfl,hi,h⟩
section
variable{K:VG}{g:TG}{tc:TT}{te:TE}{σ:St}{H:Hp}{R:VS->Hp->Prop}
theorem Jcl{J:It}(n:Nat)(Pv:Nat->VS->Hp->Prop)(h0:Pv 0 [] H)(stop:∀zs H,Pv n zs H->J.stop n H/\zs.length<=sizeLine/\R zs H)
  (go:∀ i zs H,i < n->Pv i zs H->J.go i H/\zs.length<=sizeLine/\∀ x H',J.yld i H x H'->g x σ H' fun σ2 H2=>tc σ2 H2 fun b H3 =>
   if b=true then te σ2 H3 fun y H4=>∃ m',m' < n - i/\Wn n Pv (i + 1) m' (zs++[y]) H4 else ∃ m',m' < n - i/\Wn n Pv (i + 1) m' zs H3) :
  ∃W:Nat->Nat->VS->Hp->Prop,(∃m,W 0 m [] H)/\∀i m ys H,W i m ys H->(J.stop i H/\ys.length<=sizeLine/\R ys H) \/
   (J.go i H/\ys.length<=sizeLine/\∀ x H',J.yld i H x H'->g x σ H' fun σ2 H2=>tc σ2 H2 fun b H3 =>
    if b=true then te σ2 H3 fun y H4=>∃ m',m' < m/\W (i + 1) m' (ys++[y]) H4 else ∃ m',m' < m/\W (i + 1) m' ys H3):=by
 refine⟨Wn n Pv,⟨n,rfl,LX _,h0⟩,?_⟩;rintro i m ys H ⟨rfl,hi,p⟩;by_cases hlt:i<n
 ·exact .inr (go i ys H hlt p)
 ·have e:i=n:=by omega
  subst e;exact .inl (stop ys H p)
theorem Jon{a:VB}{xs:VS}(Pv:Nat->VS->Hp->Prop)(h0:Pv 0 [] H)(hl:∀i zs H,i<=xs.length->Pv i zs H->SqT K H a xs/\zs.length<=sizeLine)(hd:∀zs H,Pv xs.length zs H->R zs H)
  (hs:∀ i x zs H,xs[i]?=some x->i < xs.length->Pv i zs H->g x σ H fun σ2 H2=>tc σ2 H2 fun b H3 =>
   if b=true then te σ2 H3 fun y H4=>∃ m',m' < xs.length - i/\Wn xs.length Pv (i + 1) m' (zs++[y]) H4 else ∃ m',m' < xs.length - i/\Wn xs.length Pv (i + 1) m' zs H3) :
  ∃W:Nat->Nat->VS->Hp->Prop,(∃m,W 0 m [] H)/\∀i m ys H,W i m ys H->((Itt K a).stop i H/\ys.length<=sizeLine/\R ys H) \/
   ((Itt K a).go i H/\ys.length<=sizeLine/\∀ x H',(Itt K a).yld i H x H'->g x σ H' fun σ2 H2=>tc σ2 H2 fun b H3 =>
    if b=true then te σ2 H3 fun y H4=>∃ m',m' < m/\W (i + 1) m' (ys++[y]) H4 else ∃ m',m' < m/\W (i + 1) m' ys H3):=by
 refine Jcl xs.length Pv h0 (fun zs H p=>?_) (fun i zs H hi p=>?_)
 ·obtain ⟨q,z⟩:=hl _ zs H (SJ _) p;exact⟨⟨xs,q,SJ _⟩,z,hd zs H p⟩
 ·obtain ⟨q,z⟩:=hl i zs H (SZ hi) p;refine⟨⟨xs,xs[i],q,by simp[hi]⟩,z,fun x H' y=>?_⟩;obtain⟨e,y⟩:=y;subst e;exact hs i x zs _ (y xs q) hi p
theorem ZB{a:VB}{xs:VS}(Pv:Nat->VS->Hp->Prop)(h0:Pv 0 [] H)(hl:∀i zs H,i<=xs.length->Pv i zs H->SqL K H a xs/\zs.length<=sizeLine)(hd:∀zs H,Pv xs.length zs H->R zs H)
  (hs:∀ i x zs H,xs[i]?=some x->i < xs.length->Pv i zs H->g x σ H fun σ2 H2=>tc σ2 H2 fun b H3 =>
   if b=true then te σ2 H3 fun y H4=>∃ m',m' < xs.length - i/\Wn xs.length Pv (i + 1) m' (zs++[y]) H4 else ∃ m',m' < xs.length - i/\Wn xs.length Pv (i + 1) m' zs H3) :
  ∃W:Nat->Nat->VS->Hp->Prop,(∃m,W 0 m [] H)/\∀i m ys H,W i m ys H->((Itl K a).stop i H/\ys.length<=sizeLine/\R ys H) \/
   ((Itl K a).go i H/\ys.length<=sizeLine/\∀ x H',(Itl K a).yld i H x H'->g x σ H' fun σ2 H2=>tc σ2 H2 fun b H3 =>
    if b=true then te σ2 H3 fun y H4=>∃ m',m' < m/\W (i + 1) m' (ys++[y]) H4 else ∃ m',m' < m/\W (i + 1) m' ys H3):=by
 refine Jcl xs.length Pv h0 (fun zs H p=>?_) (fun i zs H hi p=>?_)
 ·obtain ⟨q,z⟩:=hl _ zs H (SJ _) p;exact⟨⟨xs,q,SJ _⟩,z,hd zs H p⟩
 ·obtain ⟨q,z⟩:=hl i zs H (SZ hi) p;refine⟨⟨xs,xs[i],q,by simp[hi]⟩,z,fun x H' y=>?_⟩;obtain⟨e,y⟩:=y;subst e;exact hs i x zs _ (y xs q) hi p
theorem ZX{lo:Int}{n:Nat}(Pv:Nat->VS->Hp->Prop)(h0:Pv 0 [] H)(hl:∀i zs H,i<=n->Pv i zs H->zs.length<=sizeLine)(hd:∀zs H,Pv n zs H->R zs H)
  (hs:∀ i zs H,i < n->Pv i zs H->g (.int (lo + i)) σ H fun σ2 H2=>tc σ2 H2 fun b H3 =>
   if b=true then te σ2 H3 fun y H4=>∃ m',m' < n - i/\Wn n Pv (i + 1) m' (zs++[y]) H4 else ∃ m',m' < n - i/\Wn n Pv (i + 1) m' zs H3) :
  ∃W:Nat->Nat->VS->Hp->Prop,(∃m,W 0 m [] H)/\∀i m ys H,W i m ys H->((Itr lo n).stop i H/\ys.length<=sizeLine/\R ys H) \/
   ((Itr lo n).go i H/\ys.length<=sizeLine/\∀ x H',(Itr lo n).yld i H x H'->g x σ H' fun σ2 H2=>tc σ2 H2 fun b H3 =>
    if b=true then te σ2 H3 fun y H4=>∃ m',m' < m/\W (i + 1) m' (ys++[y]) H4 else ∃ m',m' < m/\W (i + 1) m' ys H3):=by
 refine Jcl n Pv h0 (fun zs H p=>⟨SJ _,hl _ zs H (SJ _) p,hd zs H p⟩) (fun i zs H hi p=>⟨hi,hl i zs H (SZ hi) p,fun x H' y=>?_⟩);obtain⟨e,y⟩:=y;subst e y;exact hs i zs _ hi p
theorem Jvf{a b:VB}{xs ys:VS}(hxy:ys.length+1=xs.length\/(xs.length=0/\ys.length=0)\/ys.length=xs.length)(Pv:Nat->VS->Hp->Prop)(h0:Pv 0 [] H)
  (hl:∀i zs H,i<=ys.length->Pv i zs H->H a=some (.tup xs)/\H b=some (.tup ys)/\zs.length<=sizeLine) (hd:∀zs H,Pv ys.length zs H->R zs H)
  (hs:∀ i v w zs H p,xs[i]?=some v->ys[i]?=some w->i < ys.length->Pv i zs H->H p=none->g (.ref p) σ (upd H p (.tup [v,w])) fun σ2 H2=>tc σ2 H2 fun b H3 =>
   if b=true then te σ2 H3 fun y H4=>∃ m',m' < ys.length - i/\Wn ys.length Pv (i + 1) m' (zs++[y]) H4 else ∃ m',m' < ys.length - i/\Wn ys.length Pv (i + 1) m' zs H3) :
  ∃W:Nat->Nat->VS->Hp->Prop,(∃m,W 0 m [] H)/\∀i m ys H,W i m ys H->((Itz a b).stop i H/\ys.length<=sizeLine/\R ys H) \/
   ((Itz a b).go i H/\ys.length<=sizeLine/\∀ x H',(Itz a b).yld i H x H'->g x σ H' fun σ2 H2=>tc σ2 H2 fun b H3 =>
    if b=true then te σ2 H3 fun y H4=>∃ m',m' < m/\W (i + 1) m' (ys++[y]) H4 else ∃ m',m' < m/\W (i + 1) m' ys H3):=by
 refine Jcl ys.length Pv h0 (fun zs H p=>?_) (fun i zs H hi p=>?_)
 ·obtain ⟨q1,q2,z⟩:=hl _ zs H (SJ _) p;exact⟨⟨xs,ys,q1,q2,by omega⟩,z,hd zs H p⟩
 ·obtain ⟨q1,q2,z⟩:=hl i zs H (SZ hi) p;refine⟨⟨xs,ys,q1,q2,by omega,hi⟩,z,fun x H' y=>?_⟩;obtain⟨p',v,w,e1,e2,e3,y⟩:=y;subst e1 e3;obtain⟨y1,y2⟩:=y xs ys q1 q2;exact hs i v w zs H p' y1 y2 hi p e2
end
section
variable{K:VG}{g:TG}{te:TE}{σ:St}{H:Hp}{R:VS->Hp->Prop}
theorem Jdz{a:VB}{xs:VS}(Pv:Nat->VS->Hp->Prop)(h0:Pv 0 [] H)(hl:∀i zs H,i<=xs.length->Pv i zs H->SqT K H a xs/\zs.length<=sizeLine)(hd:∀zs H,Pv xs.length zs H->R zs H)
  (hs:∀i x zs H,xs[i]?=some x->i<xs.length->Pv i zs H->g x σ H fun σ2 H2=>te σ2 H2 fun y H4=>∃m',m'<xs.length-i/\Wn xs.length Pv (i+1) m' (zs++[y]) H4) :
  ∃W:Nat->Nat->VS->Hp->Prop,(∃m,W 0 m [] H)/\∀i m ys H,W i m ys H->((Itt K a).stop i H/\ys.length<=sizeLine/\R ys H) \/
   ((Itt K a).go i H/\ys.length<=sizeLine/\∀ x H',(Itt K a).yld i H x H'->g x σ H' fun σ2 H2=>tYes σ2 H2 fun b H3 =>
    if b=true then te σ2 H3 fun y H4=>∃ m',m' < m/\W (i + 1) m' (ys++[y]) H4 else ∃ m',m' < m/\W (i + 1) m' ys H3):=Jon (tc:=tYes) Pv h0 hl hd hs
theorem Ya{a:VB}{xs:VS}(Pv:Nat->VS->Hp->Prop)(h0:Pv 0 [] H)(hl:∀i zs H,i<=xs.length->Pv i zs H->SqL K H a xs/\zs.length<=sizeLine)(hd:∀zs H,Pv xs.length zs H->R zs H)
  (hs:∀i x zs H,xs[i]?=some x->i<xs.length->Pv i zs H->g x σ H fun σ2 H2=>te σ2 H2 fun y H4=>∃m',m'<xs.length-i/\Wn xs.length Pv (i+1) m' (zs++[y]) H4) :
  ∃W:Nat->Nat->VS->Hp->Prop,(∃m,W 0 m [] H)/\∀i m ys H,W i m ys H->((Itl K a).stop i H/\ys.length<=sizeLine/\R ys H) \/
   ((Itl K a).go i H/\ys.length<=sizeLine/\∀ x H',(Itl K a).yld i H x H'->g x σ H' fun σ2 H2=>tYes σ2 H2 fun b H3 =>
    if b=true then te σ2 H3 fun y H4=>∃ m',m' < m/\W (i + 1) m' (ys++[y]) H4 else ∃ m',m' < m/\W (i + 1) m' ys H3):=ZB (tc:=tYes) Pv h0 hl hd hs
theorem Ug{lo:Int}{n:Nat}(Pv:Nat->VS->Hp->Prop)(h0:Pv 0 [] H)(hl:∀i zs H,i<=n->Pv i zs H->zs.length<=sizeLine)(hd:∀zs H,Pv n zs H->R zs H)
  (hs:∀i zs H,i<n->Pv i zs H->g (.int (lo+i)) σ H fun σ2 H2=>te σ2 H2 fun y H4=>∃m',m'<n-i/\Wn n Pv (i+1) m' (zs++[y]) H4) :
  ∃W:Nat->Nat->VS->Hp->Prop,(∃m,W 0 m [] H)/\∀i m ys H,W i m ys H->((Itr lo n).stop i H/\ys.length<=sizeLine/\R ys H) \/
   ((Itr lo n).go i H/\ys.length<=sizeLine/\∀ x H',(Itr lo n).yld i H x H'->g x σ H' fun σ2 H2=>tYes σ2 H2 fun b H3 =>
    if b=true then te σ2 H3 fun y H4=>∃ m',m' < m/\W (i + 1) m' (ys++[y]) H4 else ∃ m',m' < m/\W (i + 1) m' ys H3):=ZX (tc:=tYes) Pv h0 hl hd hs
theorem Jjk{a b:VB}{xs ys:VS}(hxy:ys.length+1=xs.length\/(xs.length=0/\ys.length=0)\/ys.length=xs.length)(Pv:Nat->VS->Hp->Prop)(h0:Pv 0 [] H)
  (hl:∀i zs H,i<=ys.length->Pv i zs H->H a=some (.tup xs)/\H b=some (.tup ys)/\zs.length<=sizeLine) (hd:∀zs H,Pv ys.length zs H->R zs H)
  (hs:∀i v w zs H p,xs[i]?=some v->ys[i]?=some w->i<ys.length->Pv i zs H->H p=none->g (.ref p) σ (upd H p (.tup [v,w])) fun σ2 H2=>te σ2 H2 fun y H4=>∃m',m'<ys.length-i/\Wn ys.length Pv (i+1) m' (zs++[y]) H4) :
  ∃W:Nat->Nat->VS->Hp->Prop,(∃m,W 0 m [] H)/\∀i m ys H,W i m ys H->((Itz a b).stop i H/\ys.length<=sizeLine/\R ys H) \/
   ((Itz a b).go i H/\ys.length<=sizeLine/\∀ x H',(Itz a b).yld i H x H'->g x σ H' fun σ2 H2=>tYes σ2 H2 fun b H3 =>
    if b=true then te σ2 H3 fun y H4=>∃ m',m' < m/\W (i + 1) m' (ys++[y]) H4 else ∃ m',m' < m/\W (i + 1) m' ys H3):=Jvf (tc:=tYes) hxy Pv h0 hl hd hs
end
theorem Jx{α:Type}(l:List α)(i:Nat)(x:α)(h:l[i]?=some x):l.take (i+1)=l.take i++[x]:=by rw[List.take_add_one,h];rfl
theorem Jcf:∀ns:VY,((ns.zip (ns.drop 1)).map fun p=>decide (p.1<p.2)).all id=Zj ns
 | []=>rfl
 | [_]=>rfl
 | a::b::r=>by have ih:=Jcf (b::r);show(decide (a<b)::((b::r).zip r).map fun p=>decide (p.1<p.2)).all id=(decide (a<b)&&Zj (b::r));rw[List.all_cons,<- ih];rfl
theorem cut1(ns:VY):cutV (ns.map V.int) (some 1) none=(ns.drop 1).map V.int:=by
 unfold cutV;have e1:HT.sIx (ns.map V.int).length 0 (some 1)=min 1 (ns.map V.int).length:=HT.sIx_nat _ 0 1;have e2:HT.sIx (ns.map V.int).length (ns.map V.int).length none=(ns.map V.int).length:=rfl;rw[e1,e2];cases ns with
 | nil=>rfl
 | cons n r =>
  simp;rw[List.take_of_length_le (by simp)]
end L2
namespace L2
open PySem PySem.Calls PySem.Spec PyProof.Rows
def RawD(h:Heap)(d:VB)(es:Array DictEntry)(ep:Nat):Prop:=∃o,h.get? d=some o/\o.ExactDict/\o.data=.dict es ep
section
variable{prog:VC}{w:VF}{A:VD}{E:VQ}{s:VP}{d it:VB}{es:Array DictEntry}{ep i:Nat}
theorem RawD.ty(h:RawD s.heap d es ep):s.TypeIs (.ref d) "dict":=let⟨o,a,b,_⟩:=h;⟨o,a,b.1⟩
theorem Jnk{Q:VQ}(hd:(d==sysModules)=false)(hm:RawD s.heap d es ep)
  (q:Q (.ref s.heap.objs.size) { s with heap:=s.heap.push { cls:=.type "dict_keyiterator",data:=.fields #[.ref d,.int 0 0,.int es.size 0,.int ep 0] } }) :
  wpAny (model prog w) A (pyIter (.ref d)) Q E s:=by
 have hT:=hm.ty;obtain⟨o,h1,h2,h3⟩:=id hm;refine wpAny_pyIter_slot hT F.slot_dict_iter (wpAny_call_entry F.slot_dict_iter hT F.entry_dict_iter ?_ (F.args_dict_iter_1 _));unfold Builtin.«dict.__iter__»;refine VL ?_;unfold Builtin.Dict.dictSlotNone;refine VL (wpAny_notOrdered_dict hT ?_);show wpAny (model prog w) _ (pure (Value.ref d)) _ _ s;refine VM ?_;show wpAny (model prog w) _ (Builtin.Dict.showsAll d >>= _) _ _ s;unfold Builtin.Dict.showsAll;rw[if_neg (by rw[hd];exact Bool.false_ne_true)];refine VL (VM ?_);refine VL (wpAny_dictEntries h1 h3 ?_);refine VL (wpAny_dictEpoch h1 h3 ?_);exact VL (wpAny_newObj_type (VM ⟨_,rfl,"dict_keyiterator",_,⟨_,VT _ rfl,rfl⟩,F.slot_dict_keyiterator_next.lookup,q⟩))
theorem Jnj{Q:VH->VP->Prop}(hi:s.heap.IsKeyIter it d i es.size ep)(hm:RawD s.heap d es ep)(hx:i<es.size)
  (q:∀h',h'.IsKeyIter it d (i+1) es.size ep->Heap.SameBut it s.heap h'->Q (some es[i].key) { s with heap:=h' }):wpAny (model prog w) A (pyNext (.ref it)) Q E s:=by
 obtain⟨o,a1,a2,a3⟩:=id hi;obtain⟨od,b1,b2,b3⟩:=id hm;unfold pyNext;refine VL (wpAny_attempt (wpAny_callSpecial?_slot (name:=Str.ofString "__next__") hi.typeIs F.slot_dict_keyiterator_next
  (wpAny_call_entry F.slot_dict_keyiterator_next hi.typeIs F.entry_dict_keyiterator_next ?_ (F.args_dict_keyiterator_next_1 _))))
 refine VL (VM ?_);refine VL ?_;refine VL ?_
 first|refine VL (wpAny_typeNameOfWhole_keyiter hi.typeIs (VM ?_))|refine VL (wpAny_typeNameOf_keyiter hi.typeIs (VM ?_))
 refine VL (wpAny_fieldsOf a1 a3 ?_);have own:Builtin.Dict_items.ownsTuple "dict_keyiterator"=false:=by decide
 simp only[own,Bool.false_eq_true,if_false];show wpAny (model prog w) _ (if (Value.ref d==Value.none)=true then _ else _) _ _ s;rw[if_neg (show ¬ (Value.ref d==Value.none)=true from Bool.false_ne_true)];refine VL (VM ?_);refine VL (wpAny_dictEntries b1 b3 ?_);rw[if_neg (by simp)];refine VL (VM ?_);refine VL (wpAny_dictEpoch b1 b3 ?_);rw[if_neg (by simp)];refine VM ?_;simp only[show ¬ ((i:Int)<0)from by omega,if_false,Int.toNat_natCast,Array.getElem?_eq_getElem hx];refine VL ?_
 first|refine VL (wpAny_typeNameOfWhole_keyiter hi.typeIs (VM ?_))|refine VL (wpAny_typeNameOf_keyiter hi.typeIs (VM ?_))
 refine VL (wpAny_isOneOf_keyiter hi.typeIs ?_);show wpAny (model prog w) _ (setField (.ref it) 1 (rawInt ((i:Int)+1)) >>= _) _ _ s;refine VL (wpAny_setField a1 a3 (by simp) ?_);have nxt:(s.heap.update it (Obj.mapFields (·.setIfInBounds 1 (rawInt ((i:Int)+1))))).IsKeyIter it d (i+1) es.size ep :=
  ⟨_,Heap.get?_update_self _ a1 (Obj.isFreed_of_fields (Obj.data_mapFields a3 _)),(Obj.cls_mapFields ..).trans a2,by rw[Obj.data_mapFields a3];simp[rawInt]⟩
 refine VL (wpAny_holding ?_);refine VL (wpAny_isOneOf_keyiter (s:={ s with heap:=s.heap.update it (Obj.mapFields (·.setIfInBounds 1 (rawInt ((i:Int)+1)))) }) nxt.typeIs ?_);show wpAny (model prog w) _ (pure es[i].key) _ _ _;exact VM (VM ⟨_,rfl,VM (q _ nxt (Heap.SameBut.update ..))⟩)
theorem Jra{Q:VH->VP->Prop}(hh:A.handled=none)(hi:s.heap.IsKeyIter it d es.size es.size ep)(hm:RawD s.heap d es ep)
  (q:∀h',Heap.ExtBut it s.heap h'->Q none { s with heap:=h' }):wpAny (model prog w) A (pyNext (.ref it)) Q E s:=by
 obtain⟨o,a1,a2,a3⟩:=id hi;obtain⟨od,b1,b2,b3⟩:=id hm;unfold pyNext;refine VL (wpAny_attempt (wpAny_callSpecial?_slot (name:=Str.ofString "__next__") hi.typeIs F.slot_dict_keyiterator_next
  (wpAny_call_entry F.slot_dict_keyiterator_next hi.typeIs F.entry_dict_keyiterator_next ?_ (F.args_dict_keyiterator_next_1 _))))
 refine VL (VM ?_);refine VL ?_;refine VL ?_
 first|refine VL (wpAny_typeNameOfWhole_keyiter hi.typeIs (VM ?_))|refine VL (wpAny_typeNameOf_keyiter hi.typeIs (VM ?_))
 refine VL (wpAny_fieldsOf a1 a3 ?_);have own:Builtin.Dict_items.ownsTuple "dict_keyiterator"=false:=by decide
 simp only[own,Bool.false_eq_true,if_false];show wpAny (model prog w) _ (if (Value.ref d==Value.none)=true then _ else _) _ _ s;rw[if_neg (show ¬ (Value.ref d==Value.none)=true from Bool.false_ne_true)];refine VL (VM ?_);refine VL (wpAny_dictEntries b1 b3 ?_);rw[if_neg (by simp)];refine VL (VM ?_);refine VL (wpAny_dictEpoch b1 b3 ?_);rw[if_neg (by simp)];refine VM ?_;simp only[show ¬ ((es.size:Int)<0)from by omega,if_false,Int.toNat_natCast,Array.getElem?_eq_none (Nat.le_refl es.size)];refine VL ?_
 first|refine VL (wpAny_typeNameOfWhole_keyiter hi.typeIs (VM ?_))|refine VL (wpAny_typeNameOf_keyiter hi.typeIs (VM ?_))
 show wpAny (model prog w) _ (setField (.ref it) 0 .none >>= _) _ _ s;refine VL (wpAny_setField a1 a3 (by simp) ?_);show wpAny (model prog w) _ (newExc (.type "StopIteration") [] >>= _) _ _ _;refine VL ?_;simp only[newExc,newTuple];refine VL (wpAny_newObj_type ?_ (by size_fits));refine VL (m:=firstArgMember _ _) (wpAny_of_eq (a:=Value.none) (by first|rfl|(simp only[firstArgMember];rfl)) ?_);refine wpAny_newObj_type ?_ (by size_fits);simp only[raiseNew];refine VL (wpAny_handled ?_);rw[show A.in1.handled=none from hh];refine VL (VM (wpAny_throw ?_));refine VL (wpAny_isInstance (T:="StopIteration") (b:=true) ⟨_,VT _ rfl,rfl⟩ isSubtype_stop ?_);exact VM (q _ (((Heap.SameBut.update ..).extBut.push _).push _))
theorem Jkz(hh:A.handled=none)(it d:VB)(hne:d≠it)(es:Array DictEntry)(ep:Nat) :
  Walks prog w A it [it,d] [it] es.size (fun i v=>∃e,es[i]?=some e/\v=e.key) (fun i h=>h.IsKeyIter it d i es.size ep/\RawD h d es ep) where
 sub:=fun b hb=>by simp at hb;simp[hb]
 frame:=fun _ _ _ st hk=>⟨st.1.at fun o e=>hk it (by simp) o e,let⟨o,a,r⟩:=st.2;⟨o,hk d (by simp) o a,r⟩⟩
 item:=fun i s Q E hi st hQ=>by refine Jnj st.1 st.2 hi fun h' a b=>?_;exact hQ _ h' s.toks ⟨es[i],by simp[hi],rfl⟩ ⟨a,let⟨o,x,r⟩:=st.2;⟨o,b.extBut d o hne x,r⟩⟩ fun c o hc e=>b.extBut c o (fun z=>hc (by simp[z])) e
 done:=fun s Q E st hQ=>Jra hh st.1 st.2 fun h' x=>hQ h' s.toks fun b o hb e=>x b o (fun z=>hb (by simp[z])) e
 self:=fun _ _ _ _ st hQ=>wpAny_pyIter_keyiter st.1 hQ
theorem Jdp(hd:(d==sysModules)=false)(es:Array DictEntry)(ep:Nat):PySem.W.KdlSrc prog w "dict" d d es.size (fun i v=>∃e,es[i]?=some e/\v=e.key) (fun h=>RawD h d es ep) where
 type:=fun _ hm=>hm.ty
 there:=fun _ hm=>let⟨_,a,_⟩:=hm;⟨SQ a,SQ a⟩
 keep:=fun _ _ hm hk=>let⟨o,a,r⟩:=hm;⟨o,hk d (.inl rfl) o a,r⟩
 notList:=by decide
 notTuple:=by decide
 hint:=fun _ _ _ _ hm hq=>PySem.W.kdl_hint_dict hm.ty hq
 iter:=fun _ _ hh hm=>⟨_,_,(fun _ _ hq=>Jnk hd hm hq),Jkz hh _ d (let⟨_,a,_⟩:=hm;SF (SQ a)) es ep,⟨⟨_,VT _ rfl,rfl,rfl⟩,let⟨o,a,r⟩:=hm;⟨o,VN _ a,r⟩⟩⟩
end
end L2
namespace Tim
open PySem PyProof.Rows
structure Ok(κ:SortKind)(a0:Array Keyed)(st:SortSt):Prop where
 kind:kindOf st=κ
 fail:failedOf st=none
 perm:(arrOf st).Perm a0
section
variable{prog:VC}{w:VF}{A:VD}{E:VQ}{s:VP}{κ:SortKind}{a0:Array Keyed}
theorem Jjx{arr:Array Keyed}{i:Nat}{st:SortSt}{Q:Keyed->SortSt->Prop}(h:i<arr.size)(q:Q arr[i] st):wpS (model prog w) A E s (elem' arr i) Q st:=by rw[elem'_eq,Array.getElem?_eq_getElem h];exact wpS_pure q
section
variable{a b out:Array Keyed}{ia ib:Nat}
end
section
variable{a b out:Array Keyed}{na nb:Nat}
end
end
end Tim
namespace L2
open PySem PySem.Calls PySem.Spec PyProof.Rows
section
variable{prog:VC}{w:VF}{A:VD}{E:VQ}{s:VP}
theorem WZ{a:VB}{vs:VU}{n:Nat}{P:PySem.Fin->VP->Prop}{Out:VU->Prop}(ho:s.heap.get? a=some (seqObj "list" vs.toArray n))(hz:vs.length<=1000000)
  (h1:vs.length<2->Out vs) (hlen:∀o,Out o->o.length=vs.length)
  (hrun:2<=vs.length->∀ t:VP,(∀ b o,b≠a->s.heap.get? b=some o->t.heap.get? b=some o)->wpAny (model prog w) A (keyKind' vs.toArray) (fun κ t'=>t'=t /\
   wpAny (model prog w) A ((sortRuns').run (SortSt.mk' κ (vs.toArray.zip vs.toArray) #[] 7 none)) (fun r t2=>t2=t/\failedOf r.2=none/\Out ((arrOf r.2).map (·.2)).toList) (fun _ _=>False) t) (fun _ _=>False) t)
  (q:∀out:Array VR,Out out.toList->P (.done (.ret .none)) { s with heap:=sortedHeap s.heap a vs out }):wpAny (model prog w) A (Builtin.«list.sort» ⟨[.ref a],[]⟩) P E s:=by
 have sl:(1000000:Nat)<sizeLine:=by decide
 have hza:vs.toArray.size<=sizeLine:=by rw[List.size_toArray];omega
 have lta:a<s.heap.objs.size:=SQ ho;rw[list_sort_plain];refine VL (listItems_at ho rfl ?_);refine VL (listUpdate_at ho rfl ?_ hza (LX _));obtain⟨e1,ho1⟩:∃e1,(s.heap.update a (Obj.mapSeq fun _=>(#[]:Array VR))).get? a=some (seqObj "list" #[] e1):=⟨_,get?_update_seq ho fun _=>#[]⟩;refine VL (seqEpoch_at ho1 rfl ?_);refine VL (wpAny_newTuple ?_ (by show vs.length<=sizeLine;omega));refine VL (wpAny_newList ?_ (LX _));refine wpAny_holding ?_;show wpAny (model prog w) A _ P E { s with heap:=((s.heap.update a (Obj.mapSeq fun _=>(#[]:Array VR))).push (seqObj "tuple" vs.toArray 0)).push (seqObj "list" #[] 0) };have ho6:(((s.heap.update a (Obj.mapSeq fun _=>(#[]:Array VR))).push (seqObj "tuple" vs.toArray 0)).push (seqObj "list" #[] 0)).get? a=some (seqObj "list" #[] e1):=VN _ (VN _ ho1);have kp:∀b o,b≠a->s.heap.get? b=some o->(((s.heap.update a (Obj.mapSeq fun _=>(#[]:Array VR))).push (seqObj "tuple" vs.toArray 0)).push (seqObj "list" #[] 0)).get? b=some o:=fun b o hb e =>
  VN _ (VN _ ((Heap.SameBut.update s.heap a (Obj.mapSeq fun _=>(#[]:Array VR))).extBut b o hb e))
 dsimp only;by_cases h2:vs.toArray.size<2
 ·rw [if_pos h2,if_pos h2];refine VL (VM ?_);rw[StateT.run_pure];refine VL (VM ?_);dsimp only;have eo:Array.map (·.2) (vs.toArray.zip vs.toArray)=vs.toArray:=by
   apply Array.toList_inj.mp;simp[List.map_snd_zip]
  have h2':vs.length<2:=by rw[List.size_toArray]at h2;exact h2
  refine VL (seqEpoch_at ho6 rfl ?_);refine VL (listUpdate_at ho6 rfl ?_ (LX _) (by show(Array.map (·.2) (vs.toArray.zip vs.toArray)).size<=sizeLine+1;rw[eo];omega));simp only[bne_self_eq_false,Bool.false_eq_true,if_false];refine VM ?_;show P _ { s with heap:=sortedHeap s.heap a vs (Array.map (·.2) (vs.toArray.zip vs.toArray)) };exact q _ (by rw[eo];exact h1 h2')
 ·rw [if_neg h2,if_neg h2];have h2':2<=vs.length:=by rw[List.size_toArray]at h2;omega
  refine VL (wpAny_mono (hrun h2' { s with heap:=((s.heap.update a (Obj.mapSeq fun _=>(#[]:Array VR))).push (seqObj "tuple" vs.toArray 0)).push (seqObj "list" #[] 0) } kp) (fun κ t' hk=>?_) fun _ _ z=>z.elim);obtain⟨rfl,hk⟩:=hk;refine VL (wpAny_mono hk (fun r t2 hr=>?_) fun _ _ z=>z.elim);obtain⟨⟨⟩,st⟩:=r;obtain⟨rfl,hf,hout⟩:=hr;dsimp only;have ol:((arrOf st).map (·.2)).size=vs.length:=by have:=hlen _ hout;rw[Array.length_toList]at this;exact this
  refine VL (seqEpoch_at ho6 rfl ?_);refine VL (listUpdate_at ho6 rfl ?_ (LX _) (by show((arrOf st).map (·.2)).size<=sizeLine+1;rw[ol];omega));have hf:failedOf st=none:=hf;rw[hf];simp only[bne_self_eq_false,Bool.false_eq_true,if_false];exact VM (q _ hout)
theorem Jgy{T:String}{r d:VB}{n:Nat}{Pi:Nat->VR->Prop}{OK:Heap->Prop}{Q:VQ}{Out:VU->VU->Prop}(K:PySem.W.KdlSrc prog w T r d n Pi OK)(hh:A.handled=none)(hok:OK s.heap)(hn:n<=1000000)
  (h1:∀vs:VU,vs.length<2->Out vs vs) (hlen:∀vs o:VU,Out vs o->o.length=vs.length)
  (hrun:∀ (B:VD) (vs:VU),vs.length=n->(∀ (j:Nat) (v:VR),vs[j]?=some v->Pi j v)->2<=n->∀ t:VP,(∀ b o,s.heap.get? b=some o->t.heap.get? b=some o)->wpAny (model prog w) B (keyKind' vs.toArray) (fun κ t'=>t'=t /\
   wpAny (model prog w) B ((sortRuns').run (SortSt.mk' κ (vs.toArray.zip vs.toArray) #[] 7 none)) (fun r t2=>t2=t/\failedOf r.2=none/\Out vs ((arrOf r.2).map (·.2)).toList) (fun _ _=>False) t) (fun _ _=>False) t)
  (q:∀ (D:VB) (h':Heap) (tk:Nat) (vs:VU) (out:Array VR) (c:Nat),(∀ b o,s.heap.get? b=some o->b < D)->(∀ b o,s.heap.get? b=some o->h'.get? b=some o)->vs.length=n->(∀ (j:Nat) (v:VR),vs[j]?=some v->Pi j v)->Out vs out.toList ->
   h'.get? D=some (seqObj "list" out c)->Q (.ref D) { s with heap:=h',toks:=tk }) :
  wpAny (model prog w) A (call (.builtin "sorted") [.ref r]) Q E s:=by
 have sl:(1000000:Nat)<sizeLine:=by decide
 refine call_function_entry kind_sorted plain_sorted entry_sorted (args_sorted1 _) ?_;unfold Builtin.«sorted»;refine VL (m:=checkCount "sorted" 1 1 _) (VM ?_);refine VL (PySem.W.kdu_collect (A:=A.in1) K hh hok (by omega) fun h' tk acc hk hacc=>?_);have la:acc.toList.length=n:=by rw[Array.length_toList];exact hacc.1
 have pa:∀(j:Nat)(v:VR),acc.toList[j]?=some v->Pi j v:=fun j v e=>hacc.2 j v (by rw[<- Array.getElem?_toList];exact e);refine VL (wpAny_newList ?_ (by rw[la];omega));have hoL:(h'.push (seqObj "list" acc.toList.toArray 0)).get? h'.objs.size=some (seqObj "list" acc.toList.toArray 0):=VT _ rfl;show wpAny (model prog w) _ _ _ _ { s with heap:=h'.push (seqObj "list" acc.toList.toArray 0),toks:=tk };refine VL (wpAny_holding (wpAny_call_entry slot_list_sort ⟨_,hoL,rfl⟩ entry_list_sort (WZ (Out:=Out acc.toList) hoL (by rw[la];exact hn) (h1 _) (hlen _) (fun h2 t kp=>hrun _ acc.toList la pa (by omega) t fun b o e=>kp b o ?_ (VN _ (hk b o e))) fun out ho=>⟨_,rfl,?_⟩) (args_list_sort _)))
 ·exact SF (SQ (hk b o e))
 ·refine VM ⟨_,rfl,?_⟩;obtain⟨c,hc⟩:=sortedHeap_at (vs:=acc.toList) (out:=out) hoL;refine q h'.objs.size _ tk acc.toList out c (fun b o e=>SQ (hk b o e)) (fun b o e=>?_) la pa ho hc
  ·rw [sortedHeap_old (Nat.ne_of_lt (Heap.lt_size (hk b o e))) (by rw [size_push']; exact Nat.lt_succ_of_lt (Heap.lt_size (hk b o e)))];exact VN _ (hk b o e)
end
def IsPr(h:Heap)(v:VR)(q:Int×Int):Prop:=∃a o t u n,v=.ref a/\h.get? a=some o/\o.cls=.type "tuple"/\o.data=.seq #[.int q.1 t,.int q.2 u] n
section
variable{prog:VC}{w:VF}{A:VD}{E:VQ}{s:VP}
theorem Jiv:∀{vs:VU}{ps:VX},Paired (IsPr s.heap) vs ps->∃fs,PySem.W.KatTups s.heap vs fs/\fs.length=vs.length/\∀v∈fs,∃i t,v=Value.int i t
 | _,_,.nil=>⟨[],PySem.W.KatTups.nil,rfl,fun v hv=>by cases hv⟩
 | _,_,.cons h r=>by
  obtain⟨fs,k,l,z⟩:=Jiv r;obtain⟨a,o,t,u,n,rfl,h1,h2,h3⟩:=h;refine⟨_,PySem.W.KatTups.cons h1 h2 h3 rfl k,by simp[l],fun v hv=>?_⟩;rcases List.mem_cons.mp hv with rfl|hv
  ·exact ⟨_,_,rfl⟩
  ·exact z v hv
def Reord(vs o:VU):Prop:=∃p:List Nat,p.Perm (List.range vs.length)/\o=p.map fun i=>vs.getD i Value.none
theorem Reord.refl (vs:VU):Reord vs vs:=⟨List.range vs.length,.refl _,by
 apply List.ext_getElem
 ·simp
 ·intro i h1 h2
  simp [h1]⟩
theorem Uu{α β:Type}{f:α->β}:∀{o v:List β},o.Perm v->∀l:List α,v=l.map f->∃l':List α,l'.Perm l/\o=l'.map f:=by
 intro o v h;induction h with
 | nil =>
  intro l e;exact⟨l,.refl _,e⟩
 | cons x _ ih =>
  intro l e;cases l with
  | nil=>cases e
  | cons y r =>
   rw[List.map_cons]at e;obtain⟨e1,e2⟩:=List.cons.inj e;obtain⟨l',p,q⟩:=ih r e2;exact⟨y::l',.cons y p,by rw[List.map_cons,<- e1,<- q]⟩
 | swap x y t =>
  intro l e
  match l,e with
  | [],e=>cases e
  | [_],e=>cases (List.cons.inj e).2
  | a::b::r,e =>
   rw[List.map_cons,List.map_cons]at e;obtain⟨e1,e2⟩:=List.cons.inj e;obtain⟨e3,e4⟩:=List.cons.inj e2;exact⟨b::a::r,.swap a b r,by rw[List.map_cons,List.map_cons,<- e1,<- e3,<- e4]⟩
 | trans _ _ ih1 ih2 =>
  intro l e;obtain⟨l1,p1,e1⟩:=ih2 l e;obtain⟨l2,p2,e2⟩:=ih1 l1 e1;exact⟨l2,p2.trans p1,e2⟩
theorem Reord.of_perm{vs o:VU}(h:o.Perm vs):Reord vs o:=by
 obtain⟨_,_,e⟩:=Reord.refl vs;obtain ⟨p,hp,eo⟩:=Uu (f:=fun i=>vs.getD i Value.none) h (List.range vs.length) (by
  apply List.ext_getElem
  ·simp
  ·intro i h1 h2
   simp [h1])
 exact⟨p,hp,eo⟩
end
theorem ObjOk.there{P:VC}{w:VF}{H:Hp}{h:Heap}{a:VB}{o:HO}(x:ObjOk P w H h a o):∃ob,h.get? a=some ob:=by
 cases o with
 | lst xs=>obtain ⟨_,_,_,_,e⟩:=x; exact ⟨_,e⟩
 | tup xs=>obtain ⟨_,_,_,ob,e,_⟩:=x; exact ⟨_,e⟩
 | dK kvs=>obtain ⟨_,_,_,_,ob,_,_,e,_⟩:=x; exact ⟨_,e⟩
 | dT kvs=>obtain ⟨_,_,_,_,ob,_,_,e,_⟩:=x; exact ⟨_,e⟩
 | set S n=>obtain ⟨ob,_,_,_,e,_⟩:=x; exact ⟨_,e⟩
 | ins C dx fs=>obtain ⟨_,_,_,e,_⟩:=x; exact ⟨_,e⟩
 | own y=>exact x
 | xd fs=>obtain ⟨_,⟨_,_,_,e,_⟩,_⟩:=x; exact ⟨_,e⟩
 | rng lo hi=>obtain ⟨_,_,_,e⟩:=x; exact ⟨_,e⟩
 | frz ob u=>exact ⟨_,x.1⟩
 | tbl ps=>exact ⟨_,x⟩
 | met f y=>exact ⟨_,x⟩
 | ext φ=>exact x.2.1
theorem Paired.of_get{α β:Type}{F:α->β->Prop}:∀{l:List α}{r:List β},l.length=r.length->(∀(j:Nat)(x:α)(y:β),l[j]?=some x->r[j]?=some y->F x y)->Paired F l r
 | [],[],_,_=>.nil
 | x::l,y::r,h,f=>.cons (f 0 x y rfl rfl) (Paired.of_get (by simpa using h) fun j a b e1 e2=>f (j + 1) a b (by simpa using e1) (by simpa using e2))
 | [],_::_,h,_=>by cases h
 | _::_,[],h,_=>by cases h
theorem Paired.of_map{α β γ:Type}{F:α->β->Prop}{f:γ->α}{g:γ->β}:∀{l:List γ},(∀c∈l,F (f c) (g c))->Paired F (l.map f) (l.map g)
 | [],_=>.nil
 | c::r,h=>.cons (h c SG) (Paired.of_map fun d hd=>h d (SD _ hd))
def JF(q:Int×Int):List Key:=[Sum.inl q.1,Sum.inl q.2]
section
variable{X:Cx}
theorem Inv.newFp{pins:VW}{σ:St}{H:Hp}{s:VP}(I:Inv X pins σ H s){D:VB}(hD:∀b o,s.heap.get? b=some o->b<D):FpOk X pins H D:=by
 obtain⟨m,⟨oL,_,_,eL,_⟩,_⟩:=id I.loc;have hL:=hD _ _ eL;refine⟨?_,Nat.ne_of_gt hL,fun z=>?_,.inr (SZ (Nat.lt_of_le_of_lt I.ok.above hL)),fun x c e z=>?_,fun p hp z=>?_⟩
 ·cases e:H D with
  | none=>rfl
  | some u =>
   obtain⟨ob,eo⟩:=(I.hok D u e).there;exact absurd (hD _ _ eo) (SW _)
 ·obtain ⟨_,o,ho,_⟩:=I.ok.funs.mem z;obtain⟨o',ho'⟩:=I.base.there D o ho fun q=>I.ok.exfs D q z;exact absurd (hD _ _ ho') (SW _)
 ·obtain ⟨v,o,ho,_⟩:=I.cell x c e;exact absurd (hD _ _ ho) (by rw[z];exact SW _)
 ·exact absurd (hD _ _ (I.pin p hp).1) (by rw [z]; exact SW _)
end
section
variable{X:Cx}
end
end L2
namespace L2
open PySem PySem.Spec PyProof.Rows PySem.AutoSeq1
theorem Jeg(l:VB)(xs:Array VR) :
  Meets (Builtin.«enumerate.__new__» ⟨[.type "enumerate",.ref l],[]⟩) (fun _ R s=>s.heap.IsTuple l xs /\
   R (.ok (.ret (.ref (zpa s.heap l).objs.size))) { s with heap:=(zpa s.heap l).push { cls:=.type "enumerate",data:=.fields #[.none,.bool false,.ref s.heap.objs.size,rawInt 0,.none,.none] } }) :=
 .of_wp fun prog w A R s h=>by
  obtain⟨hp,g,d,tk,os⟩:=s;obtain⟨t1,h⟩:=h;have f0:=sub_enumerate;have T1:Heap.IsTuple (Shared.heap ⟨hp,g,d,tk,os⟩) l xs:=t1;obtain⟨ob,hl,hcl,nn,hdl⟩:=id t1;wp_walk using wpAny_loadPart' hl;refine wpAny_stack_any fun st=>VM ?_;split
  ·rename_i c _ _ _ _ _;cases (c==Value.type "enumerate")
   ·wp_walk using wpAny_loadPart' hl,wpAny_pyIter_tuple T1;exact⟨_,rfl,h⟩
   ·wp_walk using wpAny_loadPart' hl,wpAny_pyIter_tuple T1;exact⟨_,rfl,h⟩
  ·wp_walk using wpAny_loadPart' hl,wpAny_pyIter_tuple T1;exact⟨_,rfl,h⟩
theorem Jbx{prog:VC}{w:VF}{A:VD}{E:VQ}{s:VP}{l:VB}{xs:Array VR}{Q:VQ}(h1:s.heap.IsTuple l xs)
  (q:∀h',IsEnum h' (s.heap.objs.size+1) s.heap.objs.size 0 .none->h'.IsTupleIter s.heap.objs.size l 0->(∀c o,s.heap.get? c=some o->h'.get? c=some o)->Q (.ref (s.heap.objs.size+1)) { s with heap:=h' }) :
  wpAny (model prog w) A (call (.type "enumerate") [.ref l]) Q E s:=by
 refine callType_new F.called_enumerate (by decide) (F.typeCall_enumerate_1 _) (F.newCall_enumerate_1 _) (fun obj=>F.args_object_init_2 obj _) F.entry_enumerate_new (Jeg l xs) ⟨h1,?_⟩;have hz:(zpa s.heap l).objs.size=s.heap.objs.size+1:=Heap.size_push ..;show _/\_;rw[hz];have he:IsEnum ((zpa s.heap l).push { cls:=.type "enumerate",data:=.fields #[.none,.bool false,.ref s.heap.objs.size,rawInt 0,.none,.none] }) (s.heap.objs.size+1) s.heap.objs.size 0 .none:=by have:=VT (zpa s.heap l) (o:={ cls:=.type "enumerate",data:=.fields #[.none,.bool false,.ref s.heap.objs.size,rawInt 0,.none,.none] }) rfl;rw[hz]at this;exact this
 exact⟨⟨_,he,rfl⟩,q _ he ⟨_,VN _ (VT _ rfl),rfl,rfl⟩ fun b o x=>VN _ (VN _ x)⟩
def Ite (a:VB):It:=⟨fun i H=>∃ xs,H a=some (.tup xs)/\i < xs.length,
 fun i H x H'=>∃p v,x=.ref p/\H p=none/\H'=upd H p (.tup [.int i,v])/\∀xs,H a=some (.tup xs)->xs[i]?=some v,
 fun i H=>∃ xs,H a=some (.tup xs)/\i=xs.length⟩
theorem Jkr{P:VC}{w:VF}{K:VG}{es:List Expr}{kt:Nat}{tp:Pos}(a e it:VB)(d1:e≠it) :
  Turn P w K (.Tuple es kt tp) (Ite a) [e,it] e (fun i h=>(∃old,IsEnum h e it i old)/\h.IsTupleIter it a i) where
 mem:=by simp
 obj:=fun i h st c hc=>by
  obtain⟨⟨old,s1⟩,⟨o2,s2,_,q2⟩⟩:=st;simp only[List.mem_cons,List.not_mem_nil,or_false]at hc;rcases hc with rfl|rfl
  ·exact ⟨_,s1,fun v=>by intro q; cases q⟩
  ·exact ⟨_,s2,fun v=>by intro q; rw [q2] at q; cases q⟩
 keep:=fun i h h' st kp=>by obtain⟨⟨old,s1⟩,⟨o2,s2,r2⟩⟩:=st;exact⟨⟨old,kp e (by simp) _ s1⟩,⟨o2,kp it (by simp) _ s2,r2⟩⟩
 item:=by
  intro X hP hw hK hc i pins s σ H E I hf st hg;subst hP hw hK;obtain⟨xs,ha,l1⟩:=hg;obtain⟨⟨old,s1⟩,s2⟩:=st;have nf:∀{c:VB}{o:HO},H c=some o->∀b∈[e,it],c≠b:=fun hcc b hb q=>by rw[q,(hf b hb).1]at hcc;cases hcc
  obtain⟨its,r1,t1,_⟩:=I.tuple (SqT.of ha);have hh:X.A.in1.handled=none:=I.ok.hd hc;have e1:its.toArray.size=xs.length:=by rw[List.size_toArray,<- r1.length]
  have nef:e∉[it,a]:=by simp only[List.mem_cons,List.not_mem_nil,or_false,not_or];exact⟨d1,(nf ha e (by simp)).symm⟩
  refine wpAny_pyNext_enum_itemD (Yg hh it a (nf ha it (by simp)) its.toArray) s1 ⟨s2,t1⟩ (by omega) d1 nef fun x h' tk px z1 z2 z3 z4 kp=>⟨_,rfl,?_⟩;have px:its[i]?=some x:=by simpa using px
  obtain⟨vx,hx⟩:∃v,xs[i]?=some v:=⟨xs[i],by simp[l1]⟩;obtain⟨x',q1,rx⟩:=r1.get hx;rw[px]at q1;cases q1;refine wpAny_letOwnedTupleGo_enum z1 fun g2 zz hs=>?_;have fr:H s.heap.objs.size=none:=I.hok.fresh (SJ _);have I1:Inv X pins σ H { s with heap:=g2,toks:=tk + 1 }:=I.turnedL (l:=[e,it]) (t':=tk + 1) (fun c o hc e=>by
   simp only[List.mem_cons,List.not_mem_nil,or_false,not_or]at hc
   exact hs.extBut _ _ hc.1 (kp c o hc.1 hc.2 e)) fun c hc=>hf c hc
  have fp:=I.fpOk (H':=H) (SJ _) fr;have nz:∀b∈[e,it],b≠s.heap.objs.size:=fun b hb q=>by
   obtain⟨o,ho⟩:∃o,s.heap.get? b=some o:=by
    obtain⟨o2,s2,_⟩:=s2;simp only[List.mem_cons,List.not_mem_nil,or_false]at hb;rcases hb with rfl|rfl
    ·exact ⟨_,s1⟩
    ·exact ⟨_,s2⟩
   exact absurd (SQ ho) (by rw[q];exact SW _)
  have at2:g2.get? s.heap.objs.size=some { cls:=.type "tuple",data:=.seq #[.int i tk,x] }:=hs.extBut _ _ (nz e (by simp)).symm z3;refine ⟨.ref s.heap.objs.size,upd H s.heap.objs.size (.tup [.int i,vx]),I1.adopt fp ⟨?_,[.int i tk,x],.cons ⟨_,rfl⟩ (.cons rx .nil),⟨_,at2,rfl,_,rfl⟩⟩,rfl,⟨_,vx,rfl,fr,rfl,fun xs' q1=>?_⟩,
   ⟨⟨_,zz⟩,z2.1.extBut hs.extBut d1.symm⟩,fun c hc=>?_⟩
  ·show 2<=sizeLine;decide
  ·rw [ha] at q1; cases q1;exact hx
  ·rw [Jj (nz c hc)];exact(hf c hc).1
 done:=by
  intro X hP hw hK hc i pins s σ H E I hf st hg;subst hP hw hK;obtain⟨xs,ha,hl⟩:=hg;obtain⟨⟨old,s1⟩,s2⟩:=st;have nf:∀{c:VB}{o:HO},H c=some o->∀b∈[e,it],c≠b:=fun hcc b hb q=>by rw[q,(hf b hb).1]at hcc;cases hcc
  obtain⟨its,r1,t1,_⟩:=I.tuple (SqT.of ha);have hh:X.A.in1.handled=none:=I.ok.hd hc;have e1:its.toArray.size=i:=by rw[List.size_toArray,<- r1.length,hl]
  subst e1;refine wpAny_pyNext_enum_endD (Yg hh it a (nf ha it (by simp)) its.toArray) s1 ⟨s2,t1⟩ fun h' eb=>⟨rfl,?_⟩;exact I.turnedL (l:=[e,it]) (t':=s.toks) (fun c o hc e=>by
   simp only[List.mem_cons,List.not_mem_nil,or_false,not_or]at hc
   exact eb c o hc.2 e) fun c hc=>hf c hc
 self:=fun _ _ _ _ _ st h=>by obtain⟨⟨old,s1⟩,_⟩:=st;exact wpAny_pyIter_enum s1 h
section
variable{X:Cx}{es:List Expr}{kt:Nat}{tp:Pos}
theorem Jcx:bootBuiltins "enumerate"=some (.type "enumerate"):=by decide +kernel
def iEnum(ta:TA):TI:=fun σ H R=>ta σ H fun vs H1=>∃a xs,vs=[.ref a]/\H1 a=some (.tup xs)/\R (Ite a) H1
theorem Jrh{a:Expr}{ta:TA}{p pos:Pos}(hg:Gl X "enumerate")(hm:X.mg "enumerate"=none)(ha:PA X [a] ta)(hs:starEach [a] X.env=[(false,eval a X.env)]:=by rfl) :
  PI X (.Tuple es kt tp) (.Call (.Name "enumerate" p) [a] [] pos) (iEnum ta):=by
 intro pins s σ H R I h;refine Call_ (Zk I hg hm Jcx (PyProof.Rows.callWith_type1 (thn (ha pos pins s σ H _ I h) fun us s1 h1=>?_) hs rfl));obtain⟨vs,H1,I1,r1,a,xs,e,ha,q⟩:=h1;subst e;obtain⟨u,rfl,ru⟩:=Ym r1;cases ru;obtain⟨its,_,t1,_⟩:=I1.tuple (SqT.of ha);refine Jbx t1 fun h' z1 z2 kp=>wpAny_pyIter_enum z1 ?_;have I2:Inv X pins σ H1 { s1 with heap:=h' }:=I1.kept (t':=s1.toks) kp;have fr:∀k:Nat,H1 (s1.heap.objs.size+k)=none:=fun k=>I1.hok.fresh (Nat.le_add_right _ _);refine⟨s1.heap.objs.size+1,_,_,Ite a,H1,rfl,I2,Jkr a (s1.heap.objs.size+1) s1.heap.objs.size (Nat.succ_ne_self _),⟨⟨_,z1⟩,z2⟩,fun c hc=>?_,q⟩;simp only[List.mem_cons,List.not_mem_nil,or_false]at hc;rcases hc with rfl|rfl
 ·exact I1.fpOk (Nat.le_add_right _ _) (fr 1)
 ·exact I1.fpOk (SJ _) (fr 0)
end
section
variable{K:VG}{g:TG}{tc:TT}{te:TE}{σ:St}{H:Hp}{R:VS->Hp->Prop}
theorem Jrx{a:VB}{xs:VS}(Pv:Nat->VS->Hp->Prop)(h0:Pv 0 [] H)
  (hl:∀i zs H,i<=xs.length->Pv i zs H->H a=some (.tup xs)/\zs.length<=sizeLine) (hd:∀zs H,Pv xs.length zs H->R zs H)
  (hs:∀ (i:Nat) v zs H p,xs[i]?=some v->i < xs.length->Pv i zs H->H p=none->g (.ref p) σ (upd H p (.tup [.int i,v])) fun σ2 H2=>tc σ2 H2 fun b H3 =>
   if b=true then te σ2 H3 fun y H4=>∃ m',m' < xs.length - i/\Wn xs.length Pv (i + 1) m' (zs++[y]) H4 else ∃ m',m' < xs.length - i/\Wn xs.length Pv (i + 1) m' zs H3) :
  ∃W:Nat->Nat->VS->Hp->Prop,(∃m,W 0 m [] H)/\∀i m ys H,W i m ys H->((Ite a).stop i H/\ys.length<=sizeLine/\R ys H) \/
   ((Ite a).go i H/\ys.length<=sizeLine/\∀ x H',(Ite a).yld i H x H'->g x σ H' fun σ2 H2=>tc σ2 H2 fun b H3 =>
    if b=true then te σ2 H3 fun y H4=>∃ m',m' < m/\W (i + 1) m' (ys++[y]) H4 else ∃ m',m' < m/\W (i + 1) m' ys H3):=by
 refine Jcl xs.length Pv h0 (fun zs H p=>?_) (fun i zs H hi p=>?_)
 ·obtain ⟨q1,z⟩:=hl _ zs H (SJ _) p;exact⟨⟨xs,q1,rfl⟩,z,hd zs H p⟩
 ·obtain ⟨q1,z⟩:=hl i zs H (SZ hi) p;refine⟨⟨xs,q1,hi⟩,z,fun x H' y=>?_⟩;obtain⟨p',v,e1,e2,e3,y⟩:=y;subst e1 e3;exact hs i v zs H p' (y xs q1) hi p e2
end
end L2
namespace L2
open PySem PySem.Calls PySem.Spec PyProof.Rows
def eqVs:VS->VS->Bool
 | [],[]=>true
 | x::xs,y::ys=>eqV x y && eqVs xs ys
 | _,_=>false
theorem WU:∀(a b:VY),eqVs (a.map V.int) (b.map V.int)=decide (a=b)
 | [],[]=>by simp [eqVs]
 | [],_::_=>by simp [eqVs]
 | _::_,[]=>by simp [eqVs]
 | x::r,y::q=>by show(eqV (.int x) (.int y)&&eqVs (r.map V.int) (q.map V.int))=_;rw[WU r q,Bool.eq_iff_iff];simp[eqV]
theorem Jee:∀(a b:List Bool),eqVs (a.map V.bl) (b.map V.bl)=decide (a=b)
 | [],[]=>by simp [eqVs]
 | [],_::_=>by simp [eqVs]
 | _::_,[]=>by simp [eqVs]
 | x::r,y::q=>by show(eqV (.bl x) (.bl y)&&eqVs (r.map V.bl) (q.map V.bl))=_;rw[Jee r q,Bool.eq_iff_iff];simp[eqV]
theorem Qi:∀{a b:VS},eqVs a b=true->a.length=b.length
 | [],[],_=>rfl
 | [],_::_,h=>by cases h
 | _::_,[],h=>by cases h
 | x::r,y::q,h=>by have h:(eqV x y&&eqVs r q)=true:=h;rw[Bool.and_eq_true]at h;simp[Qi h.2]
def eqN(a b:VS)(j:Nat):Bool:=match a[j]?,b[j]? with
 | some x,some y=>eqV x y
 | _,_=>false
theorem Qj:∀{a b:VS},a.length=b.length->(List.range a.length).all (eqN a b)=eqVs a b
 | [],[],_=>rfl
 | [],_::_,h=>by cases h
 | _::_,[],h=>by cases h
 | x::r,y::q,h=>by have ih:=Qj (a:=r) (b:=q) (by simpa using h);rw[List.length_cons,List.range_succ_eq_map,List.all_cons,List.all_map];show(eqV x y&&(List.range r.length).all (fun j=>eqN (x::r) (y::q) (j+1)))=(eqV x y&&eqVs r q);rw[<- ih];congr 1
theorem Jbo(a b:VS):((List.range (min a.length b.length)).all (eqN a b)&&a.length==b.length)=eqVs a b:=by
 by_cases h:a.length=b.length
 ·rw [<- Qj h,<- h,Nat.min_self];simp
 ·have e1:(a.length == b.length)=false:=by simpa using h
  have e2:eqVs a b=false:=by rw[<- Bool.not_eq_true];exact fun z=>h (Qi z)
  rw[e1,e2,Bool.and_false]
section
variable{X:Cx}
theorem Jbp{A:VD}{s:VP}{xs ys:VS}{us vs:VU}(r1:Vals xs us)(r2:Vals ys vs)(f1:xs.all YB=true)(f2:ys.all YB=true)(j:Nat)(h1:j<us.toArray.size)(h2:j<vs.toArray.size) :
  SeqAt.EqAt A s us.toArray[j] vs.toArray[j] (eqN xs ys j):=by
 have h1':j<us.length:=by simpa using h1
 have h2':j<vs.length:=by simpa using h2
 have k1:j<xs.length:=by rw[r1.length];exact h1'
 have k2:j<ys.length:=by rw[r2.length];exact h2'
 obtain⟨u,e1,q1⟩:=r1.get (i:=j) (x:=xs[j]) (by simp[k1]);obtain⟨v,e2,q2⟩:=r2.get (i:=j) (x:=ys[j]) (by simp[k2]);have e1:us[j]=u:=by simpa [h1']using e1
 have e2:vs[j]=v:=by simpa [h2']using e2
 have en:eqN xs ys j=eqV xs[j] ys[j]:=by unfold eqN;rw[List.getElem?_eq_getElem k1,List.getElem?_eq_getElem k2]
 rw[en,List.getElem_toArray,List.getElem_toArray,e1,e2];exact Jpz q1 q2 (SM.mp f1 _ (LV k1)) (SM.mp f2 _ (LV k2))
def rEqT(neg:Bool):R2:=fun x y H Q=>∃a b xs ys,x=.ref a/\y=.ref b/\H a=some (.tup xs)/\H b=some (.tup ys)/\xs.all YB=true/\ys.all YB=true/\Q (.bl (if neg then !eqVs xs ys else eqVs xs ys)) H
theorem Jus(hu:X.A.units<cLine):OpR X (compareOp .Eq) (rEqT false):=by intro pins s σ H x y v u Q I rx ry h;obtain⟨a,b,xs,ys,rfl,rfl,ha,hb,f1,f2,q⟩:=h;cases rx;cases ry;obtain⟨its,r1,p1,_⟩:=I.tuple (SqT.of ha);obtain⟨its2,r2,p2,_⟩:=I.tuple (SqT.of hb);refine SeqAt.eq_tupleAt (e:=eqN xs ys) p1 p2 hu (fun j h1 h2=>Jbp r1 r2 f1 f2 j h1 h2) ⟨.bl _,H,I,rfl,?_⟩;rw[List.size_toArray,List.size_toArray,<- r1.length,<- r2.length,Jbo];exact q
theorem Jny(hu:X.A.units<cLine):OpR X (compareOp .NotEq) (rEqT true):=by intro pins s σ H x y v u Q I rx ry h;obtain⟨a,b,xs,ys,rfl,rfl,ha,hb,f1,f2,q⟩:=h;cases rx;cases ry;obtain⟨its,r1,p1,_⟩:=I.tuple (SqT.of ha);obtain⟨its2,r2,p2,_⟩:=I.tuple (SqT.of hb);refine SeqAt.RcNeAt.tuples (e:=eqN xs ys) p1 p2 hu (fun j h1 h2=>Jbp r1 r2 f1 f2 j h1 h2) _ _ _ _ ⟨.bl _,H,I,rfl,?_⟩;rw[List.size_toArray,List.size_toArray,<- r1.length,<- r2.length,Jbo];exact q
def rEqL(K:VG)(neg:Bool):R2:=fun x y H Q=>∃a b xs ys,x=.ref a/\y=.ref b/\SqL K H a xs/\SqL K H b ys/\xs.all YB=true/\ys.all YB=true/\Q (.bl (if neg then !eqVs xs ys else eqVs xs ys)) H
theorem Jut(hu:X.A.units<cLine):OpR X (compareOp .Eq) (rEqL X.K false):=by
 intro pins s σ H x y v u Q I rx ry h;obtain⟨a,b,xs,ys,rfl,rfl,ha,hb,f1,f2,q⟩:=h;cases rx;cases ry;obtain⟨its,r1,p1,_⟩:=I.list ha;obtain⟨its2,r2,p2,_⟩:=I.list hb;by_cases hl:xs.length=ys.length
 ·refine SeqAt.eq_listAt (e:=eqN xs ys) p1.isList p2.isList (by rw [List.size_toArray,List.size_toArray,<- r1.length,<- r2.length]; exact hl) hu (fun j h1 h2=>Jbp r1 r2 f1 f2 j h1 h2) ⟨.bl _,H,I,rfl,?_⟩;rw[List.size_toArray,<- r1.length,Qj hl];exact q
 ·have e2:eqVs xs ys=false:=by
   rw[<- Bool.not_eq_true];exact fun z=>hl (Qi z)
  refine SeqAt.eq_list_lengthsAt p1.isList p2.isList (by rw[List.size_toArray,List.size_toArray,<- r1.length,<- r2.length];simpa using hl) hu ⟨.bl _,H,I,rfl,?_⟩;rw[<- e2];exact q
theorem Juq(hu:X.A.units<cLine):OpR X (compareOp .NotEq) (rEqL X.K true):=by
 intro pins s σ H x y v u Q I rx ry h;obtain⟨a,b,xs,ys,rfl,rfl,ha,hb,f1,f2,q⟩:=h;cases rx;cases ry;obtain⟨its,r1,p1,_⟩:=I.list ha;obtain⟨its2,r2,p2,_⟩:=I.list hb;by_cases hl:xs.length=ys.length
 ·refine SeqAt.RcNeAt.lists (e:=eqN xs ys) p1.isList p2.isList (by rw [List.size_toArray,List.size_toArray,<- r1.length,<- r2.length]; exact hl) hu (fun j h1 h2=>Jbp r1 r2 f1 f2 j h1 h2) _ _ _ _ ⟨.bl _,H,I,rfl,?_⟩;rw[List.size_toArray,<- r1.length,Qj hl];exact q
 ·have e2:eqVs xs ys=false:=by
   rw[<- Bool.not_eq_true];exact fun z=>hl (Qi z)
  rw[e2]at q;exact SeqAt.RcNeAt.lists_lengths p1.isList p2.isList (by rw[List.size_toArray,List.size_toArray,<- r1.length,<- r2.length];simpa using hl) hu _ _ _ _ ⟨.bl true,H,I,rfl,q⟩
end
section
variable{X:Cx}
end
section
variable{prog:VC}{w:VF}{A:VD}{E:VQ}{s:VP}
end
section
variable{X:Cx}
end
section
variable{X:Cx}
def TpL(H:Hp):VS->List (VY)->Prop:=Paired fun v ns=>∃q,v=V.ref q/\H q=some (.tup (ns.map V.int))
theorem JL(ns:VY):(ns.map V.int).all YB=true:=by rw[List.all_map];exact SM.mpr fun _ _=>rfl
end
end L2
namespace L2
open PySem PySem.Calls PySem.Spec PyProof.Rows PySem.W
section
variable{prog:VC}{w:VF}{A:VD}{R:Result->VP->Prop}{h:Heap}{g:Array GenState}{d:Drawn}{t:Nat}{os:OsState}{C f:VB}{bm:VU}
end
section
variable{X:Cx}{pins:VW}{σ:St}{H:Hp}{s:VP}
variable{e:Expr}{es:List Expr}{p apos pos:Pos}{t:TA}{C:VB}{bm:VU}{pl:Sem Bool}
variable{CX:CXT}{k:Nat}{f:VB}{fd:FuncData}{ps:VJ}{sp:Sp}{E:XK}{x:Str}
end
section
variable{X:Cx}{pins:VW}{σ:St}{H:Hp}{s:VP}{CX:CXT}{k:Nat}{f C:VB}{fd:FuncData}{ps:VJ}{sp:Sp}{E:XK}{x:Str}{p pos:Pos}{e:Expr}{es:List Expr}{t:TA}{bm:VU}
end
section
variable{P:VC}{w:VF}{outer:List Env}{H H':Hp}{s s':VP}{y:VB}{cls:VR}{dct:Option VB}
end
section
variable{P:VC}{w:VF}{K:Frag}{mg:VZ}{base:Heap}{N:VJ}{qual:Str}{scope:Scope}{f:VB}{cd:VR}{A:VD}{outer:List Env}{s:VP}{H:Hp}{E:XK}
variable{pins:VW}{σ:St}{H1:Hp}{s1:VP}{y C:VB}{dct:Option VB}
end
section
variable{P:VC}{w:VF}{K:Frag}{mg:VZ}{base:Heap}{N:VJ}{qual:Str}{scope:Scope}{f:VB}{cd:VR}{A:VD}{outer:List Env}{s:VP}{H:Hp}{E:XK}
variable{C:VB}{bm:VU}{e:Expr}{te:TE}{pos:Pos}
end
section
variable{prog:VC}{w:VF}{A:VD}{E:VQ}{s:VP}{K:Frag}{y C:VB}
end
section
variable{X:Cx}
end
section
variable{X:Cx}{pins:VW}{σ:St}{H H':Hp}{s s':VP}{y:VB}{cls:VR}{dct:Option VB}
variable{k:Nat}{x:Str}{ps:VJ}{sp:Sp}{p pos:Pos}{e:Expr}{es:List Expr}{t:TA}{te:XK->TE}
variable{st b₀:Stmt}{suite:List Stmt}{i:Nat}{n c:Str}{pc hpos:Pos}{W:VB}{tb:XK->TS}{th:TS}
end
section
variable{X:Cx}{k:Nat}{x:Str}{ps:VJ}{sp:Sp}{p pos:Pos}{e:Expr}{es:List Expr}{t:TA}
end
end L2
namespace L2
open PySem PySem.Calls PySem.Spec PyProof.Rows PySem.W PySem.Builtin PySem.Builtin.ObjectAttr
section
variable{prog:VC}{w:VF}{A:VD}{E:VQ}{s:VP}{K:Frag}{x C:VB}{ox:Obj}{od:Option Obj}{name:Str}{v:VR}{Q:Unit->VP->Prop}
end
section
variable{X:Cx}{pins:VW}{σ:St}{H:Hp}{s:VP}{y C D:VB}{fs:List (Str×V)}{f:Str}{v:V}{u:VR}{A:VD}{E:VQ}{Q:Unit->VP->Prop}
end
section
variable{prog:VC}{w:VF}{A:VD}{E:VQ}{s:VP}{K:Frag}{y C:VB}{ox:Obj}{od:Obj}{name:Str}{v:VR}{Q:VQ}{expr:Bool}
end
section
variable{X:Cx}{e:Expr}{pos:Pos}{te:TE}
end
end L2
namespace L2
open PySem PySem.Spec PyProof.Rows
section
variable{X:Cx}
def CDivW(_ j:Int):Prop:=0<j/\j.natAbs.log2<9000
theorem Joa:OpR X (binaryOp .FloorDiv) (rI CDivW fun i j=>.int (i/j)):=opI fun i j _ _ _ _ _ hc q=>by have h1:(0:Int)<j:=hc.1;have e:=Int.fdiv_eq_ediv_of_nonneg i (Int.le_of_lt h1);exact floordiv_int (Int.ne_of_gt h1) (e▸q) (.inl (PyProof.noPylong_of_log2 hc.2))
theorem Jru{ns:VY}{its:VU}{zs:Array (Int×Tok)}(rv:Vals (ns.map V.int) its)(e:its.toArray=intItems zs):zs.size=ns.length/\∀i (h:i<ns.length),numAt zs i=ns[i]:=by
 have hl:zs.size=ns.length:=by
  have h1:its.toArray.size=zs.size:=by rw[e];simp[intItems]
  have h2:=rv.length;rw[List.length_map]at h2;rw[List.size_toArray]at h1;omega
 refine⟨hl,fun i h=>?_⟩;obtain⟨u,e1,t,e2⟩:=rv.get (i:=i) (x:=V.int ns[i]) (by simp[h]);have e3:(intItems zs)[i]?=some u:=by rw[<- e];simpa using e1
 obtain⟨t',e4⟩:=intItems_at e3;rw[e2]at e4;injection e4 with e5 _
 exact e5.symm
theorem Jfh{f:Nat->Int}{ns:VY}(h:∀i (h:i<ns.length),f i=ns[i]):∀k,k<=ns.length->preSum f k=(ns.take k).sum
 | 0,_=>by simp [preSum]
 | k + 1,hk=>by show preSum f k+f k=_;rw[Jfh h k (by omega),h k (by omega),List.take_add_one,List.sum_append,List.getElem?_eq_getElem (by omega)];simp
theorem Jml:bootBuiltins "sum"=some (.builtin "sum"):=by decide +kernel
theorem Jmf(hc:X.calm=true):Yd X (.builtin "sum") (fun xs H Q=>∃(p:VB)(ns:VY),xs=[.ref p]/\SqL X.K H p (ns.map V.int)/\Q (.int ns.sum) H):=by
 intro pins s σ H xs us Q I r h;obtain⟨p,ns,rfl,hq,q⟩:=h;obtain⟨u,rfl,ru⟩:=Ym r;cases ru;obtain⟨its,rv,pl,hz⟩:=I.list hq;obtain⟨zs,e⟩:=(Zu rv).allInts.items;obtain⟨n1,n2⟩:=Jru rv e;have pz:=pl.isList;rw[e]at pz;refine sum_intListG (I.ok.hd hc) pz fun h' tk t' hk=>?_;have e2:preSum (numAt zs) zs.size=ns.sum:=by rw[n1,Jfh n2 _ (Nat.le_refl _),List.take_of_length_le (Nat.le_refl _)]
 exact⟨.int ns.sum,H,I.kept hk,⟨t',by rw[e2]⟩,q⟩
end
end L2
namespace L2
open PySem PySem.Spec PyProof.Rows PySem.AutoSeq1
def IteL (a:VB):It:=⟨fun i H=>∃ xs,H a=some (.lst xs)/\i < xs.length,
 fun i H x H'=>∃p v,x=.ref p/\H p=none/\H'=upd H p (.tup [.int i,v])/\∀xs,H a=some (.lst xs)->xs[i]?=some v,
 fun i H=>∃ xs,H a=some (.lst xs)/\i=xs.length⟩
theorem Jgt{P:VC}{w:VF}{K:VG}{es:List Expr}{kt:Nat}{tp:Pos}(a e it:VB)(d1:e≠it) :
  Turn P w K (.Tuple es kt tp) (IteL a) [e,it] e (fun i h=>(∃old,IsEnum h e it i old)/\h.IsListIter it a i) where
 mem:=by simp
 obj:=fun i h st c hc=>by
  obtain⟨⟨old,s1⟩,⟨o2,s2,_,q2⟩⟩:=st;simp only[List.mem_cons,List.not_mem_nil,or_false]at hc;rcases hc with rfl|rfl
  ·exact ⟨_,s1,fun v=>by intro q; cases q⟩
  ·exact ⟨_,s2,fun v=>by intro q; rw [q2] at q; cases q⟩
 keep:=fun i h h' st kp=>by obtain⟨⟨old,s1⟩,⟨o2,s2,r2⟩⟩:=st;exact⟨⟨old,kp e (by simp) _ s1⟩,⟨o2,kp it (by simp) _ s2,r2⟩⟩
 item:=by
  intro X hP hw hK hc i pins s σ H E I hf st hg;subst hP hw hK;obtain⟨xs,ha,l1⟩:=hg;obtain⟨⟨old,s1⟩,s2⟩:=st;have nf:∀{c:VB}{o:HO},H c=some o->∀b∈[e,it],c≠b:=fun hcc b hb q=>by rw[q,(hf b hb).1]at hcc;cases hcc
  obtain⟨its,r1,t1,_⟩:=I.list (SqL.of ha);have hh:X.A.in1.handled=none:=I.ok.hd hc;have e1:its.toArray.size=xs.length:=by rw[List.size_toArray,<- r1.length]
  have nef:e∉[it,a]:=by simp only[List.mem_cons,List.not_mem_nil,or_false,not_or];exact⟨d1,(nf ha e (by simp)).symm⟩
  refine wpAny_pyNext_enum_itemD (Draws.list hh it a (nf ha it (by simp)) its.toArray) s1 ⟨s2,t1.isList⟩ (by omega) d1 nef fun x h' tk px z1 z2 z3 z4 kp=>⟨_,rfl,?_⟩;have px:its[i]?=some x:=by simpa using px
  obtain⟨vx,hx⟩:∃v,xs[i]?=some v:=⟨xs[i],by simp[l1]⟩;obtain⟨x',q1,rx⟩:=r1.get hx;rw[px]at q1;cases q1;refine wpAny_letOwnedTupleGo_enum z1 fun g2 zz hs=>?_;have fr:H s.heap.objs.size=none:=I.hok.fresh (SJ _);have I1:Inv X pins σ H { s with heap:=g2,toks:=tk + 1 }:=I.turnedL (l:=[e,it]) (t':=tk + 1) (fun c o hc e=>by
   simp only[List.mem_cons,List.not_mem_nil,or_false,not_or]at hc
   exact hs.extBut _ _ hc.1 (kp c o hc.1 hc.2 e)) fun c hc=>hf c hc
  have fp:=I.fpOk (H':=H) (SJ _) fr;have nz:∀b∈[e,it],b≠s.heap.objs.size:=fun b hb q=>by
   obtain⟨o,ho⟩:∃o,s.heap.get? b=some o:=by
    obtain⟨o2,s2,_⟩:=s2;simp only[List.mem_cons,List.not_mem_nil,or_false]at hb;rcases hb with rfl|rfl
    ·exact ⟨_,s1⟩
    ·exact ⟨_,s2⟩
   exact absurd (SQ ho) (by rw[q];exact SW _)
  have at2:g2.get? s.heap.objs.size=some { cls:=.type "tuple",data:=.seq #[.int i tk,x] }:=hs.extBut _ _ (nz e (by simp)).symm z3;refine ⟨.ref s.heap.objs.size,upd H s.heap.objs.size (.tup [.int i,vx]),I1.adopt fp ⟨?_,[.int i tk,x],.cons ⟨_,rfl⟩ (.cons rx .nil),⟨_,at2,rfl,_,rfl⟩⟩,rfl,⟨_,vx,rfl,fr,rfl,fun xs' q1=>?_⟩,
   ⟨⟨_,zz⟩,z2.1.extBut hs.extBut d1.symm⟩,fun c hc=>?_⟩
  ·show 2<=sizeLine;decide
  ·rw [ha] at q1; cases q1;exact hx
  ·rw [Jj (nz c hc)];exact(hf c hc).1
 done:=by
  intro X hP hw hK hc i pins s σ H E I hf st hg;subst hP hw hK;obtain⟨xs,ha,hl⟩:=hg;obtain⟨⟨old,s1⟩,s2⟩:=st;have nf:∀{c:VB}{o:HO},H c=some o->∀b∈[e,it],c≠b:=fun hcc b hb q=>by rw[q,(hf b hb).1]at hcc;cases hcc
  obtain⟨its,r1,t1,_⟩:=I.list (SqL.of ha);have hh:X.A.in1.handled=none:=I.ok.hd hc;have e1:its.toArray.size=i:=by rw[List.size_toArray,<- r1.length,hl]
  subst e1;refine wpAny_pyNext_enum_endD (Draws.list hh it a (nf ha it (by simp)) its.toArray) s1 ⟨s2,t1.isList⟩ fun h' eb=>⟨rfl,?_⟩;exact I.turnedL (l:=[e,it]) (t':=s.toks) (fun c o hc e=>by
   simp only[List.mem_cons,List.not_mem_nil,or_false,not_or]at hc
   exact eb c o hc.2 e) fun c hc=>hf c hc
 self:=fun _ _ _ _ _ st h=>by obtain⟨⟨old,s1⟩,_⟩:=st;exact wpAny_pyIter_enum s1 h
section
variable{X:Cx}{es:List Expr}{kt:Nat}{tp:Pos}
def Jwf(ta:TA):TI:=fun σ H R=>ta σ H fun vs H1=>∃a xs,vs=[.ref a]/\H1 a=some (.lst xs)/\R (IteL a) H1
theorem Jfk{a:Expr}{ta:TA}{p pos:Pos}(hg:Gl X "enumerate")(hm:X.mg "enumerate"=none)(ha:PA X [a] ta)(hs:starEach [a] X.env=[(false,eval a X.env)]:=by rfl) :
  PI X (.Tuple es kt tp) (.Call (.Name "enumerate" p) [a] [] pos) (Jwf ta):=by
 intro pins s σ H R I h;refine Call_ (Zk I hg hm Jcx (PyProof.Rows.callWith_type1 (thn (ha pos pins s σ H _ I h) fun us s1 h1=>?_) hs rfl));obtain⟨vs,H1,I1,r1,a,xs,e,ha,q⟩:=h1;subst e;obtain⟨u,rfl,ru⟩:=Ym r1;cases ru;obtain⟨its,_,t1,_⟩:=I1.list (SqL.of ha);refine call_enumerate_list t1.isList fun h' z1 z2 _ kp=>wpAny_pyIter_enum z1 ?_;have I2:Inv X pins σ H1 { s1 with heap:=h' }:=I1.kept (t':=s1.toks) kp;have fr:∀k:Nat,H1 (s1.heap.objs.size+k)=none:=fun k=>I1.hok.fresh (Nat.le_add_right _ _);refine⟨s1.heap.objs.size+1,_,_,IteL a,H1,rfl,I2,Jgt a (s1.heap.objs.size+1) s1.heap.objs.size (Nat.succ_ne_self _),⟨⟨_,z1⟩,z2⟩,fun c hc=>?_,q⟩;simp only[List.mem_cons,List.not_mem_nil,or_false]at hc;rcases hc with rfl|rfl
 ·exact I1.fpOk (Nat.le_add_right _ _) (fr 1)
 ·exact I1.fpOk (SJ _) (fr 0)
end
section
variable{K:VG}{g:TG}{tc:TT}{te:TE}{σ:St}{H:Hp}{R:VS->Hp->Prop}
end
end L2
namespace L2
open PySem PySem.Spec PyProof.Rows
section
variable{X:Cx}
def oV:Option Bool->V
 | none=>.non
 | some b=>.bl b
theorem Jfz{M:Model}{A:VD}{E:VQ}{s:VP}{Q:VQ}{d:Bool}(h:Q (.bool false) s):wpAny M A (compareOp .Is .none (.bool d)) Q E s :=
 VM (a:=Value.bool (Value.none == Value.bool d)) (by
  have e:(Value.none==Value.bool d)=false:=by cases d<;>rfl
  rw[e]
  exact h)
theorem Jnz:OpR X (compareOp .Is) (fun x y H Q=>∃(o:Option Bool)(c:Bool),x=oV o/\y=.bl c/\Q (.bl (o==some c)) H):=by
 intro pins s σ H x y v u Q I rx ry h;obtain⟨o,c,rfl,rfl,q⟩:=h;cases ry;cases o with
 | none =>
  cases rx;exact Jfz ⟨.bl _,H,I,rfl,q⟩
 | some b =>
  cases rx;exact is_bool ⟨.bl _,H,I,rfl,q⟩
theorem Jrs(o:Option Bool):YB (oV o)=true:=by cases o<;>rfl
theorem Jfo(l:List (Option Bool)):(l.map oV).all YB=true:=by refine SM.mpr fun z hz=>?_;obtain⟨o,_,rfl⟩:=SL.mp hz;exact Jrs o
theorem Jjw:∀(a b:List (Option Bool)),eqVs (a.map oV) (b.map oV)=decide (a=b)
 | [],[]=>by decide
 | [],_::_=>by simp [eqVs]
 | _::_,[]=>by simp [eqVs]
 | x::a,y::b=>by
  show(eqV (oV x) (oV y)&&eqVs (a.map oV) (b.map oV))=_;rw[Jjw a b];have e:eqV (oV x) (oV y)=decide (x=y):=by
   cases x with
   | none=>cases y with
    | none=>rfl
    | some c=>cases c <;> rfl
   | some b=>cases y with
    | none=>cases b <;> rfl
    | some c=>cases b <;> cases c <;> rfl
  rw[e,Bool.eq_iff_iff];simp
end
end L2
namespace L2
open PySem PySem.Spec PyProof.Rows PySem.AutoSeq1
end L2
namespace L2
open PySem PySem.Spec PyProof.Rows
section
variable{X:Cx}{es:List Expr}{kt:Nat}{tp:Pos}
end
section
variable{K:VG}{g:TG}{tc:TT}{te:TE}{σ:St}{H:Hp}{R:VS->Hp->Prop}
end
section
variable{prog:VC}{w:VF}{A:VD}{R:Result->VP->Prop}{it B:VB}{fp wr:List VB}{n:Nat}{P:Nat->VR->Prop}{St:Nat->Heap->Prop}{bt:Nat->Nat->Bool}{dn:Str}{dv:VR}
abbrev Jem(vs:Array VR)(c:Nat):Obj:={ cls:=.type "list",dict:=none,data:=.seq vs c,slots:=#[] }
end
section
variable{X:Cx}
end
section
variable{X:Cx}
end
end L2
namespace Tim
open PySem PyProof.Rows
structure Ordr(L:Keyed->Keyed->Bool):Prop where
 asym:∀x y,L x y=true->L y x=false
 tr:∀x y z,L y x=false->L z y=false->L z x=false
abbrev Sd(L:Keyed->Keyed->Bool)(l:List Keyed):Prop:=l.Pairwise fun x y=>L y x=false
section
variable{L:Keyed->Keyed->Bool}
end
section
variable{prog:VC}{w:VF}{A:VD}{E:VQ}{s:VP}{κ:SortKind}{a0:Array Keyed}{L:Keyed->Keyed->Bool}
def CmpL(prog:VC)(w:VF)(A:VD)(s:VP)(κ:SortKind)(a0:Array Keyed)(L:Keyed->Keyed->Bool):Prop :=
 ∀x y,x∈a0->y∈a0->∀(E:VQ)(Q:Bool->VP->Prop),Q (L x y) s->wpAny (model prog w) A (keyLt' κ x.1 y.1) Q E s
theorem lt_L(hc:CmpL prog w A s κ a0 L){x y:Keyed}{st:SortSt}{Q:Option Bool->SortSt->Prop}(hk:kindOf st=κ)(hx:x∈a0)(hy:y∈a0)(q:Q (some (L x y)) st) :
  wpS (model prog w) A E s (lt' x y) Q st:=by
 rw[lt'_eq];refine wpS_bind (wpS_get ?_);rw[hk];refine wpS_bind (wpS_lift (wpAny_attempt (hc x y hx hy _ _ ⟨rfl,?_⟩)));exact wpS_pure q
end
section
variable{L:Keyed->Keyed->Bool}
theorem Ordr.irr(o:Ordr L)(x:Keyed):L x x=false:=by
 cases e:L x x with
 | false=>rfl
 | true=>rw [<- o.asym x x e]; exact e.symm
variable{a b out:Array Keyed}{ia ib:Nat}
end
section
variable{prog:VC}{w:VF}{A:VD}{E:VQ}{s:VP}{κ:SortKind}{a0:Array Keyed}{L:Keyed->Keyed->Bool}
end
section
variable{L:Keyed->Keyed->Bool}
variable{a b out:Array Keyed}{na nb:Nat}
end
section
variable{prog:VC}{w:VF}{A:VD}{E:VQ}{s:VP}{κ:SortKind}{a0:Array Keyed}{L:Keyed->Keyed->Bool}
end
section
variable{L:Keyed->Keyed->Bool}
end
section
variable{prog:VC}{w:VF}{A:VD}{E:VQ}{s:VP}{κ:SortKind}{a0:Array Keyed}{L:Keyed->Keyed->Bool}
end
def G(arr:Array Keyed)(i:Nat):Keyed:=arr[i]?.getD (Value.none,Value.none)
theorem Qq{a b:Array Keyed}{i j:Nat}(h:a[i]?=b[j]?):G a i=G b j:=by unfold G;rw[h]
theorem G_at{a:Array Keyed}{i:Nat}(h:i<a.size):a[i]=G a i:=by unfold G;rw[Array.getElem?_eq_getElem h];rfl
section
variable{L:Keyed->Keyed->Bool}
def Srt(L:Keyed->Keyed->Bool)(arr:Array Keyed)(lo n:Nat):Prop:=∀i j,lo<=i->i<=j->j<lo+n->L (G arr j) (G arr i)=false
def Dsc(L:Keyed->Keyed->Bool)(arr:Array Keyed)(lo n:Nat):Prop:=∀i j,lo<=i->i<=j->j<lo+n->L (G arr i) (G arr j)=false
def Alk(L:Keyed->Keyed->Bool)(arr:Array Keyed)(i j:Nat):Prop:=∀p q,i<=p->p<j->i<=q->q<j->L (G arr p) (G arr q)=false
theorem Srt.one(o:Ordr L){arr:Array Keyed}{lo:Nat}:Srt L arr lo 1:=fun i j h1 h2 h3=>by
 have:i=j:=by omega
 subst this;exact o.irr _
theorem Srt.snoc(o:Ordr L){arr:Array Keyed}{lo n:Nat}(h1:1<=n)(h:Srt L arr lo n)(hl:L (G arr (lo+n)) (G arr (lo+n-1))=false):Srt L arr lo (n+1):=fun i j a b c=>by
 by_cases e:j<lo+n
 ·exact h i j a b e
 ·have ej:j=lo + n:=by omega
  subst ej;by_cases e2:i=lo+n
  ·rw [e2]; exact o.irr _
  ·exact o.tr _ _ _ (h i (lo + n - 1) a (by omega) (by omega)) hl
theorem Dsc.snoc(o:Ordr L){arr:Array Keyed}{lo n:Nat}(h1:1<=n)(h:Dsc L arr lo n)(hl:L (G arr (lo+n-1)) (G arr (lo+n))=false):Dsc L arr lo (n+1):=fun i j a b c=>by
 by_cases e:j<lo+n
 ·exact h i j a b e
 ·have ej:j=lo + n:=by omega
  subst ej;by_cases e2:i=lo+n
  ·rw [e2]; exact o.irr _
  ·exact o.tr _ _ _ hl (h i (lo + n - 1) a (by omega) (by omega))
theorem Jqm{arr:Array Keyed}{i j:Nat}(hj:j<=arr.size)(k:Nat):G (mirror arr i j ((j-i)/2)) k=if i<=k/\k<j then G arr (i+j-1-k)else G arr k:=by
 have e:=getElem?_mirror_all (i:=i) hj k;by_cases h1:i<=k/\k<j
 ·rw [if_pos h1] at e ⊢; exact Qq e
 ·rw [if_neg h1] at e ⊢; exact Qq e
theorem Alk.mir(o:Ordr L){arr:Array Keyed}{i j:Nat}(hj:j<=arr.size)(h:Alk L arr i j)(k:Nat):L (G (mirror arr i j ((j-i)/2)) k) (G arr k)=false/\L (G arr k) (G (mirror arr i j ((j-i)/2)) k)=false:=by
 rw[Jqm hj];split
 ·rename_i c;exact⟨h _ _ (by omega) (by omega) c.1 c.2,h _ _ c.1 c.2 (by omega) (by omega)⟩
 ·exact ⟨o.irr _,o.irr _⟩
theorem Dsc.like(o:Ordr L){a b:Array Keyed}{lo n:Nat}(h:Dsc L a lo n)(e:∀k,L (G b k) (G a k)=false/\L (G a k) (G b k)=false):Dsc L b lo n:=fun i j x y z =>
 o.tr _ _ _ (e j).2 (o.tr _ _ _ (h i j x y z) (e i).1)
theorem Dsc.rev{arr:Array Keyed}{lo n:Nat}(hj:lo+n<=arr.size)(h:Dsc L arr lo n):Srt L (mirror arr lo (lo+n) ((lo+n-lo)/2)) lo n:=fun i j a b c=>by rw[Jqm hj,Jqm hj,if_pos (by omega),if_pos (by omega)];exact h _ _ (by omega) (by omega) (by omega)
theorem Srt.sd{arr:Array Keyed}{lo n:Nat}(hn:lo+n<=arr.size)(h:Srt L arr lo n):Sd L ((arr.toList.drop lo).take n):=by refine List.pairwise_iff_getElem.mpr fun i j hi hj hij=>?_;rw[List.length_take]at hi hj;rw[List.getElem_take,List.getElem_take,List.getElem_drop,List.getElem_drop,Array.getElem_toList,Array.getElem_toList,G_at,G_at];exact h _ _ (by omega) (by omega) (by omega)
end
def Low(lo:Nat)(a b:Array Keyed):Prop:=∀p,p<lo->b[p]?=a[p]?
theorem Low.refl(lo:Nat)(a:Array Keyed):Low lo a a:=fun _ _=>rfl
theorem Low.trans{lo:Nat}{a b c:Array Keyed}(x:Low lo a b)(y:Low lo b c):Low lo a c:=fun p hp=>(y p hp).trans (x p hp)
theorem Low.mir{lo i j:Nat}{a:Array Keyed}(hi:lo<=i)(hj:j<=a.size):Low lo a (mirror a i j ((j-i)/2)):=fun p hp=>by rw[getElem?_mirror_all hj,if_neg (by omega)]
section
variable{prog:VC}{w:VF}{A:VD}{E:VQ}{s:VP}{κ:SortKind}{a0:Array Keyed}{L:Keyed->Keyed->Bool}
theorem Qz(hc:CmpL prog w A s κ a0 L){i j:Nat}{st:SortSt}{Q:Option Bool->SortSt->Prop}(ok:Ok κ a0 st)(hi:i<a0.size)(hj:j<a0.size)(q:Q (some (L (G (arrOf st) i) (G (arrOf st) j))) st):wpS (model prog w) A E s (ltAt' i j) Q st:=by
 rw[ltAt'_eq];refine wpS_bind (wpS_get ?_);have h1:i<(arrOf st).size:=by rw[ok.perm.size_eq];exact hi
 have h2:j<(arrOf st).size:=by rw[ok.perm.size_eq];exact hj
 refine wpS_bind (Jjx h1 (wpS_bind (Jjx h2 ?_)));refine lt_L hc ok.kind (ok.perm.mem_iff.mp (Array.getElem_mem h1)) (ok.perm.mem_iff.mp (Array.getElem_mem h2)) ?_;rw[G_at h1,G_at h2];exact q
theorem Jit{i j:Nat}{st:SortSt}{Q:Unit->SortSt->Prop}(ok:Ok κ a0 st)(q:∀st',Ok κ a0 st'->pendingOf st'=pendingOf st->arrOf st'=mirror (arrOf st) i j ((j-i)/2)->Q () st'):wpS (model prog w) A E s (reverseSlice' i j) Q st:=by rw[reverseSlice'_eq];exact wpS_modify (q _ ⟨ok.kind,ok.fail,(mirror_perm _ _ _ _).trans ok.perm⟩ rfl rfl)
theorem bin_L(o:Ordr L)(hc:CmpL prog w A s κ a0 L){lo n k0:Nat}{st:SortSt}{Q:Bool->SortSt->Prop}(ok:Ok κ a0 st)(hn:lo+n<=a0.size)(hk0:k0<=n)(sr:Srt L (arrOf st) lo k0)
  (q:∀st',Ok κ a0 st'->pendingOf st'=pendingOf st->Srt L (arrOf st') lo n->Low lo (arrOf st) (arrOf st')->Q true st'):wpS (model prog w) A E s (binarySort' lo n k0) Q st:=by
 rw[binarySort'_eq];refine wpS_bind (wpS_mono (wpS_forRange (I:=fun k c st'=>c.1=none/\Ok κ a0 st'/\pendingOf st'=pendingOf st/\Srt L (arrOf st') lo (min k n)/\Low lo (arrOf st) (arrOf st')) (Q:=fun c st'=>c.1=none/\Ok κ a0 st'/\pendingOf st'=pendingOf st/\Srt L (arrOf st') lo n/\Low lo (arrOf st) (arrOf st')) ?step ?fin ⟨rfl,ok,rfl,?init,Low.refl _ _⟩) ?post)
 case init =>
  by_cases h:k0=0
  ·intro i j a b c;have:i=j:=by omega
   subst this;exact o.irr _
  ·rw [show min (max k0 1) n=k0 by omega];exact sr
 case fin =>
  rintro c st' ⟨h,ok',hp,sr',lw⟩;rw[show min (max (max k0 1) n) n=n by omega]at sr';exact⟨h,ok',hp,sr',lw⟩
 case post =>
  rintro⟨c,u⟩ st' ⟨h,ok',hp,sr',lw⟩;dsimp only at h ⊢;subst h;exact wpS_pure (q _ ok' hp sr' lw)
 case step =>
  rintro k c st1 hk1 hk ⟨_,ok1,hp1,sr1,lw1⟩;rw[show min k n=k by omega]at sr1;dsimp only;refine wpS_bind (wpS_mono (wpS_forRange (I:=fun x c st'=>c.1=none/\(c.2.1<=c.2.2/\c.2.2<=k/\c.2.2 - c.2.1<=k - x/\(∀ i,i < c.2.1->L (G (arrOf st1) (lo + k)) (G (arrOf st1) (lo + i))=false)/\(∀ i,c.2.2<=i->i < k->L (G (arrOf st1) (lo + k)) (G (arrOf st1) (lo + i))=true))/\st'=st1)
   (Q:=fun c st'=>c.1=none/\(c.2.1<=k/\(∀ i,i < c.2.1->L (G (arrOf st1) (lo + k)) (G (arrOf st1) (lo + i))=false)/\(∀ i,c.2.1<=i->i < k->L (G (arrOf st1) (lo + k)) (G (arrOf st1) (lo + i))=true))/\st'=st1) ?step1 ?fin1 ⟨rfl,⟨LX _,SJ _,SJ _,fun i h=>absurd h (Nat.not_lt_zero _),fun i h1 h2=>by dsimp only at h1; omega⟩,rfl⟩) ?post1)
  case fin1 =>
   rintro⟨c,l,r⟩ st2 ⟨h,⟨h1,h2,h3,h4,h5⟩,rfl⟩;dsimp only at h h1 h2 h3 h4 h5 ⊢;rw[Nat.zero_max]at h3;have e:l=r:=by omega
   subst e;exact⟨h,⟨h2,h4,h5⟩,rfl⟩
  case step1 =>
   rintro j ⟨c,l,r⟩ st2 _ _ ⟨h,⟨h1,h2,h3,h4,h5⟩,rfl⟩;dsimp only at h h1 h2 h3 h4 h5 ⊢;split
   ·rename_i ge;have e:l=r:=by omega
    subst e;exact wpS_pure ⟨rfl,⟨h2,h4,h5⟩,rfl⟩
   ·refine wpS_bind (Qz hc ok1 (by omega) (by omega) ?_);cases e:L (G (arrOf st2) (lo+k)) (G (arrOf st2) (lo+(l+r)/2))
    ·exact wpS_pure ⟨rfl,⟨by dsimp only; omega,h2,by dsimp only; omega,fun i hi=>o.tr _ _ _ (sr1 (lo + i) (lo + (l + r) / 2) (by omega) (by dsimp only at hi; omega) (by omega)) e,h5⟩,rfl⟩
    ·exact wpS_pure ⟨rfl,⟨by dsimp only; omega,by dsimp only; omega,by dsimp only; omega,h4,fun i hi1 hi2=>by
      cases e2:L (G (arrOf st2) (lo+k)) (G (arrOf st2) (lo+i)) with
      | true=>rfl
      | false =>
       have:=o.tr _ _ _ (sr1 (lo+(l+r)/2) (lo+i) (by omega) (by dsimp only at hi1;omega) (by omega)) e2;rw[this]at e
       cases e⟩,rfl⟩
  case post1 =>
   rintro⟨c,l,r⟩ st2 ⟨h,⟨h1,h2,h3⟩,rfl⟩;dsimp only at h h1 h2 h3 ⊢;subst h;show wpS _ _ _ _ (do moveDown' (lo+k) (lo+l);pure (ForInStep.yield (none,()))) _ _;rw[moveDown'_eq];have hks:lo+k<(arrOf st2).size:=by rw[ok1.perm.size_eq];omega
   have gb:=fun x=>getElem?_bubble hks (lo+k-(lo+l)) (by omega) x;refine wpS_bind (wpS_modify (wpS_pure ⟨rfl,⟨ok1.kind,ok1.fail,(bubble_perm _ _ _).trans ok1.perm⟩,hp1,?_,?_⟩))
   ·rw [show min (k + 1) n=k + 1 by omega];have Gb:∀x,G (bubble (arrOf st2) (lo+k) (lo+k-(lo+l))) x=if x=lo+l then G (arrOf st2) (lo+k)else if lo+l<x/\x<=lo+k then G (arrOf st2) (x-1)else G (arrOf st2) x:=fun x=>by
     have:=gb x;rw[show lo+k-(lo+k-(lo+l))=lo+l by omega]at this;by_cases c1:x=lo+l
     ·rw [if_pos c1] at this ⊢; exact Qq this
     ·rw [if_neg c1] at this ⊢;by_cases c2:lo+l<x/\x<=lo+k
      ·rw [if_pos c2] at this ⊢; exact Qq this
      ·rw [if_neg c2] at this ⊢; exact Qq this
    intro i j ai aij aj;show L (G (bubble (arrOf st2) (lo+k) (lo+k-(lo+l))) j) (G (bubble (arrOf st2) (lo+k) (lo+k-(lo+l))) i)=false;rw[Gb,Gb];by_cases ci:i=lo+l
    ·rw [if_pos ci];by_cases cj:j=lo+l
     ·rw [if_pos cj]; exact o.irr _
     ·rw [if_neg cj,if_pos (by omega)];have:=h3 (j-1-lo) (by omega) (by omega);rw[show lo+(j-1-lo)=j-1 by omega]at this;exact o.asym _ _ this
    ·rw [if_neg ci];by_cases ci2:lo+l<i/\i<=lo+k
     ·rw [if_pos ci2,if_neg (by omega),if_pos (by omega)];exact sr1 _ _ (by omega) (by omega) (by omega)
     ·rw [if_neg ci2];by_cases cj:j=lo+l
      ·rw [if_pos cj];have:=h2 (i-lo) (by omega);rw[show lo+(i-lo)=i by omega]at this;exact this
      ·rw [if_neg cj];by_cases cj2:lo+l<j/\j<=lo+k
       ·rw [if_pos cj2];exact sr1 _ _ ai (by omega) (by omega)
       ·rw [if_neg cj2];exact sr1 _ _ ai aij (by omega)
   ·refine lw1.trans fun p hp=>?_;show(bubble (arrOf st2) (lo+k) (lo+k-(lo+l)))[p]?=_;rw[gb p,if_neg (by omega),if_neg (by omega)]
theorem Jsr(o:Ordr L)(hc:CmpL prog w A s κ a0 L){lo m:Nat}{st:SortSt}{Q:Option Nat->SortSt->Prop}(ok:Ok κ a0 st)(h1:1<=m)(h2:lo+m<=a0.size)
  (q:∀n st',1<=n->n<=m->Ok κ a0 st'->pendingOf st'=pendingOf st->Srt L (arrOf st') lo n->Low lo (arrOf st) (arrOf st')->Q (some n) st'):wpS (model prog w) A E s (countRun' lo m) Q st:=by
 rw[countRun'_eq];dsimp only;have sz:∀{st':SortSt},Ok κ a0 st'->(arrOf st').size=a0.size:=fun ok=>ok.perm.size_eq;refine wpS_bind (wpS_mono (wpS_forRange (I:=fun i c st'=>c.1=none/\(c.2=i/\1<=c.2/\Srt L (arrOf st) lo c.2)/\st'=st) (Q:=fun c st'=>c.1=none/\(1<=c.2/\c.2<=m/\Srt L (arrOf st) lo c.2/\(c.2=m\/L (G (arrOf st) (lo+c.2)) (G (arrOf st) (lo+c.2-1))=true))/\st'=st) ?step ?fin ⟨rfl,⟨rfl,SJ _,Srt.one o⟩,rfl⟩) ?post)
 case fin =>
  rintro⟨c,n⟩ st' ⟨h,⟨a,b,d⟩,rfl⟩;dsimp only at h a b d ⊢;exact⟨h,⟨b,by omega,d,.inl (by omega)⟩,rfl⟩
 case step =>
  rintro i ⟨c,n⟩ st' _ hi ⟨h,⟨a,b,d⟩,rfl⟩;dsimp only at h a b d ⊢;subst a;refine wpS_bind (Qz hc ok (by omega) (by omega) ?_);cases e:L (G (arrOf st') (lo+n)) (G (arrOf st') (lo+n-1))
  ·exact wpS_pure ⟨rfl,⟨rfl,by dsimp only; omega,d.snoc o b e⟩,rfl⟩
  ·exact wpS_pure ⟨rfl,⟨b,by dsimp only; omega,d,.inr e⟩,rfl⟩
 case post =>
  rintro⟨c,n⟩ st1 ⟨h,⟨a,b,d,dl⟩,rfl⟩;dsimp only at h a b d dl ⊢;subst h;dsimp only;by_cases d1:(n==m)=true
  ·rw [if_pos d1];exact wpS_pure (q _ _ a b ok rfl d (Low.refl _ _))
  rw[if_neg d1];simp only[beq_iff_eq]at d1;have dl:=dl.resolve_left d1;obtain⟨st0,hst0⟩:∃st0,st0=st1:=⟨_,rfl⟩;by_cases d2:n>1
  case' pos =>
   rw[if_pos d2];refine wpS_bind (Qz hc ok (by omega) (by omega) ?_);cases er:L (G (arrOf st1) lo) (G (arrOf st1) (lo+n-1))
   case' true=>exact wpS_pure (q _ _ a b ok rfl d (Low.refl _ _))
   refine wpS_bind (Jit ok fun st2 ok2 hp2 ea2=>?_);have alk:Alk L (arrOf st1) lo (lo+n):=fun p r p1 p2 r1 r2=>o.tr _ _ _ (d r (lo+n-1) r1 (by omega) (by omega)) (o.tr _ _ _ er (d lo p (SJ _) p1 p2));have dsc2:Dsc L (arrOf st2) lo (n+1):=by have d0:Dsc L (arrOf st1) lo n:=fun i j a b c=>alk i j a (by omega) (by omega) c;have d1':Dsc L (arrOf st1) lo (n+1):=d0.snoc o a (o.asym _ _ dl);rw[ea2];exact d1'.like o (alk.mir o (by rw[sz ok];omega))
   have lw2:Low lo (arrOf st1) (arrOf st2):=by rw[ea2];exact Low.mir (SJ _) (by rw[sz ok];omega)
  case' neg =>
   rw[if_neg d2];have ok2:=ok;have hn1:n=1:=by omega
   have dsc2:Dsc L (arrOf st1) lo (n+1):=by
    refine Dsc.snoc o a (fun i j x y z=>?_) (o.asym _ _ dl);have:i=j:=by omega
    subst this;exact o.irr _
   have lw2:Low lo (arrOf st1) (arrOf st1):=Low.refl _ _;generalize hst2:st1=st2 at ok2 dsc2;have hp2:pendingOf st2=pendingOf st1:=by rw[hst2]
   have lw2:Low lo (arrOf st1) (arrOf st2):=by rw[hst2];exact Low.refl _ _
  all_goals
   refine wpS_bind (wpS_lift (wpAny_rule ⟨rfl,?_⟩));refine wpS_bind (wpS_mono (wpS_forRange (I:=fun i c st'=>c.1=none/\(c.2.1=i/\1<=c.2.1/\c.2.2 + 1<=c.2.1/\Dsc L (arrOf st') lo c.2.1/\Alk L (arrOf st') (lo + c.2.1 - (c.2.2 + 1)) (lo + c.2.1))/\Ok κ a0 st'/\pendingOf st'=pendingOf st1/\Low lo (arrOf st1) (arrOf st'))
    (Q:=fun c st'=>c.1=none/\(1<=c.2.1/\c.2.1<=m/\c.2.2 + 1<=c.2.1/\Dsc L (arrOf st') lo c.2.1/\Alk L (arrOf st') (lo + c.2.1 - (c.2.2 + 1)) (lo + c.2.1))/\Ok κ a0 st'/\pendingOf st'=pendingOf st1/\Low lo (arrOf st1) (arrOf st')) ?step2 ?fin2 ⟨rfl,⟨rfl,by dsimp only; omega,by dsimp only; omega,dsc2,fun p r p1 p2 r1 r2=>by
     dsimp only at p1 p2 r1 r2;have:p=r:=by omega
     subst this
     exact o.irr _⟩,ok2,hp2,lw2⟩) ?post2)
   case fin2 =>
    rintro⟨c,k,neq⟩ st' ⟨h,⟨e1,e2,e3,e4⟩,r⟩;dsimp only at h e1 e2 e3 e4 ⊢;exact⟨h,⟨e2,by omega,e3,e4⟩,r⟩
   case step2 =>
    rintro i ⟨c,k,neq⟩ st' _ hi ⟨h,⟨e1,e2,e3,e4,e5⟩,ok3,hp3,lw3⟩;dsimp only at h e1 e2 e3 e4 e5 ⊢;subst e1;have one:∀(ar:Array Keyed)(x:Nat),Alk L ar (lo+(x+1)-(0+1)) (lo+(x+1)):=fun ar x p r p1 p2 r1 r2=>by
     have:p=r:=by omega
     subst this;exact o.irr _
    refine wpS_bind (Qz hc ok3 (by omega) (by omega) ?_);cases es:L (G (arrOf st') (lo+k)) (G (arrOf st') (lo+k-1))
    ·refine wpS_bind (Qz hc ok3 (by omega) (by omega) ?_);cases el:L (G (arrOf st') (lo+k-1)) (G (arrOf st') (lo+k))
     ·refine wpS_pure ⟨rfl,⟨rfl,by dsimp only; omega,by dsimp only; omega,e4.snoc o e2 el,fun p r p1 p2 r1 r2=>?_⟩,ok3,hp3,lw3⟩;dsimp only at p1 p2 r1 r2;have low:∀x,lo+k-(neq+1)<=x->x<lo+k->L (G (arrOf st') x) (G (arrOf st') (lo+k))=false/\L (G (arrOf st') (lo+k)) (G (arrOf st') x)=false:=fun x x1 x2 =>
       ⟨o.tr _ _ _ el (e5 x (lo+k-1) x1 x2 (by omega) (by omega)),o.tr _ _ _ (e5 (lo+k-1) x (by omega) (by omega) x1 x2) es⟩
      by_cases c1:p=lo+k
      ·by_cases c2:r=lo + k
       ·rw [c1,c2]; exact o.irr _
       ·rw [c1]; exact (low r (by omega) (by omega)).2
      ·by_cases c2:r=lo + k
       ·rw [c2]; exact (low p (by omega) (by omega)).1
       ·exact e5 p r (by omega) (by omega) (by omega) (by omega)
     ·exact wpS_pure ⟨rfl,⟨e2,by dsimp only; omega,e3,e4,e5⟩,ok3,hp3,lw3⟩
    ·dsimp only;rw[if_pos rfl];have e6:Dsc L (arrOf st') lo (k+1):=e4.snoc o e2 (o.asym _ _ es);split
     ·refine wpS_bind (Jit ok3 fun st4 ok4 hp4 ea4=>wpS_pure ⟨rfl,⟨rfl,by dsimp only; omega,by dsimp only; omega,?_,one _ _⟩,ok4,hp4.trans hp3,?_⟩)
      ·dsimp only;rw[ea4];exact e6.like o (e5.mir o (by rw[sz ok3];omega))
      ·rw [ea4];exact lw3.trans (Low.mir (by omega) (by rw[sz ok3];omega))
     ·exact wpS_pure ⟨rfl,⟨rfl,by dsimp only; omega,by dsimp only; omega,e6,one _ _⟩,ok3,hp3,lw3⟩
   case post2 =>
    rintro⟨c,k,neq⟩ st' ⟨h,⟨e1,e2,e3,e4,e5⟩,ok3,hp3,lw3⟩;dsimp only at h e1 e2 e3 e4 e5 ⊢;subst h;dsimp only;by_cases d3:neq>0
    case' pos =>
     rw[if_pos d3];refine wpS_bind (Jit ok3 fun st4 ok4 hp4 ea4=>?_);have hp4:=hp4.trans hp3;have dsc4:Dsc L (arrOf st4) lo k:=by rw[ea4];exact e4.like o (e5.mir o (by rw[sz ok3];omega))
     have lw4:Low lo (arrOf st1) (arrOf st4):=by rw[ea4];exact lw3.trans (Low.mir (by omega) (by rw[sz ok3];omega))
    case' neg =>
     rw[if_neg d3];have ok4:=ok3;have hp4:=hp3;have dsc4:=e4;have lw4:=lw3
    all_goals
     refine wpS_bind (Jit ok4 fun st5 ok5 hp5 ea5=>?_);have srt5:Srt L (arrOf st5) lo k:=by rw[ea5];exact dsc4.rev (by rw[sz ok4];omega)
     have lw5:Low lo (arrOf st1) (arrOf st5):=by rw[ea5];exact lw4.trans (Low.mir (SJ _) (by rw[sz ok4];omega))
     refine wpS_bind (wpS_mono (wpS_forRange (I:=fun i c st'=>c.1=none/\(c.2=i/\1<=c.2/\Srt L (arrOf st5) lo c.2)/\st'=st5) (Q:=fun c st'=>c.1=none/\(1<=c.2/\c.2<=m/\Srt L (arrOf st5) lo c.2)/\st'=st5) ?step3 ?fin3 ⟨rfl,⟨rfl,e1,srt5⟩,rfl⟩) ?post3)
     case fin3 =>
      rintro⟨c,n⟩ st' ⟨h,⟨a,b,d⟩,rfl⟩;dsimp only at h a b d ⊢;exact⟨h,⟨b,by omega,d⟩,rfl⟩
     case step3 =>
      rintro i ⟨c,n⟩ st' _ hi ⟨h,⟨a,b,d⟩,rfl⟩;dsimp only at h a b d ⊢;subst a;refine wpS_bind (Qz hc ok5 (by omega) (by omega) ?_);cases e:L (G (arrOf st') (lo+n)) (G (arrOf st') (lo+n-1))
      ·exact wpS_pure ⟨rfl,⟨rfl,by dsimp only; omega,d.snoc o b e⟩,rfl⟩
      ·exact wpS_pure ⟨rfl,⟨b,by dsimp only; omega,d⟩,rfl⟩
     case post3 =>
      rintro⟨c,n⟩ st6 ⟨h,⟨a,b,d⟩,rfl⟩;dsimp only at h a b d ⊢;subst h;exact wpS_pure (q _ _ a b ok5 (hp5.trans hp4) d lw5)
end
section
variable{prog:VC}{w:VF}{A:VD}{E:VQ}{s:VP}{κ:SortKind}{a0:Array Keyed}{L:Keyed->Keyed->Bool}
theorem runs_S(o:Ordr L)(hc:CmpL prog w A s κ a0 L){st:SortSt}{Q:Unit->SortSt->Prop}(h64:a0.size<64)(ok:Ok κ a0 st)(hp:pendingOf st=#[])(q:∀st',Ok κ a0 st'->Sd L (arrOf st').toList->Q () st'):wpS (model prog w) A E s sortRuns' Q st:=by
 rw[sortRuns'_eq];refine wpS_bind (wpS_get ?_);have hs:(arrOf st).size=a0.size:=ok.perm.size_eq;rw[hs];have hmr:minRun' a0.size a0.size 0=a0.size:=by
  cases h:a0.size with
  | zero=>rfl
  | succ n=>rw [minRun'_succ,if_pos (by omega),Nat.add_zero]
 dsimp only;refine wpS_bind (wpS_mono (wpS_forRange (I:=fun i c st'=>c.1=none/\Ok κ a0 st'/\((c.2=0/\i=0/\pendingOf st'=#[])\/(c.2=a0.size/\(pendingOf st').size<=1/\Sd L (arrOf st').toList)))
  (Q:=fun c st'=>c.1=none/\Ok κ a0 st'/\(pendingOf st').size<=1/\Sd L (arrOf st').toList) ?step ?fin ⟨rfl,ok,.inl ⟨rfl,rfl,hp⟩⟩) ?post)
 case fin =>
  rintro⟨c,lo⟩ st1 ⟨h,ok1,r⟩;dsimp only at h r ⊢;refine⟨h,ok1,?_⟩;rcases r with⟨_,r2,r3⟩|⟨_,r2,r3⟩
  ·rw [Nat.zero_max] at r2;have:(arrOf st1).toList=[]:=List.length_eq_zero_iff.mp (by rw[Array.length_toList,ok1.perm.size_eq];exact r2);rw[r3,this];exact⟨by decide,List.Pairwise.nil⟩
  ·exact ⟨r2,r3⟩
 case step =>
  rintro i ⟨c,lo⟩ st1 _ hi ⟨h,ok1,r⟩;dsimp only at h r ⊢;rcases r with⟨rfl,ri,rp⟩|⟨rfl,r2,r3⟩
  ·have d0:¬ 0 >= a0.size:=by omega
   rw[if_neg d0];refine wpS_bind (Jsr o hc ok1 (by omega) (by omega) fun n st2 n1 n2 ok2 hp2 sr2 lw2=>?_);dsimp only;have fin:∀(N:Nat)(st3:SortSt),N=a0.size->Ok κ a0 st3->pendingOf st3=#[]->Srt L (arrOf st3) 0 N->Sd L (arrOf st3).toList:=fun N st3 e ok3 _ sr=>by have:=sr.sd (by rw[ok3.perm.size_eq];omega);rw[List.drop_zero,List.take_of_length_le (by rw[Array.length_toList,ok3.perm.size_eq];omega)]at this;exact this
   by_cases d2:n<minRun' a0.size a0.size 0
   case' pos =>
    rw[if_pos d2];refine wpS_bind (wpS_lift (wpAny_rule ⟨rfl,?_⟩));refine wpS_bind (bin_L o hc ok2 (by omega) (by omega) sr2 fun st3 ok3 hp3 sr3 lw3=>?_);rw[if_neg (by decide)];have N1:min (a0.size-0) (minRun' a0.size a0.size 0)=a0.size:=by rw[hmr];omega
    have e3:pendingOf st3=#[]:=hp3.trans (hp2.trans rp);generalize min (a0.size-0) (minRun' a0.size a0.size 0)=N at N1 sr3
   case' neg =>
    rw[if_neg d2];have N1:n=a0.size:=by rw[hmr]at d2;omega
    have ok3:=ok2;have e3:pendingOf st2=#[]:=hp2.trans rp;have sr3:=sr2;clear sr2 lw2 hp2;generalize n=N at N1 sr3;generalize st2=st3 at ok3 e3 sr3
   all_goals
    have sd3:=fin N st3 N1 ok3 e3 sr3;refine wpS_bind (wpS_get ?_);rw[e3];refine wpS_bind (wpS_modify (wpS_pure ⟨rfl,⟨ok3.kind,ok3.fail,ok3.perm⟩,.inr ⟨?_,?_,sd3⟩⟩))
    ·dsimp only;omega
    ·show (Array.push (pendingOf st3) (0,N,0)).size<=1;rw[e3];exact SJ 1
  ·rw [if_pos (Nat.le_refl _)];exact wpS_pure ⟨rfl,ok1,r2,r3⟩
 case post =>
  rintro⟨c,lo⟩ st1 ⟨h,ok1,z,sd⟩;dsimp only at h ⊢;subst h;dsimp only;refine wpS_bind (wpS_mono (wpS_forRange (I:=fun j c st'=>c.1=none/\Ok κ a0 st'/\(pendingOf st').size<=1/\Sd L (arrOf st').toList)
   (Q:=fun c st'=>c.1=none/\Ok κ a0 st'/\(pendingOf st').size<=1/\Sd L (arrOf st').toList) ?step3 ?fin3 ⟨rfl,ok1,z,sd⟩) ?post3)
  case fin3=>exact fun _ _ h=>h
  case step3 =>
   rintro j ⟨c,u⟩ st4 _ hj ⟨h,ok4,z4,sd4⟩;dsimp only at h ⊢;refine wpS_bind (wpS_get ?_);rw[if_pos z4];exact wpS_pure ⟨rfl,ok4,z4,sd4⟩
  case post3 =>
   rintro⟨c,u⟩ st4 ⟨h,ok4,z4,sd4⟩;dsimp only at h ⊢;subst h;exact wpS_pure (q _ ok4 sd4)
end
end Tim
namespace L2
open PySem PySem.Calls PySem.Spec PyProof.Rows
def lexB(p q:Int×Int):Bool:=decide (p.1<q.1)||(decide (p.1=q.1)&&decide (p.2<q.2))
theorem WR{p q:Int×Int}:lexB p q=true↔p.1<q.1\/(p.1=q.1/\p.2<q.2):=by unfold lexB;simp
theorem Jbd{p q:Int×Int}:lexB p q=false↔q.1<p.1\/(p.1=q.1/\q.2<=p.2):=by rw[<- Bool.not_eq_true,WR];omega
abbrev Ris(l:VX):Prop:=l.Pairwise fun x y=>lexB y x=false
section
variable{prog:VC}{w:VF}{A:VD}{E:VQ}{s:VP}
theorem Juk{x y:VR}{p q:Int×Int}{C:Bool->VP->Prop}(hx:IsPr s.heap x p)(hy:IsPr s.heap y q)(h:C (lexB p q) s):wpAny (model prog w) A (keyLt' (tuples' true) x y) C E s:=by
 obtain⟨a,o,t,u,n,rfl,h1,h2,h3⟩:=hx;obtain⟨a',o',t',u',n',rfl,h1',h2',h3'⟩:=hy;refine PySem.W.kat_lt h1 h3 h1' h3' ?_;show PySem.W.KatLex prog w A true _ C [(Value.int p.1 t,Value.int q.1 t'),(Value.int p.2 u,Value.int q.2 u')] 0 s;refine PySem.W.kat_cons (SeqAt.EqAt.int_int _ _ _ _ prog w _ _ (PySem.W.kat_go (fun e=>PySem.W.kat_yes ?_) fun e=>PySem.W.kat_no (oneLt_int ?_)))
 ·have e:p.1=q.1:=by simpa using e
  refine PySem.W.kat_cons (SeqAt.EqAt.int_int _ _ _ _ prog w _ _ (PySem.W.kat_go (fun e2=>PySem.W.kat_yes (PySem.W.kat_nil ?_)) fun e2=>PySem.W.kat_no ?_))
  ·have e2:p.2=q.2:=by simpa using e2
   have:lexB p q=false:=Jbd.mpr (by omega);rw[this]at h;exact h
  ·refine PySem.W.kat_one _ _ (lt_int (show PySem.W.BoolBack C (.bool _) s from ?_));have:lexB p q=decide (p.2<q.2):=by
    unfold lexB;rw[decide_eq_true e,decide_eq_false (show ¬ p.1<q.1 by omega)];rfl
   rw[this]at h;exact h
 ·have e:¬ p.1=q.1:=by simpa using e
  have:lexB p q=decide (p.1<q.1):=by unfold lexB;rw[decide_eq_false e];simp
  rw[this]at h;exact h
theorem IsPr.uniq{h:Heap}{v:VR}{p q:Int×Int}(x:IsPr h v p)(y:IsPr h v q):p=q:=by
 obtain⟨a,o,t,u,n,rfl,h1,h2,h3⟩:=x;obtain⟨a',o',t',u',n',e,h1',h2',h3'⟩:=y;cases e;rw[h1]at h1';cases h1';rw[h3]at h3';injection h3' with e1 _
 have e1:=congrArg Array.toList e1;have e2:p.1=q.1/\p.2=q.2:=by simp at e1;exact⟨e1.1.1,e1.2.1⟩
 exact Prod.ext e2.1 e2.2
theorem Jrc(h:Heap):∃key:VR->Int×Int,∀v q,IsPr h v q->key v=q:=by
 classical
 refine⟨fun v=>if x:∃q,IsPr h v q then x.choose else(0,0),fun v q x=>?_⟩;have z:∃q,IsPr h v q:=⟨q,x⟩;dsimp only;rw[dif_pos z];exact z.choose_spec.uniq x
def Jcn(key:VR->Int×Int)(x y:Keyed):Bool:=lexB (key x.1) (key y.1)
theorem Jlt(key:VR->Int×Int):Tim.Ordr (Jcn key):=by
 constructor
 ·intro x y e;unfold Jcn at e ⊢;rw[WR]at e;rw[Jbd];omega
 ·intro x y z e1 e2;unfold Jcn at e1 e2 ⊢;rw[Jbd]at e1 e2 ⊢;omega
def OutS(ps:VX)(vs o:VU):Prop:=∃p:List Nat,p.Perm (List.range vs.length)/\o=p.map (fun i=>vs.getD i Value.none)/\Ris (p.map fun i=>ps.getD i (0,0))
theorem OutS.len{ps:VX}{vs o:VU}(h:OutS ps vs o):o.length=vs.length:=by obtain⟨p,hp,rfl,_⟩:=h;rw[List.length_map,hp.length_eq,List.length_range]
theorem OutS.small{ps:VX}{vs:VU}(h:vs.length<2):OutS ps vs vs:=by
 obtain⟨p,hp,e⟩:=Reord.refl vs;refine⟨p,hp,e,?_⟩;have l:(p.map fun i=>ps.getD i (0,0)).length<2:=by rw[List.length_map,hp.length_eq,List.length_range];exact h
 generalize (p.map fun i=>ps.getD i (0,0))=l' at l
 match l',l with
 | [],_=>exact List.Pairwise.nil
 | [_],_=>exact SV _ _
 | _::_::_,l=>exact absurd l (by simp)
end
section
variable{X:Cx}
end
section
variable{X:Cx}
end
end L2
namespace L2
open PySem PySem.Calls PySem.Spec PyProof.Rows PySem.W
section
variable{X:Cx}{k i:Nat}{x:Str}{ps:VJ}{sp:Sp}{p pos:Pos}{e:Expr}{es:List Expr}{t:TA}{f:VB}{fd:FuncData}
end
end L2
namespace L2
open PySem PySem.Calls PySem.Spec PyProof.Rows
section
variable{X:Cx}{A:VD}
end
section
variable{X:Cx}
end
end L2
namespace L2
open PySem PySem.Spec PyProof.Rows
theorem Jcs{a:VB}{xs:VS}{g:TG}{tb:TS}{D:Ends}{σ:St}{H:Hp}(Pv:Nat->St->Hp->Prop)(h0:Pv 0 σ H)(hl:∀i σ H,i<=xs.length->Pv i σ H->H a=some (.lst xs))
  (hs:∀(i:Nat) v σ H p,xs[i]?=some v->Pv i σ H->H p=none->g (.ref p) σ (upd H p (.tup [.int i,v])) fun σ2 H2=>tb { D with nx:=Pv (i+1),ct:=Pv (i+1),bk:=D.nx } σ2 H2) (hd:∀σ H,Pv xs.length σ H->D.nx σ H) :
  ∃W:Nat->Nat->St->Hp->Prop,(∃m,W 0 m σ H)/\∀i m σ H,W i m σ H ->
   ((IteL a).stop i H/\D.nx σ H)\/((IteL a).go i H/\∃N:St->Hp->Prop,(∀σ' H',N σ' H'->∃m',m'<m/\W (i+1) m' σ' H')/\∀x H',(IteL a).yld i H x H'->g x σ H' fun σ2 H2=>tb { D with nx:=N,ct:=N,bk:=D.nx } σ2 H2):=by
 refine⟨fun i m σ H=>m=xs.length-i/\i<=xs.length/\Pv i σ H,⟨xs.length,by simp,LX _,h0⟩,?_⟩;rintro i m σ H ⟨rfl,hi,p⟩;have q:=hl i σ H hi p;by_cases hlt:i<xs.length
 ·refine .inr ⟨⟨xs,q,hlt⟩,Pv (i + 1),fun σ' H' p'=>⟨xs.length - (i + 1),by omega,rfl,hlt,p'⟩,fun x H' y=>?_⟩;obtain⟨p',v,e1,e2,e3,y⟩:=y;subst e1 e3;exact hs i v σ H p' (y xs q) p e2
 ·have e:i=xs.length:=by omega
  subst e;exact .inl ⟨⟨xs,q,rfl⟩,hd σ H p⟩
end L2
namespace L2
open PySem PySem.Calls PySem.Spec PyProof.Rows PySem.W
section
variable{X:Cx}{pos:Pos}
end
end L2
namespace Hk
open PySem L2 PySem.W
end Hk
namespace L2
open PySem PySem.Calls PySem.Spec PyProof.Rows PySem.W
section
variable{X:Cx}{e:Expr}{es:List Expr}{pos:Pos}
end
section
variable{X:Cx}{A:VD}
end
end L2
namespace L2
open PySem PySem.Spec PyProof.Rows
def Itd(d:VB)(kvs:List (Key×V))(o:Obj):It:=⟨fun i H=>i<kvs.length/\H d=some (.frz o (.dK kvs)),fun i H x H'=>H'=H/\∃k v,kvs[i]?=some (k,v)/\x=kV k,fun i H=>i=kvs.length/\H d=some (.frz o (.dK kvs))⟩
theorem Jiu{k:Key}{u:VR}(h:Uv k u=true):RelV (kV k) u:=by
 cases k with
 | inl i =>
  cases u with
  | int j t =>
   have e:j=i:=beq_iff_eq.mp (show(j==i)=true from h);subst e;exact⟨t,rfl⟩
  | _=>exact absurd h (by simp [Uv,Value.isInt])
 | inr x =>
  cases u with
  | str y t =>
   have e:y=x:=beq_iff_eq.mp (show(y==x)=true from h);subst e;exact⟨t,rfl⟩
  | _=>exact absurd h (by simp [Uv,Value.isStrOf])
theorem Jpp{P:VC}{w:VF}{H:Hp}{h:Heap}{d:VB}{kvs:List (Key×V)}{o:Obj}{es:Array DictEntry}{ep:Nat}(hok:HOk P w H h)(e:H d=some (.frz o (.dK kvs)))(he:o.data=.dict es ep):∃vs,KV kvs vs/\h.DictAt (JX P w) d vs ep:=by obtain⟨e1,z,y,vs,r,o',es',ep',e2,ex,ed,k,p,n⟩:=hok d _ e;obtain rfl:o'=o:=Option.some.inj (e2.symm.trans e1);have q:Data.dict es' ep'=Data.dict es ep:=ed.symm.trans he;cases q;exact⟨vs,r,o',es,e2,ex,ed,k,p,n⟩
theorem Jks{P:VC}{w:VF}{K:VG}{tg:Expr}(d it:VB)(kvs:List (Key×V))(o:Obj)(es:Array DictEntry)(ep:Nat)(he:o.data=.dict es ep):Turn P w K tg (Itd d kvs o) [it] it (fun i h=>h.IsKeyIter it d i kvs.length ep) where
 mem:=by simp
 obj:=fun i h st b hb=>by
  have e:b=it:=by simpa using hb
  subst e;obtain⟨o,e,c,d⟩:=st;exact⟨o,e,fun v z=>by rw[d]at z;cases z⟩
 keep:=fun i h h' st k=>st.at fun o e=>k it (by simp) o e
 item:=by intro X hP hw hK hc i pins s σ H E I hf st hg;subst hP hw hK;obtain⟨hi,hd⟩:=hg;obtain⟨vs,r,dd⟩:=Jpp I.hok hd he;have hl:kvs.length=vs.length:=Paired.length r;obtain⟨f0,f1,f2,f3,f4,f5⟩:=hf it (by simp);obtain⟨q,e1,e2,_⟩:=Paired.get' r (i:=i) (x:=kvs[i]) (by simp[hi]);obtain⟨k,v⟩:=q;rw[hl]at st;refine wpAny_pyNext_dict_item st dd e1 fun key h' hkey st' sb=>?_;have I1:Inv X pins σ H { s with heap:=h' }:=I.turned (t':=s.toks) (fun b o hb e=>(sb.2 b hb).trans e) f0 f1 f3 f4 f5;obtain⟨oi,ei,ci,di⟩:=id st';refine⟨key,rfl,Jgc (s:={ s with heap:=h' }) ei ci di (by decide) ⟨kV k,H,I1,Jiu hkey,⟨rfl,kvs[i].1,kvs[i].2,by simp[hi],by rw[e2]⟩,?_,fun b hb=>(hf b hb).1⟩⟩;rw[hl];exact st'
 done:=by intro X hP hw hK hc i pins s σ H E I hf st hg;subst hP hw hK;obtain⟨hi,hd⟩:=hg;obtain⟨vs,r,dd⟩:=Jpp I.hok hd he;have hl:kvs.length=vs.length:=Paired.length r;obtain⟨f0,f1,f2,f3,f4,f5⟩:=hf it (by simp);rw[hl]at st;exact wpAny_pyNext_dict_end (I.ok.hd hc) st dd (by simp;omega) fun h' eb=>⟨rfl,I.turned (t':=s.toks) (fun b o hb e=>eb b o hb e) f0 f1 f3 f4 f5⟩
 self:=fun _ _ _ _ _ st h=>wpAny_pyIter_keyiter st h
section
variable{X:Cx}{tg:Expr}
def iDict(tl:TE):TI:=fun σ H R=>tl σ H fun x H1=>∃d kvs,x=.ref d/\H1 d=some (.dK kvs)/\∀o,R (Itd d kvs o) (upd H1 d (.frz o (.dK kvs)))
theorem Jri{l:Expr}{tl:TE}(hl:PE X l tl):PI X tg l (iDict tl):=by
 intro pins s σ H R I h;refine thn (hl pins s σ H _ I h) fun v s1 ⟨x,H1,I1,r1,q1⟩=>?_;obtain⟨d,kvs,e,hd,q⟩:=q1;subst e;cases r1;obtain⟨z,y,vs,r,o,es,ep,e2,ex,ed,k,p,n⟩:=I1.hok d _ hd;have dd:s1.heap.DictAt (JX X.prog X.w) d vs ep:=⟨o,es,e2,ex,ed,k,p,n⟩;have hlen:kvs.length=vs.length:=Paired.length r;have I2:Inv X pins σ (upd H1 d (.frz o (.dK kvs))) { s1 with heap:=s1.heap,toks:=s1.toks }:=I1.write (x:=d) (e:=d) (by rw[hd];trivial) (.inl rfl) (fun b u _ q=>q) ⟨o,e2⟩ ⟨e2,z,y,vs,r,o,es,ep,e2,ex,ed,k,p,n⟩;refine wpAny_pyIter_dict y dd ?_;refine⟨s1.heap.objs.size,[s1.heap.objs.size],_,_,upd H1 d (.frz o (.dK kvs)),rfl,I2.kept (t':=s1.toks) fun b o e=>VN _ e,Jks d _ kvs o es ep ed,?_,fun b hb=>?_,q o⟩
 ·rw [hlen];exact⟨_,VT _ rfl,rfl,rfl⟩
 ·have e:b=s1.heap.objs.size:=by simpa using hb
  subst e;exact I2.fpOk (SJ _) (I2.hok.fresh (SJ _))
end
section
variable{g:TG}{tc:TT}{te:TE}{σ:St}{H:Hp}{R:VS->Hp->Prop}
theorem Jry{d:VB}{kvs:List (Key×V)}{o:Obj}(Pv:Nat->VS->Hp->Prop)(h0:Pv 0 [] H)(hl:∀i zs H,i<=kvs.length->Pv i zs H->H d=some (.frz o (.dK kvs))/\zs.length<=sizeLine)(hd:∀zs H,Pv kvs.length zs H->R zs H)
  (hs:∀ i k v zs H,kvs[i]?=some (k,v)->i < kvs.length->Pv i zs H->g (kV k) σ H fun σ2 H2=>tc σ2 H2 fun b H3 =>
   if b=true then te σ2 H3 fun y H4=>∃ m',m' < kvs.length - i/\Wn kvs.length Pv (i + 1) m' (zs++[y]) H4 else ∃ m',m' < kvs.length - i/\Wn kvs.length Pv (i + 1) m' zs H3) :
  ∃W:Nat->Nat->VS->Hp->Prop,(∃m,W 0 m [] H)/\∀i m ys H,W i m ys H->((Itd d kvs o).stop i H/\ys.length<=sizeLine/\R ys H) \/
   ((Itd d kvs o).go i H/\ys.length<=sizeLine/\∀ x H',(Itd d kvs o).yld i H x H'->g x σ H' fun σ2 H2=>tc σ2 H2 fun b H3 =>
    if b=true then te σ2 H3 fun y H4=>∃ m',m' < m/\W (i + 1) m' (ys++[y]) H4 else ∃ m',m' < m/\W (i + 1) m' ys H3):=by
 refine Jcl kvs.length Pv h0 (fun zs H p=>?_) (fun i zs H hi p=>?_)
 ·obtain ⟨q,z⟩:=hl _ zs H (SJ _) p;exact⟨⟨rfl,q⟩,z,hd zs H p⟩
 ·obtain ⟨q,z⟩:=hl i zs H (SZ hi) p;refine⟨⟨hi,q⟩,z,fun x H' y=>?_⟩;obtain⟨e,k,v,y,e2⟩:=y;subst e e2;exact hs i k v zs _ y hi p
end
end L2
namespace L2
open PySem PySem.Calls PySem.Spec PyProof.Rows
section
variable{X:Cx}
def Tpi(H:Hp):VS->List (VY)->Prop:=Paired fun(v:V) (ns:VY)=>∃p,v=.ref p/\H p=some (.tup (ns.map V.int))
end
section
variable{X:Cx}{tg:Expr}
theorem US(K:VG){l:Expr}{tl:TE}(hl:PE X l tl)(hK:X.K=K:=by rfl):PI X tg l (Jtn K tl):=by subst hK;exact JQ hl
def rAll(K:VG):VS->Hp->VK->Prop:=fun xs H Q=>∃(l:VB)(bs:List Bool),xs=[.ref l]/\SqL K H l (bs.map V.bl)/\Q (.bl (bs.all id)) H
theorem QK(K:VG)(hc:X.calm=true)(hK:X.K=K:=by rfl):Yd X (.builtin "all") (rAll K):=by subst hK;exact Yc hc
end
def lexL:VY->VY->Bool
 | [],[]=>false
 | [],_::_=>true
 | _::_,[]=>false
 | a::x,b::y=>if a=b then lexL x y else decide (a < b)
theorem WQ:∀x:VY,lexL x x=false
 | []=>rfl
 | a::x=>by show(if a=a then lexL x x else decide (a<a))=false;rw[if_pos rfl];exact WQ x
theorem Jbc:∀x y:VY,lexL x y=true->lexL y x=false
 | [],[],h=>by cases h
 | [],_::_,_=>rfl
 | _::_,[],h=>by cases h
 | a::x,b::y,h=>by
  have h:(if a=b then lexL x y else decide (a<b))=true:=h;show(if b=a then lexL y x else decide (b<a))=false;by_cases e:a=b
  ·rw [if_pos e] at h;rw[if_pos e.symm];exact Jbc x y h
  ·rw [if_neg e] at h;rw[if_neg (fun z=>e z.symm)];have:=of_decide_eq_true h;exact decide_eq_false (by omega)
theorem Jfv:∀x y:VY,lexL x y=false->lexL y x=false->x=y
 | [],[],_,_=>rfl
 | [],_::_,h,_=>by cases h
 | _::_,[],_,h=>by cases h
 | a::x,b::y,h,g=>by
  have h:(if a=b then lexL x y else decide (a<b))=false:=h;have g:(if b=a then lexL y x else decide (b<a))=false:=g;by_cases e:a=b
  ·rw [if_pos e] at h;rw[if_pos e.symm]at g;rw[e,Jfv x y h g]
  ·rw [if_neg e] at h;rw[if_neg (fun z=>e z.symm)]at g;have h:=of_decide_eq_false h;have g:=of_decide_eq_false g;omega
theorem Jji:∀x y z:VY,lexL y x=false->lexL z y=false->lexL z x=false
 | [],[],[],_,_=>rfl
 | [],[],_::_,_,_=>rfl
 | [],_::_,[],_,h=>by cases h
 | [],_::_,_::_,_,_=>rfl
 | _::_,[],_,h,_=>by cases h
 | _::_,_::_,[],_,h=>by cases h
 | a::x,b::y,c::z,h,g=>by
  have h:(if b=a then lexL y x else decide (b<a))=false:=h;have g:(if c=b then lexL z y else decide (c<b))=false:=g;show(if c=a then lexL z x else decide (c<a))=false;by_cases e:b=a
  ·rw [if_pos e] at h;by_cases e2:c=b
   ·rw [if_pos e2] at g;rw[if_pos (e2.trans e)];exact Jji x y z h g
   ·rw [if_neg e2] at g;rw[if_neg (fun w=>e2 (w.trans e.symm))];have g:=of_decide_eq_false g;exact decide_eq_false (by omega)
  ·rw [if_neg e] at h;have h:=of_decide_eq_false h;by_cases e2:c=b
   ·rw [if_neg (fun w=>e (e2.symm.trans w))];exact decide_eq_false (by omega)
   ·rw [if_neg e2] at g;have g:=of_decide_eq_false g;rw[if_neg (by omega)];exact decide_eq_false (by omega)
abbrev RisL(l:List (VY)):Prop:=l.Pairwise fun x y=>lexL y x=false
abbrev StcL(l:List (VY)):Prop:=l.Pairwise fun x y=>lexL x y=true
theorem QP:∀{l:List (VY)},RisL l->l.Nodup->StcL l
 | [],_,_=>List.Pairwise.nil
 | a::l,h,n=>by
  obtain⟨h1,h2⟩:=List.pairwise_cons.mp h;obtain⟨n1,n2⟩:=List.nodup_cons.mp n;refine List.pairwise_cons.mpr ⟨fun y hy=>?_,QP h2 n2⟩;cases e:lexL a y with
  | true=>rfl
  | false=>exact absurd (Jfv a y e (h1 y hy)) (fun z=>n1 (z ▸ hy))
theorem StcL.uniq:∀{l r:List (VY)},StcL l->StcL r->(∀x,x∈l↔x∈r)->l=r
 | [],[],_,_,_=>rfl
 | [],b::r,_,_,h=>nomatch (h b).mpr SG
 | a::l,[],_,_,h=>nomatch (h a).mp SG
 | a::l,b::r,s1,s2,h=>by
  obtain⟨a1,a2⟩:=List.pairwise_cons.mp s1;obtain⟨b1,b2⟩:=List.pairwise_cons.mp s2;have e:a=b:=by
   rcases List.mem_cons.mp ((h a).mp SG)with z|z
   ·exact z
   ·rcases List.mem_cons.mp ((h b).mpr SG) with y | y
    ·exact y.symm
    ·have:=Jbc _ _ (b1 a z);rw[a1 b y]at this;cases this
  subst e;rw[StcL.uniq a2 b2 fun x=>⟨fun hx=>?_,fun hx=>?_⟩]
  ·rcases List.mem_cons.mp ((h x).mp (SD _ hx)) with z | z
   ·have:=a1 x hx;rw[z,WQ]at this;cases this
   ·exact z
  ·rcases List.mem_cons.mp ((h x).mpr (SD _ hx)) with z | z
   ·have:=b1 x hx;rw[z,WQ]at this;cases this
   ·exact z
def IsTp(h:Heap)(v:VR)(ns:VY):Prop:=∃a o us n,v=.ref a/\h.get? a=some o/\o.cls=.type "tuple"/\o.data=.seq (List.toArray us) n/\Vals (ns.map V.int) us
theorem Uo:∀{ns ms:VY}{us:VU},Vals (ns.map V.int) us->Vals (ms.map V.int) us->ns=ms
 | [],[],_,_,_=>rfl
 | [],_::_,_,.nil,h=>by cases h
 | _::_,[],_,h,.nil=>by cases h
 | _::_,_::_,_,.cons r t,.cons r' t'=>by
  obtain⟨_,e⟩:=r;obtain⟨_,e'⟩:=r';rw[e]at e';injection e' with e1 _
  rw[e1,Uo t t']
section
variable{prog:VC}{w:VF}{A:VD}{E:VQ}{s:VP}
theorem Jfu{C:Bool->VP->Prop}:∀(ns ms:VY)(us vs:VU)(i:Nat),Vals (ns.map V.int) us->Vals (ms.map V.int) vs->C (lexL ns ms) s->PySem.W.KatLex prog w A true (decide (ns.length<ms.length)) C (us.zip vs) i s
 | [],[],_,_,_,.nil,.nil,h=>PySem.W.kat_nil h
 | [],_::_,_,_,_,.nil,.cons _ _,h=>PySem.W.kat_nil (by rw [show decide (List.length [] < List.length (_::_))=true from by simp]; exact h)
 | _::_,[],_,_,_,.cons _ _,.nil,h=>PySem.W.kat_nil h
 | a::x,b::y,_,_,i,.cons r t,.cons r' t',h=>by
  obtain⟨t1,rfl⟩:=r;obtain⟨t2,rfl⟩:=r';have h:C (if a=b then lexL x y else decide (a<b)) s:=h;refine PySem.W.kat_cons (SeqAt.EqAt.int_int _ _ _ _ prog w _ _ (PySem.W.kat_go (fun e=>PySem.W.kat_yes ?_) fun e=>PySem.W.kat_no ?_))
  ·have e:a=b:=by simpa using e
   rw[if_pos e]at h;have ih:=Jfu x y _ _ (i+1) t t' h;have:decide ((a::x).length<(b::y).length)=decide (x.length<y.length):=by simp
   rw[this];exact ih
  ·have e:¬ a=b:=by simpa using e
   rw[if_neg e]at h;cases i with
   | zero=>exact oneLt_int h
   | succ i=>exact PySem.W.kat_one _ _ (lt_int (show PySem.W.BoolBack C (.bool _) s from h))
theorem Jwo{x y:VR}{p q:VY}{C:Bool->VP->Prop}(hx:IsTp s.heap x p)(hy:IsTp s.heap y q)(h:C (lexL p q) s):wpAny (model prog w) A (keyLt' (tuples' true) x y) C E s:=by
 obtain⟨a,o,us,n,rfl,h1,h2,h3,h4⟩:=hx;obtain⟨a',o',us',n',rfl,h1',h2',h3',h4'⟩:=hy;refine PySem.W.kat_lt h1 h3 h1' h3' ?_;have l1:us.length=p.length:=by rw[<- h4.length,List.length_map]
 have l2:us'.length=q.length:=by rw[<- h4'.length,List.length_map]
 show PySem.W.KatLex prog w A true (decide (us.length<us'.length)) C (us.zip us') 0 s;rw[l1,l2];exact Jfu p q us us' 0 h4 h4' h
theorem IsTp.uniq{h:Heap}{v:VR}{p q:VY}(x:IsTp h v p)(y:IsTp h v q):p=q:=by
 obtain⟨a,o,us,n,rfl,h1,h2,h3,h4⟩:=x;obtain⟨a',o',us',n',e,h1',h2',h3',h4'⟩:=y;cases e;rw[h1]at h1';cases h1';rw[h3]at h3';injection h3' with e1 _
 have e1:=congrArg Array.toList e1;simp at e1;subst e1;exact Uo h4 h4'
theorem Jqp(h:Heap):∃key:VR->VY,∀v q,IsTp h v q->key v=q:=by
 classical
 refine⟨fun v=>if x:∃q,IsTp h v q then x.choose else[],fun v q x=>?_⟩;have z:∃q,IsTp h v q:=⟨q,x⟩;dsimp only;rw[dif_pos z];exact z.choose_spec.uniq x
def Jeb(key:VR->VY)(x y:Keyed):Bool:=lexL (key x.1) (key y.1)
theorem Jhq(key:VR->VY):Tim.Ordr (Jeb key):=⟨fun x y e=>Jbc _ _ e,fun x y z e1 e2=>Jji _ _ _ e1 e2⟩
def OutT(ps:List (VY))(vs o:VU):Prop:=∃p:List Nat,p.Perm (List.range vs.length)/\o=p.map (fun i=>vs.getD i Value.none)/\RisL (p.map fun i=>ps.getD i [])
theorem OutT.len{ps:List (VY)}{vs o:VU}(h:OutT ps vs o):o.length=vs.length:=by obtain⟨p,hp,rfl,_⟩:=h;rw[List.length_map,hp.length_eq,List.length_range]
theorem OutT.small{ps:List (VY)}{vs:VU}(h:vs.length<2):OutT ps vs vs:=by
 obtain⟨p,hp,e⟩:=Reord.refl vs;refine⟨p,hp,e,?_⟩;have l:(p.map fun i=>ps.getD i []).length<2:=by rw[List.length_map,hp.length_eq,List.length_range];exact h
 generalize (p.map fun i=>ps.getD i [])=l' at l
 match l',l with
 | [],_=>exact List.Pairwise.nil
 | [_],_=>exact SV _ _
 | _::_::_,l=>exact absurd l (by simp)
theorem Jif:∀{vs:VU}{ps:List (VY)},Paired (IsTp s.heap) vs ps->(∀q∈ps,q≠[])->∃fs,PySem.W.KatTups s.heap vs fs/\fs.length=vs.length/\∀v∈fs,∃i t,v=Value.int i t
 | _,_,.nil,_=>⟨[],PySem.W.KatTups.nil,rfl,fun v hv=>by cases hv⟩
 | _,q::_,.cons h r,ne=>by
  obtain⟨fs,k,l,z⟩:=Jif r fun q hq=>ne q (SD _ hq);obtain⟨a,o,us,n,rfl,h1,h2,h3,h4⟩:=h;have hq:=ne q SG
  match q,hq,us,h4,h3 with
  | [],hq,_,_,_=>exact absurd rfl hq
  | i::_,_,u::us',.cons r _,h3 =>
   obtain⟨t,rfl⟩:=r;refine⟨Value.int i t::fs,PySem.W.KatTups.cons h1 h2 h3 (by simp) k,by simp[l],fun v hv=>?_⟩;rcases List.mem_cons.mp hv with rfl|hv
   ·exact ⟨_,_,rfl⟩
   ·exact z v hv
end
section
variable{X:Cx}
end
section
variable{prog:VC}{w:VF}{A:VD}{E:VQ}{s:VP}
theorem Jiw{vs:VU}{ps:VX}(hp:Paired (IsPr s.heap) vs ps)(h2:2<=vs.length)(h64:vs.length<64) :
  wpAny (model prog w) A (keyKind' vs.toArray) (fun κ t'=>t'=s /\
   wpAny (model prog w) A ((sortRuns').run (SortSt.mk' κ (vs.toArray.zip vs.toArray) #[] 7 none)) (fun r t2=>t2=s/\failedOf r.2=none/\OutS ps vs ((arrOf r.2).map (·.2)).toList) (fun _ _=>False) s) (fun _ _=>False) s:=by
 obtain⟨fs,kt,lf,hf⟩:=Jiv hp;obtain⟨key,hkey⟩:=Jrc s.heap;refine PySem.W.kat_kind (T:=.type "int") kt (by omega) (fun v hv=>?_) (by decide) ⟨rfl,?_⟩
 ·obtain ⟨i,t,rfl⟩:=hf v hv;exact .now
 ·have mem:∀ x:Keyed,x∈vs.toArray.zip vs.toArray->x.1=x.2/\∃ q,IsPr s.heap x.1 q:=fun x hx=>by
   have hx':x∈vs.zip vs:=by have:=Array.mem_toList_iff.mpr hx;simpa using this
   obtain⟨e1,e2⟩:=mem_zip_self hx';obtain⟨k,hk,e3⟩:=LW e2;obtain⟨y,_,z⟩:=Paired.get' (i:=k) (x:=x.1) hp (by rw[List.getElem?_eq_getElem hk,e3]);exact⟨e1,y,z⟩
  have hc:Tim.CmpL prog w A s (tuples' true) (vs.toArray.zip vs.toArray) (Jcn key):=fun x y hx hy E Q q=>by obtain⟨_,p1,z1⟩:=mem x hx;obtain⟨_,p2,z2⟩:=mem y hy;unfold Jcn at q;rw[hkey _ _ z1,hkey _ _ z2]at q;exact Juk z1 z2 q
  refine Tim.runs_S (st:=SortSt.mk' (tuples' true) (vs.toArray.zip vs.toArray) #[] 7 none) (Q:=fun _ st=>failedOf st=none/\OutS ps vs ((arrOf st).map (·.2)).toList) (Jlt key) hc (by simpa using h64) ⟨rfl,rfl,Array.Perm.refl _⟩ rfl fun st' ok sd=>⟨ok.fail,?_⟩;have pm:((arrOf st').map (·.2)).toList.Perm vs:=by have:=(Array.perm_iff_toList_perm.mp ok.perm).map (·.2);rw[Array.toList_map];refine this.trans (List.Perm.of_eq ?_);simp[List.map_snd_zip]
  obtain⟨p,hpp,eo⟩:=Reord.of_perm pm;refine⟨p,hpp,eo,?_⟩
  -- the pairs of what lies now
  have s1:(((arrOf st').map (·.2)).toList.map (key)).Pairwise fun x y=>lexB y x=false:=by rw[Array.toList_map,List.map_map];refine List.pairwise_map.mpr ?_;refine List.Pairwise.imp_of_mem (fun {x y} hx hy h=>?_) sd;have m1:=(mem x (ok.perm.mem_iff.mp (Array.mem_toList_iff.mp hx))).1;have m2:=(mem y (ok.perm.mem_iff.mp (Array.mem_toList_iff.mp hy))).1;unfold Jcn at h;show lexB (key y.2) (key x.2)=false;rw[<- m1,<- m2];exact h
  have e2:((arrOf st').map (·.2)).toList.map (key)=p.map fun i=>ps.getD i (0,0):=by
   rw[eo,List.map_map];refine List.map_congr_left fun i hi=>?_;have hi':i<vs.length:=by have:=hpp.mem_iff.mp hi;simpa using this
   obtain⟨y,hy,z⟩:=Paired.get' (i:=i) (x:=vs[i]) hp (SN hi');show key (vs.getD i Value.none)=_;rw[List.getD_eq_getElem?_getD,List.getElem?_eq_getElem hi',List.getD_eq_getElem?_getD,hy];exact hkey _ _ z
  rw[e2]at s1;exact s1
theorem Jqo{vs:VU}{ps:List (VY)}(hp:Paired (IsTp s.heap) vs ps)(hne:∀q∈ps,q≠[])(h2:2<=vs.length)(h64:vs.length<64) :
  wpAny (model prog w) A (keyKind' vs.toArray) (fun κ t'=>t'=s /\
   wpAny (model prog w) A ((sortRuns').run (SortSt.mk' κ (vs.toArray.zip vs.toArray) #[] 7 none)) (fun r t2=>t2=s/\failedOf r.2=none/\OutT ps vs ((arrOf r.2).map (·.2)).toList) (fun _ _=>False) s) (fun _ _=>False) s:=by
 obtain⟨fs,kt,lf,hf⟩:=Jif hp hne;obtain⟨key,hkey⟩:=Jqp s.heap;refine PySem.W.kat_kind (T:=.type "int") kt (by omega) (fun v hv=>?_) (by decide) ⟨rfl,?_⟩
 ·obtain ⟨i,t,rfl⟩:=hf v hv;exact .now
 ·have mem:∀ x:Keyed,x∈vs.toArray.zip vs.toArray->x.1=x.2/\∃ q,IsTp s.heap x.1 q:=fun x hx=>by
   have hx':x∈vs.zip vs:=by have:=Array.mem_toList_iff.mpr hx;simpa using this
   obtain⟨e1,e2⟩:=mem_zip_self hx';obtain⟨k,hk,e3⟩:=LW e2;obtain⟨y,_,z⟩:=Paired.get' (i:=k) (x:=x.1) hp (by rw[List.getElem?_eq_getElem hk,e3]);exact⟨e1,y,z⟩
  have hc:Tim.CmpL prog w A s (tuples' true) (vs.toArray.zip vs.toArray) (Jeb key):=fun x y hx hy E Q q=>by obtain⟨_,p1,z1⟩:=mem x hx;obtain⟨_,p2,z2⟩:=mem y hy;unfold Jeb at q;rw[hkey _ _ z1,hkey _ _ z2]at q;exact Jwo z1 z2 q
  refine Tim.runs_S (st:=SortSt.mk' (tuples' true) (vs.toArray.zip vs.toArray) #[] 7 none) (Q:=fun _ st=>failedOf st=none/\OutT ps vs ((arrOf st).map (·.2)).toList) (Jhq key) hc (by simpa using h64) ⟨rfl,rfl,Array.Perm.refl _⟩ rfl fun st' ok sd=>⟨ok.fail,?_⟩;have pm:((arrOf st').map (·.2)).toList.Perm vs:=by have:=(Array.perm_iff_toList_perm.mp ok.perm).map (·.2);rw[Array.toList_map];refine this.trans (List.Perm.of_eq ?_);simp[List.map_snd_zip]
  obtain⟨p,hpp,eo⟩:=Reord.of_perm pm;refine⟨p,hpp,eo,?_⟩
  -- the pairs of what lies now
  have s1:(((arrOf st').map (·.2)).toList.map (key)).Pairwise fun x y=>lexL y x=false:=by rw[Array.toList_map,List.map_map];refine List.pairwise_map.mpr ?_;refine List.Pairwise.imp_of_mem (fun {x y} hx hy h=>?_) sd;have m1:=(mem x (ok.perm.mem_iff.mp (Array.mem_toList_iff.mp hx))).1;have m2:=(mem y (ok.perm.mem_iff.mp (Array.mem_toList_iff.mp hy))).1;unfold Jeb at h;show lexL (key y.2) (key x.2)=false;rw[<- m1,<- m2];exact h
  have e2:((arrOf st').map (·.2)).toList.map (key)=p.map fun i=>ps.getD i []:=by
   rw[eo,List.map_map];refine List.map_congr_left fun i hi=>?_;have hi':i<vs.length:=by have:=hpp.mem_iff.mp hi;simpa using this
   obtain⟨y,hy,z⟩:=Paired.get' (i:=i) (x:=vs[i]) hp (SN hi');show key (vs.getD i Value.none)=_;rw[List.getD_eq_getElem?_getD,List.getElem?_eq_getElem hi',List.getD_eq_getElem?_getD,hy];exact hkey _ _ z
  rw[e2]at s1;exact s1
end
section
variable{X:Cx}
theorem ZY:Yd X (.builtin "sorted") (fun xs H Q=>∃ (l:VB) (ws:VS) (prs:VX),xs=[.ref l]/\H l=some (.lst ws)/\Ars H ws prs/\ws.length < 64 /\
  ∀ (D:VB) (ws':VS) (prs':VX) (H':Hp),Same H H'->H' D=some (.lst ws')->Ars H' ws' prs'->prs'.Perm prs->Ris prs'->Q (.ref D) H'):=by
 intro pins s σ H xs us Q I r h;obtain⟨l,ws,prs,rfl,hl,ha,hn,q⟩:=h;obtain⟨u,rfl,ru⟩:=Ym r;cases ru;obtain⟨its,rv,pl,hz⟩:=I.list (SqL.of hl);have lv:ws.length=its.length:=rv.length;have lp:ws.length=prs.length:=Paired.length ha;have isp:∀{t:VP},(∀b o,s.heap.get? b=some o->t.heap.get? b=some o)->Paired (IsPr t.heap) its prs:=by
  intro t kp;refine Paired.of_get (by omega) fun j v y hv hy=>?_;have hj:j<its.length:=(SY.mp hv).1;have hj':j<ws.length:=by omega
  obtain⟨c,e1,a,e2,e3⟩:=Paired.get' (i:=j) (x:=ws[j]) ha (by simp[hj']);rw[hy]at e1;cases e1;obtain⟨w',e4,e5⟩:=rv.get (i:=j) (x:=ws[j]) (by simp[hj']);rw[hv]at e4;cases e4;rw[e2]at e5;have e5:v=Value.ref a:=e5;obtain⟨jt,r3,⟨ot,g1,g2,n,g3⟩,_⟩:=I.tuple (SqT.of e3);obtain⟨u1,u2,rfl,⟨t1,rfl⟩,⟨t2,rfl⟩⟩:=Jde r3;exact⟨a,ot,t1,t2,n,e5,kp _ _ g1,g2,g3⟩
 refine Calls.call_function_entry kind_sorted plain_sorted entry_sorted (args_sorted1 _) ?_;unfold Builtin.«sorted»;refine VL (m:=checkCount "sorted" 1 1 _) (VM ?_);have sl:(1000000:Nat)<sizeLine:=by decide
 refine VL (collect_list pl.isList ?_);refine VL (wpAny_newList ?_);have hsz:((s.heap.push (seqObj "list" #[] 0)).update s.heap.objs.size (Obj.mapSeq (·++its.toArray))).objs.size=s.heap.objs.size+1:=by rw[Heap.size_update,size_push']
 have hoL:(((s.heap.push (seqObj "list" #[] 0)).update s.heap.objs.size (Obj.mapSeq (·++its.toArray))).push (seqObj "list" its.toArray 0)).get? (s.heap.objs.size+1)=some (seqObj "list" its.toArray 0):=by rw[<- hsz];exact VT _ rfl
 show wpAny _ _ _ _ _ { s with heap:=((s.heap.push (seqObj "list" #[] 0)).update s.heap.objs.size (Obj.mapSeq (·++its.toArray))).push (seqObj "list" its.toArray 0) };rw[hsz];have k0:∀b o,s.heap.get? b=some o->(((s.heap.push (seqObj "list" #[] 0)).update s.heap.objs.size (Obj.mapSeq (·++its.toArray))).push (seqObj "list" its.toArray 0)).get? b=some o:=fun b o e=>by refine VN _ ?_;rw[Heap.get?_update_ne _ _ _ _ (Nat.ne_of_lt (Heap.lt_size e))];exact VN _ e
 refine VL (wpAny_holding (wpAny_call_entry slot_list_sort ⟨_,hoL,rfl⟩ entry_list_sort (WZ (Out:=OutS prs its) hoL (by omega) (fun h2=>OutS.small (by omega)) (fun _ h=>h.len)
  (fun h2 t kp=>Jiw (isp fun b o e=>kp b o (SF (LJ (SQ e))) (k0 b o e)) h2 (by omega)) fun out ho=>⟨_,rfl,?_⟩) (args_list_sort _)))
 refine VM ⟨_,rfl,?_⟩;obtain⟨c,hDo⟩:=sortedHeap_at (vs:=its) (out:=out) hoL;have kp:∀b o,s.heap.get? b=some o->(sortedHeap (((s.heap.push (seqObj "list" #[] 0)).update s.heap.objs.size (Obj.mapSeq (·++its.toArray))).push (seqObj "list" its.toArray 0)) (s.heap.objs.size+1) its out).get? b=some o:=fun b o e=>by rw[sortedHeap_old (Nat.ne_of_lt (Nat.lt_succ_of_lt (Heap.lt_size e))) (by rw[size_push',hsz];exact Nat.lt_succ_of_lt (Nat.lt_succ_of_lt (Heap.lt_size e)))];exact k0 b o e
 obtain⟨p,hp,eo,ris⟩:=ho;have I1:Inv X pins σ H { s with heap:=sortedHeap (((s.heap.push (seqObj "list" #[] 0)).update s.heap.objs.size (Obj.mapSeq (·++its.toArray))).push (seqObj "list" its.toArray 0)) (s.heap.objs.size+1) its out }:=I.kept (t':=s.toks) kp;have fp:FpOk X pins H (s.heap.objs.size+1):=I.newFp fun b o e=>LJ (SQ e);have lt:∀i∈p,i<its.length:=fun i hi=>by have:=hp.mem_iff.mp hi;simpa using this
 have vals:Vals (p.map fun i=>ws.getD i .non) out.toList:=by
  rw[eo];refine Paired.of_map fun i hi=>?_;have hi':=lt i hi;obtain⟨w',e4,e5⟩:=rv.get (i:=i) (x:=ws[i]'(by omega)) (by simp[lv,hi']);have a1:ws.getD i .non=ws[i]'(by omega):=by simp[lv,hi']
  have a2:its.getD i Value.none=w':=by rw[List.getD_eq_getElem?_getD,e4];rfl
  rw[a1,a2];exact e5
 have new:ObjOk X.prog X.w (upd H (s.heap.objs.size+1) (.lst (p.map fun i=>ws.getD i .non))) (sortedHeap (((s.heap.push (seqObj "list" #[] 0)).update s.heap.objs.size (Obj.mapSeq (·++its.toArray))).push (seqObj "list" its.toArray 0)) (s.heap.objs.size+1) its out) (s.heap.objs.size+1) (.lst (p.map fun i=>ws.getD i .non)):=by refine⟨?_,out.toList,c,vals,by simpa using hDo⟩;rw[List.length_map,hp.length_eq,List.length_range];omega
 refine⟨.ref (s.heap.objs.size+1),_,I1.adopt fp new,rfl,q _ _ (p.map fun i=>prs.getD i (0,0)) _ (Same.upd fp.1) Jc (Paired.of_map fun i hi=>?_) ?_ ris⟩
 ·have hi':=lt i hi;obtain⟨c,e1,a,e2,e3⟩:=Paired.get' (i:=i) (x:=ws[i]'(by omega)) ha (by simp[lv,hi']);have a1:ws.getD i .non=ws[i]'(by omega):=by simp[lv,hi']
  have a2:prs.getD i (0,0)=c:=by rw[List.getD_eq_getElem?_getD,e1];rfl
  rw[a1,a2];exact⟨a,e2,by rw[Jj (Jg e3 fp.1)];exact e3⟩
 ·have e:(List.range its.length).map (fun i=>prs.getD i (0,0))=prs:=by
   apply List.ext_getElem
   ·simp;omega
   ·intro i h1 h2;simp[h2]
  have:=hp.map fun i=>prs.getD i (0,0);rw[e]at this;exact this
theorem QG:Yd X (.builtin "sorted") (fun xs H Q=>∃ (l:VB) (ws:VS) (prs:List (VY)),xs=[.ref l]/\H l=some (.lst ws)/\Tpi H ws prs/\(∀ q∈prs,q≠[])/\ws.length < 64 /\
  ∀ (D:VB) (ws':VS) (prs':List (VY)) (H':Hp),Same H H'->H D=none->H' D=some (.lst ws')->Tpi H' ws' prs'->prs'.Perm prs->RisL prs'->Q (.ref D) H'):=by
 intro pins s σ H xs us Q I r h;obtain⟨l,ws,prs,rfl,hl,ha,hne,hn,q⟩:=h;obtain⟨u,rfl,ru⟩:=Ym r;cases ru;obtain⟨its,rv,pl,hz⟩:=I.list (SqL.of hl);have lv:ws.length=its.length:=rv.length;have lp:ws.length=prs.length:=Paired.length ha;have isp:∀{t:VP},(∀b o,s.heap.get? b=some o->t.heap.get? b=some o)->Paired (IsTp t.heap) its prs:=by
  intro t kp;refine Paired.of_get (by omega) fun j v y hv hy=>?_;have hj:j<its.length:=(SY.mp hv).1;have hj':j<ws.length:=by omega
  obtain⟨c,e1,a,e2,e3⟩:=Paired.get' (i:=j) (x:=ws[j]) ha (by simp[hj']);rw[hy]at e1;cases e1;obtain⟨w',e4,e5⟩:=rv.get (i:=j) (x:=ws[j]) (by simp[hj']);rw[hv]at e4;cases e4;rw[e2]at e5;have e5:v=Value.ref a:=e5;obtain⟨jt,r3,⟨ot,g1,g2,n,g3⟩,_⟩:=I.tuple (SqT.of e3);exact⟨a,ot,jt,n,e5,kp _ _ g1,g2,g3,r3⟩
 refine Calls.call_function_entry kind_sorted plain_sorted entry_sorted (args_sorted1 _) ?_;unfold Builtin.«sorted»;refine VL (m:=checkCount "sorted" 1 1 _) (VM ?_);have sl:(1000000:Nat)<sizeLine:=by decide
 refine VL (collect_list pl.isList ?_);refine VL (wpAny_newList ?_);have hsz:((s.heap.push (seqObj "list" #[] 0)).update s.heap.objs.size (Obj.mapSeq (·++its.toArray))).objs.size=s.heap.objs.size+1:=by rw[Heap.size_update,size_push']
 have hoL:(((s.heap.push (seqObj "list" #[] 0)).update s.heap.objs.size (Obj.mapSeq (·++its.toArray))).push (seqObj "list" its.toArray 0)).get? (s.heap.objs.size+1)=some (seqObj "list" its.toArray 0):=by rw[<- hsz];exact VT _ rfl
 show wpAny _ _ _ _ _ { s with heap:=((s.heap.push (seqObj "list" #[] 0)).update s.heap.objs.size (Obj.mapSeq (·++its.toArray))).push (seqObj "list" its.toArray 0) };rw[hsz];have k0:∀b o,s.heap.get? b=some o->(((s.heap.push (seqObj "list" #[] 0)).update s.heap.objs.size (Obj.mapSeq (·++its.toArray))).push (seqObj "list" its.toArray 0)).get? b=some o:=fun b o e=>by refine VN _ ?_;rw[Heap.get?_update_ne _ _ _ _ (Nat.ne_of_lt (Heap.lt_size e))];exact VN _ e
 refine VL (wpAny_holding (wpAny_call_entry slot_list_sort ⟨_,hoL,rfl⟩ entry_list_sort (WZ (Out:=OutT prs its) hoL (by omega) (fun h2=>OutT.small (by omega)) (fun _ h=>h.len)
  (fun h2 t kp=>Jqo (isp fun b o e=>kp b o (SF (LJ (SQ e))) (k0 b o e)) hne h2 (by omega)) fun out ho=>⟨_,rfl,?_⟩) (args_list_sort _)))
 refine VM ⟨_,rfl,?_⟩;obtain⟨c,hDo⟩:=sortedHeap_at (vs:=its) (out:=out) hoL;have kp:∀b o,s.heap.get? b=some o->(sortedHeap (((s.heap.push (seqObj "list" #[] 0)).update s.heap.objs.size (Obj.mapSeq (·++its.toArray))).push (seqObj "list" its.toArray 0)) (s.heap.objs.size+1) its out).get? b=some o:=fun b o e=>by rw[sortedHeap_old (Nat.ne_of_lt (Nat.lt_succ_of_lt (Heap.lt_size e))) (by rw[size_push',hsz];exact Nat.lt_succ_of_lt (Nat.lt_succ_of_lt (Heap.lt_size e)))];exact k0 b o e
 obtain⟨p,hp,eo,ris⟩:=ho;have I1:Inv X pins σ H { s with heap:=sortedHeap (((s.heap.push (seqObj "list" #[] 0)).update s.heap.objs.size (Obj.mapSeq (·++its.toArray))).push (seqObj "list" its.toArray 0)) (s.heap.objs.size+1) its out }:=I.kept (t':=s.toks) kp;have fp:FpOk X pins H (s.heap.objs.size+1):=I.newFp fun b o e=>LJ (SQ e);have lt:∀i∈p,i<its.length:=fun i hi=>by have:=hp.mem_iff.mp hi;simpa using this
 have vals:Vals (p.map fun i=>ws.getD i .non) out.toList:=by
  rw[eo];refine Paired.of_map fun i hi=>?_;have hi':=lt i hi;obtain⟨w',e4,e5⟩:=rv.get (i:=i) (x:=ws[i]'(by omega)) (by simp[lv,hi']);have a1:ws.getD i .non=ws[i]'(by omega):=by simp[lv,hi']
  have a2:its.getD i Value.none=w':=by rw[List.getD_eq_getElem?_getD,e4];rfl
  rw[a1,a2];exact e5
 have new:ObjOk X.prog X.w (upd H (s.heap.objs.size+1) (.lst (p.map fun i=>ws.getD i .non))) (sortedHeap (((s.heap.push (seqObj "list" #[] 0)).update s.heap.objs.size (Obj.mapSeq (·++its.toArray))).push (seqObj "list" its.toArray 0)) (s.heap.objs.size+1) its out) (s.heap.objs.size+1) (.lst (p.map fun i=>ws.getD i .non)):=by refine⟨?_,out.toList,c,vals,by simpa using hDo⟩;rw[List.length_map,hp.length_eq,List.length_range];omega
 refine⟨.ref (s.heap.objs.size+1),_,I1.adopt fp new,rfl,q _ _ (p.map fun i=>prs.getD i []) _ (Same.upd fp.1) fp.1 Jc (Paired.of_map fun i hi=>?_) ?_ ris⟩
 ·have hi':=lt i hi;obtain⟨c,e1,a,e2,e3⟩:=Paired.get' (i:=i) (x:=ws[i]'(by omega)) ha (by simp[lv,hi']);have a1:ws.getD i .non=ws[i]'(by omega):=by simp[lv,hi']
  have a2:prs.getD i []=c:=by rw[List.getD_eq_getElem?_getD,e1];rfl
  rw[a1,a2];exact⟨a,e2,by rw[Jj (Jg e3 fp.1)];exact e3⟩
 ·have e:(List.range its.length).map (fun i=>prs.getD i [])=prs:=by
   apply List.ext_getElem
   ·simp;omega
   ·intro i h1 h2;simp[h2]
  have:=hp.map fun i=>prs.getD i [];rw[e]at this;exact this
theorem Ql (hc:X.calm=true):Yd X (.builtin "sorted") (fun xs H Q=>∃ (d:VB) (kvs:List (List Key×V)) (prs:VX),xs=[.ref d]/\H d=some (.dT kvs)/\kvs.map (·.1)=prs.map JF/\kvs.length < 64 /\
  ∀ (D:VB) (ws:VS) (prs':VX) (H':Hp),Same H H'->H' D=some (.lst ws)->Ars H' ws prs'->prs'.Perm prs->Ris prs'->prs.Nodup->Q (.ref D) H'):=by
 intro pins s σ H xs us Q I r h;obtain⟨d,kvs,prs,rfl,hd,hk,hl,q⟩:=h;obtain⟨u,rfl,ru⟩:=Ym r;cases ru;obtain⟨z,hsys,xs',rel,o,es,ep,e1,e2,e3,e4,nd⟩:=(show ObjOk X.prog X.w H s.heap d (.dT kvs)from I.hok d _ hd);have l1:kvs.length=xs'.length:=Paired.length rel;have l2:es.size=kvs.length:=by have:=congrArg List.length e4;rw[Array.length_toList,List.length_map]at this;omega
 have l3:prs.length=kvs.length:=by have:=congrArg List.length hk;rw[List.length_map,List.length_map]at this;exact this.symm
 -- the j-th key
 have key:∀(j:Nat)(v:VR),(∃e,es[j]?=some e/\v=e.key)->∃a q,v=.ref a/\prs[j]?=some q/\H a=some (.tup [.int q.1,.int q.2]):=by
  rintro j v ⟨e,he,rfl⟩;have he':es.toList[j]?=some e:=by simpa using he
  rw[e4,List.getElem?_map]at he';obtain⟨x,hx,rfl⟩:=SX.mp he';have hj:j<kvs.length:=by have:=(SY.mp hx).1;omega
  obtain⟨y,hy,hy1,hy2,_⟩:=Paired.get' (i:=j) (x:=kvs[j]) rel (by simp[hj]);rw[hx]at hy;cases hy;have hq:prs[j]?=some prs[j]:=by simp[l3,hj]
  have ek:(kvs.map (·.1))[j]?=(prs.map JF)[j]?:=by rw[hk]
  rw[List.getElem?_map,List.getElem?_map,hq]at ek;have ek:kvs[j].1=JF prs[j]:=by simpa [hj]using ek
  refine⟨x.2.1,prs[j],rfl,hq,?_⟩;rw[hy2,ek];rfl
 have isp:∀{t:VP},(∀b o,s.heap.get? b=some o->t.heap.get? b=some o)->∀{vs:VU},vs.length=es.size->(∀(j:Nat)(v:VR),vs[j]?=some v->∃e,es[j]?=some e/\v=e.key)->Paired (IsPr t.heap) vs prs:=by intro t kp vs lv pv;refine Paired.of_get (by omega) fun j v y hv hy=>?_;obtain⟨a,q',rfl,hq,ha⟩:=key j v (pv j v hv);rw[hy]at hq;cases hq;obtain⟨its,rv,⟨ot,g1,g2,n,g3⟩,_⟩:=I.tuple (SqT.of ha);obtain⟨u1,u2,rfl,⟨t1,rfl⟩,⟨t2,rfl⟩⟩:=Jde rv;exact⟨a,ot,t1,t2,n,rfl,kp _ _ g1,g2,g3⟩
 refine Jgy (Out:=OutS prs) (Jdp hsys es ep) (I.ok.hd hc) ⟨o,e1,e2,e3⟩ (by omega) (fun vs h2=>OutS.small h2) (fun _ _ h=>h.len) (fun B vs lv pv h2 t kp=>Jiw (isp kp lv pv) (by omega) (by omega)) ?_;intro D h' tk vs out c hD kp lv pv ho hDo;obtain⟨p,hp,eo,ris⟩:=ho;have ek:∀{l:List (List Key×V)}{r:List (List Key×VB×VR)},Paired (fun(p:List Key×V) (q:List Key×VB×VR)=>p.1=q.1/\H q.2.1=some (.tup (p.1.map kV))/\RelV p.2 q.2.2) l r->l.map (·.1)=r.map (·.1):=by
  intro l r h;induction h with
  | nil=>rfl
  | cons a _ ih=>rw [List.map_cons,List.map_cons,ih,a.1]
 rw[<- ek rel,hk]at nd;have nd':prs.Nodup:=List.Pairwise.of_map JF (fun a b h e=>h (by rw[e])) nd;have I1:Inv X pins σ H { s with heap:=h',toks:=tk }:=I.kept kp;have fp:=I.newFp hD;have lt:∀i∈p,i<vs.length:=fun i hi=>by have:=hp.mem_iff.mp hi;simpa using this
 -- the addresses by places
 have addr:∀i,∃a:VB,i<vs.length->vs.getD i Value.none=.ref a/\H a=some (.tup [.int (prs.getD i (0,0)).1,.int (prs.getD i (0,0)).2]):=fun i=>by
  by_cases hi:i<vs.length
  ·obtain ⟨a,q',ea,hq,ha⟩:=key i vs[i] (pv i _ (by simp [hi]));refine⟨a,fun _=>⟨?_,?_⟩⟩
   ·rw [<- ea];simp[hi]
   ·have e:prs.getD i (0,0)=q':=by
     rw[List.getD_eq_getElem?_getD,hq];rfl
    rw[e];exact ha
  ·exact ⟨0,fun z=>absurd z hi⟩
 obtain⟨f,hf⟩:=Classical.axiomOfChoice addr;have vals:Vals (p.map fun i=>V.ref (f i)) out.toList:=by rw[eo];exact Paired.of_map fun i hi=>(hf i (lt i hi)).1
 have new:ObjOk X.prog X.w (upd H D (.lst (p.map fun i=>V.ref (f i)))) h' D (.lst (p.map fun i=>V.ref (f i))):=by refine⟨?_,out.toList,c,vals,by simpa using hDo⟩;rw[List.length_map,hp.length_eq,List.length_range];exact SZ (Jk (by omega))
 refine⟨.ref D,_,I1.adopt fp new,rfl,q D _ (p.map fun i=>prs.getD i (0,0)) _ (Same.upd fp.1) Jc (Paired.of_map fun i hi=>⟨f i,rfl,?_⟩) ?_ ris nd'⟩
 ·have ha:=(hf i (lt i hi)).2;rw[Jj (Jg ha fp.1)];exact ha
 ·have e:(List.range vs.length).map (fun i=>prs.getD i (0,0))=prs:=by
   apply List.ext_getElem
   ·simp;omega
   ·intro i h1 h2;simp[h2]
  have:=hp.map fun i=>prs.getD i (0,0);rw[e]at this;exact this
end
end L2
namespace L2
open PySem PySem.Spec PyProof.Rows
def Itr2(n:Nat):It:=⟨fun i _=>i<n,fun i H x H'=>H'=H/\x=.int (2*(i:Int)),fun i _=>n<=i⟩
theorem Jeq{P:VC}{w:VF}{K:VG}{tg:Expr}(it:VB)(n:Nat):Turn P w K tg (Itr2 n) [it] it (fun i h=>IsRangeIter h it (0+(i:Nat)*2) ((n:Int)-(i:Nat)) 2) where
 mem:=by simp
 obj:=fun i h st b hb=>by
  have e:b=it:=by simpa using hb
  subst e;exact ⟨_,st,fun v z=>by
   have z':Data.fields _=Data.cell v:=z
   cases z'⟩
 keep:=fun i h h' st k=>k it (by simp) _ st
 item:=by intro X hP hw hK hc i pins s σ H E I hf st hg;subst hP hw hK;obtain⟨f0,f1,f2,f3,f4,f5⟩:=hf it (by simp);have W:=Walks.range (prog:=X.prog) (w:=X.w) (I.ok.hd hc) it 0 2 n;refine W.item i s _ _ hg st fun v h' tk hv st' kk=>?_;obtain⟨t,rfl⟩:=hv;have I1:Inv X pins σ H { s with heap:=h',toks:=tk }:=I.turned (fun b o hb e=>kk b o (by simpa using hb) e) f0 f1 f3 f4 f5;refine⟨_,rfl,Jgc (s:={ s with heap:=h',toks:=tk }) (n:="range_iterator") st' rfl rfl (by decide) ⟨.int (2*(i:Int)),H,I1,⟨t,?_⟩,⟨rfl,rfl⟩,st',fun b hb=>(hf b hb).1⟩⟩;congr 1;omega
 done:=by intro X hP hw hK hc i pins s σ H E I hf st hg;subst hP hw hK;obtain⟨f0,f1,f2,f3,f4,f5⟩:=hf it (by simp);exact wpAny_pyNext_range_end (I.ok.hd hc) st (by have:n<=i:=hg;omega) fun h' eb=>⟨rfl,I.turned (t':=s.toks) (fun b o hb e=>eb b o hb e) f0 f1 f3 f4 f5⟩
 self:=fun _ _ _ _ _ st h=>wpAny_pyIter_rangeiter st h
section
variable{X:Cx}{tg:Expr}
theorem Ut(n:Nat)(j:Int)(h1:(n:Int)=(j+1)/2)(h0:0<=j):Builtin.Range.rangeSize 0 j 2=(n:Int):=by unfold Builtin.Range.rangeSize;simp only[show(2:Int)>0 by decide,if_true];split<;>omega
theorem Jku{j:Int}(h0:0<=j)(h1:j<=1000):Builtin.Range.small 0 j 2=true:=by unfold Builtin.Range.small;rw[Ut ((j+1)/2).toNat j (by omega) h0];simp only[Builtin.Range.rangeFitsLong,Bool.and_eq_true,Bool.or_eq_true,decide_eq_true_eq,beq_iff_eq,show(2:Int)>0 by decide,if_true];omega
def iRng3(ta:TA):TI:=fun σ H R=>ta σ H fun vs H1=>∃(j:Int)(n:Nat),vs=[.int 0,.int j,.int 2]/\0<=j/\j<=1000/\(n:Int)=(j+1)/2/\R (Itr2 n) H1
theorem Jlf{a b c:Expr}{ta:TA}{p pos:Pos}(hg:Gl X "range")(hm:X.mg "range"=none)(ha:PA X [a,b,c] ta)(hs:starEach [a,b,c] X.env=[(false,eval a X.env),(false,eval b X.env),(false,eval c X.env)]:=by rfl)(hs2:starEach [b,c] X.env=[(false,eval b X.env),(false,eval c X.env)]:=by rfl) :
  PI X tg (.Call (.Name "range" p) [a,b,c] [] pos) (iRng3 ta):=by
 intro pins s σ H R I h;refine Call_ (Zk I hg hm boot_range (PyProof.Rows.callWith_type1 (thn (ha pos pins s σ H _ I h) fun us s1 ⟨vs,H1,I1,r1,q1⟩=>?_) (by rw[hs,hs2]) (by rw[hs2];rfl)));obtain⟨j,n,e,j0,j1,jn,q⟩:=q1;subst e;cases r1 with
 | cons r rr =>
  cases rr with
  | cons r' rr =>
   cases rr with
   | cons r'' rr =>
    cases rr;obtain⟨t,rfl⟩:=r;obtain⟨t',rfl⟩:=r';obtain⟨t'',rfl⟩:=r'';refine call_range_3 (by decide) ?_ (.inl (PyProof.noPylong_small (by omega)));refine wpAny_pyIter_range (IsRange.new ..) (Jku j0 j1) ?_;have I2:Inv X pins σ H1 { s1 with heap:=s1.heap.push { cls:=.type "range",data:=.fields #[.int 0 t,.int j t',.int 2 t''] },toks:=s1.toks }:=I1.kept fun b o e=>VN _ e;refine ⟨(s1.heap.push { cls:=.type "range",data:=.fields #[.int 0 t,.int j t',.int 2 t''] }).objs.size,[(s1.heap.push { cls:=.type "range",data:=.fields #[.int 0 t,.int j t',.int 2 t''] }).objs.size],_,_,H1,rfl,
     I2.kept (t':=s1.toks) fun b o e=>VN _ e,Jeq _ n,?_,fun b hb=>?_,q⟩
    ·have e1:0 + ((0:Nat):Int) * 2=0:=by simp
     have e2:((n:Nat):Int)-((0:Nat):Int)=Builtin.Range.rangeSize 0 j 2:=by rw[Ut n j jn j0];omega
     show IsRangeIter _ _ (0+((0:Nat):Int)*2) (((n:Nat):Int)-((0:Nat):Int)) 2;rw[e1,e2];exact VT _ rfl
    ·have e:b=(s1.heap.push { cls:=.type "range",data:=.fields #[.int 0 t,.int j t',.int 2 t''] }).objs.size:=by simpa using hb
     subst e;exact I2.fpOk (SJ _) (I2.hok.fresh (SJ _))
end
theorem Jhv{n:Nat}{g:TG}{tb:TS}{D:Ends}{σ:St}{H:Hp}(Pv:Nat->St->Hp->Prop)(h0:Pv 0 σ H)
  (hs:∀i σ H,i<n->Pv i σ H->g (.int (2*(i:Int))) σ H fun σ2 H2=>tb { D with nx:=Pv (i+1),ct:=Pv (i+1),bk:=D.nx } σ2 H2) (hd:∀σ H,Pv n σ H->D.nx σ H) :
  ∃W:Nat->Nat->St->Hp->Prop,(∃m,W 0 m σ H)/\∀i m σ H,W i m σ H ->
   ((Itr2 n).stop i H/\D.nx σ H)\/((Itr2 n).go i H/\∃N:St->Hp->Prop,(∀σ' H',N σ' H'->∃m',m'<m/\W (i+1) m' σ' H')/\∀x H',(Itr2 n).yld i H x H'->g x σ H' fun σ2 H2=>tb { D with nx:=N,ct:=N,bk:=D.nx } σ2 H2):=by
 refine⟨fun i m σ H=>m=n-i/\i<=n/\Pv i σ H,⟨n,by simp,LX _,h0⟩,?_⟩;rintro i m σ H ⟨rfl,hi,p⟩;by_cases hlt:i<n
 ·refine .inr ⟨hlt,Pv (i + 1),fun σ' H' p'=>⟨n - (i + 1),by omega,rfl,hlt,p'⟩,fun x H' y=>?_⟩;obtain⟨e,y⟩:=y;subst e y;exact hs i σ _ hlt p
 ·have e:i=n:=by omega
  subst e;exact .inl ⟨SJ _,hd σ H p⟩
def YQ(X:Cx)(N:VJ)(scope:Scope)(cl:List (Str×VB))(z:Str)(C:VB)(s:VP)(H:Hp)(fp:List VB):Cx :=
 { cxLc X N scope ((z,C+1)::cl) C s H fp with fn:=fun x=>x==z }
structure LcOkO(X:Cx)(N:VJ)(src:List (Option Nat))(scope:Scope)(cl:List (Str×VB))(z:Str):Prop where
 clos:closureFor scope X.env=pure cl
 kind:scope.kind=.function
 one:∀(n:Nat)(acc:List (Str×VB)),cellsFrom n scope.names acc=(z,n)::acc
 pc:∀h:Heap,pushCells h scope.names=h.push { cls:=.type "cell",data:=.cell none }
 names:scope.names.all (fun y=>!(y.2==.local)||scope.names.lookup y.1==some .local)=true
 caps:CapsIn X.env cl
 has:(relabel scope X.env).names.all (fun y=>!(y.2==.cell||y.2==.free)||(((z,0)::cl).lookup y.1).isSome)=true
 len:N.length=src.length
 srcs:(N.zip src).all (fun p=>match p.2 with|none=>true|some i=>!(p.1==z)&&(X.N[i]?==some p.1&&!((relabel scope X.env).names.lookup p.1==some .local)))=true
theorem Jsp{M:Model}{A:VD}{E:VQ}{s:VP}{scope:Scope}{z:Str}{globals:VB}{cl:List (Str×VB)}{qual:Str}{outer:Env}{Q:Env->VP->Prop}
  (one:∀(n:Nat)(acc:List (Str×VB)),cellsFrom n scope.names acc=(z,n)::acc) (pc:∀h:Heap,pushCells h scope.names=h.push { cls:=.type "cell",data:=.cell none })
  (hQ:∀env,env=({ scope,locals:=s.heap.objs.size,globals,cells:=(z,s.heap.objs.size+1)::cl,qual,func:=none,code:=outer.code,frame:=outer.frame,builtins:=outer.builtins }:Env)->∀h1:Heap,h1.Ns s.heap.objs.size (fun _=>none)->h1.IsCell (s.heap.objs.size+1) none->(∀b o,s.heap.get? b=some o->h1.get? b=some o)->Q env { s with heap:=h1 }) :
  wpAny M A (newFunctionEnv scope globals cl [] qual none .none (some outer)) Q E s:=by
 simp only[newFunctionEnv,Option.isSome_some,if_true];refine VL (wpAny_alloc ?_);refine VL (wpAny_layCells _ (fun name kind cells=>by cases hkc:kind==NameKind.cell<;>simp[hkc]) _ _ _ _ ?_);rw[show({ s with heap:=s.heap.push { cls:=.type "dict",data:=.dict #[] } }:VP).heap.objs.size=s.heap.objs.size+1 from Heap.size_push ..,one,pc];have k1:∀b o,s.heap.get? b=some o->((s.heap.push { cls:=.type "dict",data:=.dict #[] }).push { cls:=.type "cell",data:=.cell none }).get? b=some o:=fun b o e=>VN _ (VN _ e);have e1:((s.heap.push { cls:=.type "dict",data:=.dict #[] }).push { cls:=.type "cell",data:=.cell none }).get? (s.heap.objs.size+1)=some { cls:=.type "cell",data:=.cell none }:=by have:=VT (s.heap.push { cls:=.type "dict",data:=.dict #[] }) (o:={ cls:=.type "cell",data:=.cell none }) rfl;rwa [Heap.size_push]at this
 exact VM (hQ _ rfl _ ((Heap.Ns.new s.heap (.type "dict")).keeps fun b o e=>VN _ e) ⟨_,e1,rfl⟩ k1)
section
variable{X:Cx}{N:VJ}{src:List (Option Nat)}{scope:Scope}{cl:List (Str×VB)}{z:Str}{pins:VW}{σ:St}{H:Hp}{s:VP}
theorem YA{cl:List (Str×VB)}{z x:Str}{a c:VB}(e:((z,a)::cl).lookup x=some c):(x=z/\c=a)\/(x≠z/\cl.lookup x=some c):=by
 by_cases h:x=z
 ·subst h;simp only[List.lookup_cons,beq_self_eq_true]at e;cases e;exact .inl ⟨rfl,rfl⟩
 ·have hb:(x == z)=false:=by simpa using h
  simp only[List.lookup_cons,hb]at e;exact .inr ⟨h,e⟩
theorem LcOkO.cellAt(ok:LcOkO X N src scope cl z):∀x,((relabel scope X.env).names.lookup x=some .cell\/(relabel scope X.env).names.lookup x=some .free)->x=z\/∃c,cl.lookup x=some c:=by
 intro x hx;have key:∀k:NameKind,(k==.cell||k==.free)=true->(relabel scope X.env).names.lookup x=some k->x=z\/∃c,cl.lookup x=some c:=by
  intro k hk e;have m:=PySem.mem_of_lookup e;have q:=SM.mp ok.has _ m;rw[hk]at q;simp only[Bool.not_true,Bool.false_or]at q;obtain⟨c,hc⟩:=Option.isSome_iff_exists.mp q;rcases YA hc with⟨e,_⟩|⟨_,e⟩
  ·exact .inl e
  ·exact .inr ⟨c,e⟩
 rcases hx with e|e
 ·exact key _ rfl e
 ·exact key _ rfl e
theorem LcOkO.enter(ok:LcOkO X N src scope cl z)(I:Inv X pins σ H s){fp:List VB}(hfp:∀b∈fp,FpOk X pins H b)(hlt:∀b∈fp,b<s.heap.objs.size){C:VB}(hC:s.heap.objs.size<=C)
  {t:VP} {m:VZ} (ho:t.os=s.os) (hg:t.gens=s.gens) (hk:∀b o,s.heap.get? b=some o->t.heap.get? b=some o) (hn:t.heap.Ns C m) {v0:VH} (hz:t.heap.IsCell (C+1) v0)
  {pl:VW} (hpl:∀p∈pl,t.heap.get? p.1=some p.2/\H p.1=none/\p.1≠C/\p.1∉frs X.stack/\∀v,p.2.data≠.cell v) :
  Inv (YQ X N scope cl z C s H fp) pl (capS src σ) H t:=by
 have cg:=ok.caps.get;have cap:∀x c,cl.lookup x=some c->c<s.heap.objs.size:=fun x c e=>by obtain⟨v,q⟩:=I.cell x c (cg x c e).2;exact q.lt
 have okX:(YQ X N scope cl z C s H fp).Ok:=by
  refine⟨I.ok.mod,ok.kind,I.ok.glob,I.ok.blt,hC,fun x y c h1 h2=>?_,fun x hx=>?_,fun x c h1 h2=>?_,I.ok.hd,I.ok.frames,.inl rfl,fun b hb=>?_,I.bs,LQ I.ok.bsz I.sz,fun b o e hb=>?_,fun b hb z=>?_,I.stack,I.stkFree⟩
  ·rcases YA h1 with ⟨e1,e2⟩ | ⟨_,e1⟩
   ·rcases YA h2 with ⟨e3,_⟩ | ⟨_,e3⟩
    ·rw [e1,e3]
    ·exact absurd (cap y c e3) (Nat.not_lt.mpr (by rw [e2]; exact Nat.le_succ_of_le hC))
   ·rcases YA h2 with ⟨_,e3⟩ | ⟨_,e3⟩
    ·exact absurd (cap x c e1) (Nat.not_lt.mpr (by rw [e3]; exact Nat.le_succ_of_le hC))
    ·exact I.ok.inj x y c (cg x c e1).2 (cg y c e3).2
  ·rcases ok.cellAt x hx with e | ⟨c,e⟩
   ·refine ⟨C + 1,?_⟩;show((z,C+1)::cl).lookup x=_;rw[e];simp
   ·by_cases h:x=z
    ·refine ⟨C + 1,?_⟩;show((z,C+1)::cl).lookup x=_;rw[h];simp
    ·refine ⟨c,?_⟩;show((z,C+1)::cl).lookup x=_;have hb:(x==z)=false:=by simpa using h
     simp only[List.lookup_cons,hb];exact e
  ·have h1:x=z:=by
    have h1:(x==z)=true:=h1;simpa using h1
   rcases YA h2 with⟨_,e⟩|⟨e,_⟩
   ·show s.heap.objs.size<=c;rw[e];exact Nat.le_succ_of_le hC
   ·exact absurd h1 e
  ·refine ⟨fun e=>?_,fun x c e=>?_⟩
   ·have e:b=C:=e;have:=hlt b hb;rw[e]at this;exact absurd (SC this hC) (SW _)
   ·rcases YA e with ⟨_,e⟩ | ⟨_,e⟩
    ·rw [e];exact Nat.ne_of_gt (SC (hlt b hb) (Nat.le_succ_of_le hC))
    ·exact (hfp b hb).2.2.2.2.1 x c (cg x c e).2
  ·rcases (hfp b hb).2.2.2.1 with z | z
   ·exact I.ok.noex b o e z
   ·exact absurd (SC (SQ e) (LQ I.ok.bsz z)) (SW _)
  ·rcases List.mem_cons.mp (I.stkSub b z) with e | e
   ·exact (hfp b hb).2.1 e
   ·exact (hfp b hb).2.2.1 e
 obtain⟨mX,hnX,hlX⟩:=I.loc;refine⟨okX,ho,by rw[hg];exact I.bare,Un.kept hk,⟨m,hn,fun j x v e1 e2 e3=>?_⟩,fun x c e=>?_,I.hok.fresh hC,fun x c e=>(YA e).elim (fun q=>by rw[q.2];exact I.hok.fresh (by omega)) fun q=>I.freeC x c (cg x c q.2).2,fun p hp=>hpl p hp,I.hok.kept hk,?_⟩
 ·obtain ⟨i,e4,e5⟩:=Qk e2;have hz:(N.zip src)[j]?=some (x,some i):=by
   rw[List.getElem?_zip_eq_some];exact⟨e1,e4⟩
  have q:=SM.mp ok.srcs _ (SK hz);have q:(!(x==z)&&(X.N[i]?==some x&&!((relabel scope X.env).names.lookup x==some .local)))=true:=q;rw[Bool.and_eq_true]at q;have qz:x≠z:=by simpa using q.1
  have q:=q.2;rw[Bool.and_eq_true]at q;have q1:X.N[i]?=some x:=by simpa using q.1
  have q2:¬ (relabel scope X.env).names.lookup x=some .local:=by intro z;rw[z]at q;exact absurd q.2 (by decide)
  have e3:(relabel scope X.env).names.lookup x=some .local\/(relabel scope X.env).names.lookup x=some .cell\/(relabel scope X.env).names.lookup x=some .free:=e3;have e6:(relabel scope X.env).names.lookup x=some .cell\/(relabel scope X.env).names.lookup x=some .free:=e3.resolve_left q2;obtain⟨c,hc⟩:=(ok.cellAt x e6).resolve_left qz;obtain⟨k1,k2⟩:=cg x c hc;have hc':((z,C+1)::cl).lookup x=some c:=by
   have hb:(x==z)=false:=by simpa using qz
   simp only[List.lookup_cons,hb];exact hc
  obtain⟨u,r,l⟩:=hlX i x v q1 e5 (.inr (.inl k1));refine⟨u,r,.inr ⟨e6,c,hc',?_⟩⟩;rcases l with⟨z,_⟩|⟨_,c',z1,z2⟩
  ·rw [k1] at z; cases z
  ·rw [k2] at z1;cases z1;obtain⟨o,ho',hd⟩:=z2;exact⟨o,hk _ o ho',hd⟩
 ·rcases YA e with ⟨_,e⟩ | ⟨_,e⟩
  ·rw [e];exact⟨v0,hz⟩
  ·obtain ⟨v,o,ho',hd⟩:=I.cell x c (cg x c e).2;exact⟨v,o,hk _ o ho',hd⟩
 ·rw [Jgk];exact ok.len.symm
theorem Jll(I:Inv X pins σ H s){fp:List VB}(hfp:∀b∈fp,FpOk X pins H b){C D:VB}(hD:s.heap.objs.size<=D)(hC:s.heap.objs.size<=C)
  {σ':St} {H':Hp} {t:VP} {pl:VW} (J:Inv (YQ X N scope cl z C s H fp) pl σ' H' t) {ys:VS} {its:VU} {n:Nat} (hy:ys.length<=sizeLine) (rv:Vals ys its)
  (hd:t.heap.get? D=some { cls:=.type "list",data:=.seq its.toArray n }) (hn:H' D=none) (hDC:D≠C) {h':Heap} (hs:Heap.SameBut C t.heap h'):Inv X pins σ (upd H' D (.lst ys)) { t with heap:=h' }:=by
 have neC:∀b o,s.heap.get? b=some o->b≠C:=fun b o e=>SF (SC (SQ e) hC);have neD:∀b o,s.heap.get? b=some o->b≠D:=fun b o e=>SF (SC (SQ e) hD);have B:Un (frs X.stack) fp H H' s.heap t.heap:=J.base;have fC:H' C=none:=J.free;refine I.call' (s':={ t with heap:=h' }) (ch:=fp) J.os ?_ ?_ J.bare fun b hb=>⟨(hfp b hb).2.2.2.1,(hfp b hb).2.1,(hfp b hb).2.2.2.2.1,(hfp b hb).2.2.2.2.2⟩
 ·refine ⟨fun b o e q hb hx=>(hs.2 b (neC b o e)).trans (B.keep b o e q hb hx),fun b o e q hb hx=>?_,fun b o e q hx=>?_,fun b o e hx=>?_,fun b xs e=>?_,fun b o u e=>?_,fun b ps e=>?_⟩
  ·obtain ⟨sl,z⟩:=B.slot b o e q hb hx;exact⟨sl,(hs.2 b (neC b o e)).trans z⟩
  ·rw [Jj (neD b o e)];exact B.free b o e q hx
  ·obtain ⟨o',z⟩:=B.there b o e hx;exact⟨o',(hs.2 b (neC b o e)).trans z⟩
  ·have z:=B.tups b xs e;rw[Jj (Jg z hn)];exact z
  ·have z:=B.frzs b o u e;rw[Jj (Jg z hn)];exact z
  ·obtain ⟨more,z⟩:=B.tbls b ps e;exact⟨more,by rw[Jj (Jg z hn)];exact z⟩
 ·intro b u e;by_cases hb:b=D
  ·subst hb;rw[Jc]at e;cases e;exact⟨hy,its,n,rv,(hs.2 b hDC).trans hd⟩
  ·rw [Jj hb] at e;refine(J.hok b u e).stay (fun c v hc q=>(hs.2 c ?_).trans q) (fun c q=>?_) fun c xs q=>?_
   ·rintro rfl;rcases hc with z|z
    ·rw [<- z,fC] at e; cases e
    ·rw [fC] at z; cases z
   ·rw [Jj (Jg q hn)]; exact q
   ·rw [Jj (Jg q hn)]; exact q
theorem Jlm{elt tg iter:Expr}{ifs:List Expr}{pos:Pos}{te:TE}{tc:TT}{g:TG}{it:VB}{fp:List VB}{tn:Nat->Heap->Prop}{J:It}{E:VQ}{RR:VR->VB->Result->VP->Prop}{Qr:VS->Hp->Prop}
  (hc:X.calm=true) (ok:LcOkO X N src scope cl z) (hgo:GOwn g src)
  (hb:∀C,PG (YQ X N scope cl z C s H fp) tg g/\PIfs (YQ X N scope cl z C s H fp) ifs tc/\PE (YQ X N scope cl z C s H fp) elt te)
  (I:Inv X pins σ H s) (T:Turn X.prog X.w X.K tg J fp it tn) (st:tn 0 s.heap) (hfp:∀b∈fp,FpOk X pins H b)
  (W:Nat->Nat->VS->Hp->Prop) (w0:∃m,W 0 m [] H)
  (turn:∀ i m ys H,W i m ys H->(J.stop i H/\ys.length<=sizeLine/\Qr ys H)\/(J.go i H/\ys.length<=sizeLine/\∀ x H',J.yld i H x H'->g x (capS src σ) H' fun σ2 H2=>tc σ2 H2 fun b H3 =>
   if b=true then te σ2 H3 fun y H4=>∃ m',m' < m/\W (i + 1) m' (ys++[y]) H4 else ∃ m',m' < m/\W (i + 1) m' ys H3))
  (fin:∀ D C t ys H',s.heap.objs.size<=D->s.heap.objs.size<=C->D≠C->H' D=none->H' C=none->(∃ m,t.heap.Ns C m)->Qr ys H'->(∀ h',Heap.SameBut C t.heap h'->Inv X pins σ (upd H' D (.lst ys)) { t with heap:=h' }) ->
   RR (.ref D) C (.ok .next) t) :
  wpAny (model X.prog X.w) X.A (newList []) (fun acc s₃=>wpAny (model X.prog X.w) X.A (newFunctionEnv scope X.env.globals cl [] X.env.qual none .none (some X.env)) (fun cenv s₄ =>
   codeAny (model X.prog X.w) X.A (.compStart (.ListComp elt [⟨tg,iter,ifs,0⟩] scope pos) 0 (.ref it) acc { cenv with scope:=relabel scope X.env }) (RR acc cenv.locals) s₄) E s₃) E s:=by
 obtain⟨m0,w0⟩:=w0;refine wpAny_newList (Jsp ok.one ok.pc (fun cenv he h1 hns hcl hkp=>?_)) (by show 0<=sizeLine;exact LX _);subst he;dsimp only at hns hcl hkp ⊢;generalize hp1:s.heap.push { cls:=.type "list",data:=.seq ([]:VU).toArray }=hD at hns hcl hkp ⊢;have eC:hD.objs.size=s.heap.objs.size+1:=by rw[<- hp1,Heap.size_push]
 have nDC:s.heap.objs.size≠hD.objs.size:=by rw[eC];exact SF (Nat.lt_succ_self _)
 have leC:s.heap.objs.size<=hD.objs.size:=by rw[eC];exact LU _
 have kept:∀b o,s.heap.get? b=some o->h1.get? b=some o:=fun b o e=>hkp b o (hp1▸VN _ e);have atD:h1.get? s.heap.objs.size=some { cls:=.type "list",data:=.seq ([]:VU).toArray }:=hkp _ _ (hp1▸VT _ rfl);have ltf:∀b∈fp,b<s.heap.objs.size:=fun b hb=>by obtain⟨o,e,_⟩:=T.obj 0 _ st b hb;exact SQ e
 have nstk:s.heap.objs.size∉frs X.stack:=fun z=>by
  rcases List.mem_cons.mp (I.stkSub _ z)with e|e
  ·exact absurd (SC I.lt (Nat.le_of_eq e)) (SW _)
  ·exact I.nofs (SJ _) e
 have ncl:∀x c,((z,hD.objs.size+1)::cl).lookup x=some c->c≠s.heap.objs.size:=fun x c e y=>by
  rcases YA e with⟨_,e⟩|⟨_,e⟩
  ·rw [e] at y;exact absurd y (Nat.ne_of_gt (Nat.lt_succ_of_le leC))
  ·obtain ⟨v,q⟩:=I.cell x c (ok.caps.get x c e).2;exact absurd q.lt (by rw[y];exact SW _)
 -- what stays true of the iterator's records
 have stat:∀{H':Hp}{its:VU}{k:Nat},(∀b∈fp,H' b=none)->∀b∈fp,FpOk (YQ X N scope cl z hD.objs.size s H fp) [(s.heap.objs.size,{ cls:=.type "list",data:=.seq its.toArray k })] H' b:=fun fr b hb=>by
  refine⟨fr b hb,fun z=>?_,fun z=>?_,.inl hb,fun x c e=>(YA e).elim (fun q=>by rw[q.2];exact Nat.ne_of_gt (SC (ltf b hb) (Nat.le_succ_of_le leC))) fun q=>(hfp b hb).2.2.2.2.1 x c (ok.caps.get x c q.2).2,fun p hp z=>?_⟩
  ·have z:b=hD.objs.size:=z;exact absurd (SC (ltf b hb) (by rw[z];exact leC)) (SW _)
  ·rcases List.mem_cons.mp (I.stkSub b z) with e | e
   ·exact (hfp b hb).2.1 e
   ·exact (hfp b hb).2.2.1 e
  ·have hp:p∈([]:VW)++[(s.heap.objs.size,{ cls:=.type "list",data:=.seq _ _ })]:=hp;rw[List.nil_append,List.mem_singleton]at hp;rw[hp]at z;exact absurd (ltf b hb) (by rw[<- z];exact SW _)
 have loop:∀t:VP,t={ s with heap:=h1,toks:=s.toks } ->
   codeAny (model X.prog X.w) X.A (.compLoop (.ListComp elt [⟨tg,iter,ifs,0⟩] scope pos) 0 (.ref it) (.ref s.heap.objs.size) (compEnvC scope ((z,hD.objs.size+1)::cl) hD.objs.size X.env)) (RR (.ref s.heap.objs.size) hD.objs.size) t:=by
  rintro t rfl;refine Jjl (fun n t=>∃i ys its k H',Inv (YQ X N scope cl z hD.objs.size s H fp) [(s.heap.objs.size,{ cls:=.type "list",data:=.seq its.toArray k })] (capS src σ) H' t/\Vals ys its/\tn i t.heap/\(∀b∈fp,H' b=none)/\W i n ys H') ?_ m0
   ⟨0,[],[],0,H,ok.enter (t:={ s with heap:=h1,toks:=s.toks }) I hfp ltf leC rfl rfl kept hns hcl ?_,.nil,T.keep 0 _ _ st fun b _ o e=>kept b o e,fun b hb=>(hfp b hb).1,w0⟩
  ·rintro n t ⟨i,ys,its,k,H',Iy,rv,stt,fr,wv⟩;rcases turn i n ys H' wv with⟨stop,hy,q⟩|⟨go,hy,body⟩
   ·refine wpAny_mono (T.done (YQ X N scope cl z hD.objs.size s H fp) rfl rfl rfl hc i _ t _ H' (fun _ _=>False) Iy (stat fr) stt stop) (fun r t1 hr=>?_) fun _ _ z=>z;obtain⟨hr,I1⟩:=hr;subst hr;have p:=I1.pin (s.heap.objs.size,_) (SB _ SG);obtain⟨m,hnC,_⟩:=id I1.loc;exact fin _ _ t1 ys H' (SJ _) leC nDC p.2.1 I1.free ⟨m,hnC⟩ q fun h' hs=>Jll I hfp (SJ _) leC I1 hy rv p.1 p.2.1 nDC hs
   ·refine wpAny_mono (T.item (YQ X N scope cl z hD.objs.size s H fp) rfl rfl rfl hc i _ t _ H' (fun _ _=>False) Iy (stat fr) stt go) (fun r t1 hr=>?_) fun _ _ z=>z;obtain⟨u,hr,h4⟩:=hr;subst hr;refine wpAny_mono h4 (fun _ t2 h5=>?_) fun _ _ z=>z;obtain⟨x,H5,I5,r5,y5,st5,fr5⟩:=h5;have I5':=I5.pinned (stat fr5) (T.obj _ _ st5);obtain⟨pg,pi,pe⟩:=hb hD.objs.size;refine wpAny_mono (pg _ t2 _ H5 x u _ I5' r5 (hgo _ _ _ _ (body x H5 y5))) (fun _ t3 h6=>?_) fun _ _ z=>z;obtain⟨σ6,H6,I6,q6,len6,keep6⟩:=h6;refine wpAny_mono (pi _ t3 σ6 H6 _ I6 q6) (fun b t4 h7=>?_) fun _ _ z=>z;obtain⟨H7,I7,q7⟩:=h7;have wk:∀{pl:VW}{Hz:Hp}{tz:VP},Inv (YQ X N scope cl z hD.objs.size s H fp) pl σ6 Hz tz->Inv (YQ X N scope cl z hD.objs.size s H fp) pl (capS src σ) Hz tz:=fun Iz =>
     Iz.weak len6.symm fun j v e=>by obtain⟨a,ea,_⟩:=Qk e;rw[keep6 j (by rw[ea];simp)];exact e
    have held:∀{Hz:Hp}{tz:VP}{pl:VW},Inv (YQ X N scope cl z hD.objs.size s H fp) (pl++YM fp t2.heap) σ6 Hz tz->(∀b∈fp,∀o,t2.heap.get? b=some o->tz.heap.get? b=some o)/\∀b∈fp,Hz b=none:=fun Iz =>
     ⟨fun b hb o e=>(Iz.pin (b,o) (SB _ (SB _ (YX hb e)))).1,fun b hb=>by
      obtain⟨o,e,_⟩:=T.obj _ _ st5 b hb
      exact (Iz.pin (b,o) (SB _ (SB _ (YX hb e)))).2.1⟩
    cases b with
    | false =>
     rw[if_neg Bool.false_ne_true]at q7 ⊢;obtain⟨m',hm,w'⟩:=q7;exact⟨m',hm,i+1,ys,its,k,H7,wk I7.unpinned,rv,T.keep _ _ _ st5 (held I7).1,(held I7).2,w'⟩
    | true =>
     rw[if_pos rfl]at q7 ⊢;refine wpAny_mono (pe _ t4 σ6 H7 _ I7 q7) (fun v t5 h8=>?_) fun _ _ z=>z;obtain⟨y,H8,I8,r8,m',hm,w'⟩:=h8;have p:=I8.pin (s.heap.objs.size,_) (SB _ (List.mem_append_left _ SG));have hl:its.toArray.size<=sizeLine:=by rw[List.size_toArray,<- rv.length];exact hy
     refine wpAny_list_append_plain (items:=its.toArray) ⟨k,p.1⟩ (fun h' hpl hs=>?_) hl;obtain⟨k',ek⟩:=hpl;have ek:h'.get? s.heap.objs.size=some { cls:=.type "list",data:=.seq (its++[v]).toArray k' }:=by rw[ek];simp
     have I9:Inv (YQ X N scope cl z hD.objs.size s H fp) (YM fp t2.heap) σ6 H8 t5:=I8.pins_of fun a ha=>I8.pin a (SB _ (SB _ ha));have I10:Inv (YQ X N scope cl z hD.objs.size s H fp) (YM fp t2.heap) σ6 H8 { t5 with heap:=h' }:=I9.turned (it:=s.heap.objs.size) (t':=t5.toks) (fun b o hb e=>hs.extBut b o hb e) p.2.1 nDC (.inr (SJ _)) (fun x c e=>ncl x c e) fun a ha z=>by have ha:a∈([]:VW)++YM fp t2.heap:=ha;rw[List.nil_append]at ha;exact absurd (ltf a.1 (Qy ha).1) (by rw[z];exact SW _)
     have hld:=held (pl:=[]) (show Inv (YQ X N scope cl z hD.objs.size s H fp) ([]++YM fp t2.heap) σ6 H8 { t5 with heap:=h' } from I10);refine⟨m',hm,i+1,ys++[y],its++[v],k',H8,(wk I10).pins_of fun a ha=>?_,rv.append (.cons r8 .nil),T.keep _ _ _ st5 hld.1,hld.2,w'⟩;rw[List.mem_singleton]at ha;subst ha;exact⟨ek,p.2.1,nDC,nstk,fun _ z=>nomatch z⟩
  ·intro a ha;rw[List.mem_singleton]at ha;subst ha;exact⟨atD,I.hok.fresh (SJ _),nDC,nstk,fun _ z=>nomatch z⟩
 exact codeAny_compStart_list (loop _ rfl) (T.self _ 0 _ _ _ (T.keep 0 _ _ st fun b _ o e=>kept b o e) (loop _ rfl))
theorem Jnt{elt tg iter:Expr}{ifs:List Expr}{pos:Pos}{te:TE}{tc:TT}{g:TG}{wi:TI}(hc:X.calm=true)(ok:LcOkO X N src scope cl z)(hgo:GOwn g src)(hi:PI X tg iter wi)
  (hb:∀C s H fp,PG (YQ X N scope cl z C s H fp) tg g/\PIfs (YQ X N scope cl z C s H fp) ifs tc/\PE (YQ X N scope cl z C s H fp) elt te)
  (hs:∀x,foldedSetIterable iter X.env x=pure x:=by intro _;rfl):PE X (.ListComp elt [⟨tg,iter,ifs,0⟩] scope pos) (tLc wi src g tc te):=by
 intro pins s σ H Q I h;have nms:∀y∈scope.names,y.2=.local->scope.names.lookup y.1=some .local:=fun y hy z=>by have q:=SM.mp ok.names y hy;rw[z]at q;simpa using q
 rw[eval_ListComp];refine wpAny_comprehension_free (use:=none) rfl hs ok.clos ok.kind nms (thn (hi pins s σ H _ I h) fun v s1 h1=>thn h1 fun itv s2 h2=>?_);obtain⟨it,fp,tn,J,H2,e,I2,T,st2,f2,W,w0,turn⟩:=h2;subst e;refine Jlm (RR:=fun acc C=>compPost (model X.prog X.w) X.A X.xe none (EP X pins σ Q) acc C) (Qr:=fun ys H=>∀p,H p=none->Q (.ref p) (upd H p (.lst ys))) hc ok hgo (fun C=>hb C s2 H2 fp) I2 T st2 f2 W w0 turn ?_;intro D C t ys H' hD hC nDC n1 n2 hn q inv;obtain⟨m,hn⟩:=hn;exact⟨m,hn,fun h' hs=>⟨.ref D,_,inv h' hs,rfl,q D n1⟩⟩
end
end L2
namespace L2
open PySem PySem.Calls PySem.Spec PyProof.Rows
def rAny(K:VG):VS->Hp->VK->Prop:=fun xs H Q=>∃(l:VB)(bs:List Bool),xs=[.ref l]/\SqL K H l (bs.map V.bl)/\Q (.bl (bs.any id)) H
theorem Jmj{X:Cx}(K:VG)(hc:X.calm=true)(hK:X.K=K:=by rfl):Yd X (.builtin "any") (rAny K):=by subst hK;exact WX hc
end L2
namespace L2
open PySem PySem.Calls PySem.Spec PyProof.Rows PySem.W
section
variable{X:Cx}{pos:Pos}
variable{b₀:Stmt}{sts suite:List Stmt}{i:Nat}{n c:Str}{pc hpos:Pos}{W:VB}{tb:XK->TS}{th:TS}
end
section
variable{X:Cx}
def rEqTN(K:VG):R2:=fun x y H Q=>∃a b xs,x=.ref a/\y=.ref b/\SqT K H a xs/\SqT K H b []/\Q (.bl xs.isEmpty) H
theorem Jro(hu:X.A.units<cLine):OpR X (compareOp .Eq) (rEqTN X.K):=by
 intro pins s σ H x y v u Q I rx ry h;obtain⟨a,b,xs,rfl,rfl,ha,hb,q⟩:=h;cases rx;cases ry;obtain⟨its,r1,p1,_⟩:=I.tuple ha;obtain⟨its2,r2,p2,_⟩:=I.tuple hb;have e2:its2=[]:=by have:=r2.length;exact List.length_eq_zero_iff.mp this.symm
 subst e2;refine SeqAt.eq_tupleAt (e:=fun _=>true) p1 p2 hu (fun j h1 h2=>absurd h2 (by simp)) ⟨.bl _,H,I,rfl,?_⟩;have e:xs.isEmpty=its.isEmpty:=by have:=r1.length;cases xs<;>cases its<;>first|rfl|cases this
 rw[e]at q;cases its with
 | nil=>simpa using q
 | cons x r=>simpa using q
end
end L2
namespace L2
open PySem PySem.Calls PySem.Spec PyProof.Rows
section
variable{X:Cx}
def FT(H:Hp)(p:VB)(xs:VS):Prop:=∃o:Obj,H p=some (.frz o (.tup xs))/\o.cls=.type "tuple"/\o.dict=none
theorem FT.sq{K:VG}{H:Hp}{p:VB}{xs:VS}(h:FT H p xs):SqT K H p xs:=by obtain⟨o,e,_⟩:=h;exact .inl (.inr ⟨o,e⟩)
theorem FT.mono{H H':Hp}{p:VB}{xs:VS}(h:FT H p xs)(s:Same H H'):FT H' p xs:=by obtain⟨o,e,r⟩:=h;exact⟨o,s _ _ e,r⟩
end
end L2
namespace PySem.SeqAt
open AutoSeq1 (wpAny_loadPart')
open MeetsSeq
section
variable{A:VD}{s:VP}
end
end PySem.SeqAt
namespace L2
open PySem PySem.Calls PySem.Spec PyProof.Rows
section
variable{X:Cx}
theorem Jfq(hu:X.A.units+1<cLine):MtR X "list.index" (fun x vs H Q=>∃(l p:VB)(ws:VS)(L:List (VY))(ns:VY)(j:Nat),x=.ref l/\vs=[.ref p]/\H p=some (.tup (ns.map V.int))/\H l=some (.lst ws)/\TpL H ws L/\L[j]?=some ns/\(∀k,k<j->L[k]?≠some ns)/\j<100000/\Q (.int (j:Int)) H):=by
 intro pins s σ H x vs v us Q I rx rv h;obtain⟨l,p,ws,L,ns,j,rfl,rfl,hp,hl,hw,hj,hno,hs,q⟩:=h;cases rx;obtain⟨u,rfl,ru⟩:=Ym rv;cases ru;obtain⟨its,r1,p1,_⟩:=I.list (SqL.of hl);obtain⟨it,r0,p0,_⟩:=I.tuple (SqT.of hp);obtain⟨⟨cls,dd,data,sl⟩,ho,hc,n,hd⟩:=id p1.isList;simp only at hc hd;subst hc hd
 classical
 have inj:∀{a b:VY},a.map V.int=b.map V.int->a=b:=fun {a b} e=>by have:=WU a b;rw[e,WU]at this;have:=of_decide_eq_true (this.symm.trans (decide_eq_true rfl));exact this
 have lw:its.length=ws.length:=r1.length.symm;have lL:ws.length=L.length:=Paired.length hw;have at_:∀k (hk:k<its.length),∃a ks,its[k]=Value.ref a/\L[k]?=some ks/\H a=some (.tup (ks.map V.int)):=fun k hk=>by
  have hk':k<ws.length:=by omega
  obtain⟨c,e1,a,e2,e3⟩:=Paired.get' (i:=k) (x:=ws[k]) hw (by simp[hk']);obtain⟨w',e4,e5⟩:=r1.get (i:=k) (x:=ws[k]) (by simp[hk']);have e6:its[k]?=some its[k]:=by simp[hk]
  rw[e6]at e4;cases e4;rw[e2]at e5;exact⟨a,c,e5,e1,e3⟩
 have ev:∀{a:VB}{ks:VY},H a=some (.tup (ks.map V.int))->decide (∃a',Value.ref a=Value.ref a'/\H a'=some (.tup (ns.map V.int)))=decide (ks=ns):=fun {a ks} hc=>by
  rw[decide_eq_decide];constructor
  ·rintro ⟨a',ea,h'⟩;cases ea;rw[hc]at h';have e1:ks.map V.int=ns.map V.int:=by simpa using h'
   exact inj e1
  ·rintro rfl;exact⟨a,rfl,hc⟩
 have hjl:j<its.length:=by have:=(SY.mp hj).1;omega
 refine call_meets PySem.F.slot_list_index ⟨_,ho,rfl⟩ PySem.F.entry_list_index (PySem.F.args_list_index_2 _ _) (SeqAt.list_indexAt l its.toArray n dd sl (.ref p) (fun y=>decide (∃a,y=Value.ref a/\H a=some (.tup (ns.map V.int)))) j (by simpa using hjl) (by omega) ?_ ?_) ⟨ho,fun y hy=>?_,?_⟩
 ·obtain ⟨a,ks,e1,e2,e3⟩:=at_ j hjl
  rw[List.getElem_toArray,e1];show decide (∃a',Value.ref a=Value.ref a'/\H a'=some (.tup (ns.map V.int)))=true;rw[ev e3];rw[hj]at e2;cases e2;exact decide_eq_true rfl
 ·intro m hm hmj;have hm':m<its.length:=by simpa using hm
  obtain⟨a,ks,e1,e2,e3⟩:=at_ m hm'
  rw[List.getElem_toArray,e1];show decide (∃a',Value.ref a=Value.ref a'/\H a'=some (.tup (ns.map V.int)))=false;rw[ev e3];refine decide_eq_false fun z=>hno m hmj ?_;rw[e2,z]
 ·obtain ⟨k,hk,rfl⟩:=List.mem_iff_getElem.mp (show y∈its by simpa using hy);obtain⟨a,ks,e1,e2,e3⟩:=at_ k hk
  rw[e1];show SeqAt.EqAt _ s (.ref a) (.ref p) (decide (∃a',Value.ref a=Value.ref a'/\H a'=some (.tup (ns.map V.int))));rw[ev e3];by_cases e:a=p
  ·subst e;rw[e3]at hp;have e1:ks.map V.int=ns.map V.int:=by simpa using hp
   rw[decide_eq_true (inj e1)];exact SeqAt.EqAt.same _
  ·obtain ⟨jt,r3,p3,_⟩:=I.tuple (SqT.of e3);refine SeqAt.EqAt.of_refs e ?_;have key:=SeqAt.RcAt.tuples (A:=X.A.in1) (s:=s) (e:=eqN (ks.map V.int) (ns.map V.int)) p3 p0 (show X.A.units+1<cLine from hu) (fun j h1 h2=>Jbp r3 r0 (JL _) (JL _) j h1 h2);rw[List.size_toArray,List.size_toArray,<- r3.length,<- r0.length,Jbo,WU]at key;exact key
 ·exact ⟨.int _,H,I.tok _,⟨_,rfl⟩,q⟩
end
inductive Tr where
 | non | int (i:Int) | str (x:Str) | tup (l:List Tr) | lst (l:List Tr)
inductive IsV(K:VG)(H:Hp)(R:V->Tr->Prop):V->Tr->Prop where
 | non:IsV K H R .non .non
 | bl (b:Bool):IsV K H R (.bl b) (.int (if b then 1 else 0))
 | int (i:Int):IsV K H R (.int i) (.int i)
 | str (x:Str):IsV K H R (.str x) (.str x)
 | tup {a:VB} {xs:VS} {ts:List Tr} (q:SqT K H a xs) (p:Paired R xs ts):IsV K H R (.ref a) (.tup ts)
 | lst {a:VB} {xs:VS} {ts:List Tr} (q:SqL K H a xs) (p:Paired R xs ts):IsV K H R (.ref a) (.lst ts)
def Is(K:VG)(H:Hp):Nat->V->Tr->Prop
 | 0=>IsV K H fun _ _=>False
 | d + 1=>IsV K H (Is K H d)
theorem Jqv{H H':Hp}{a:VB}{u:HO}(s:Same H H')(h:Rd H a u):Rd H' a u:=by
 rcases h with h|⟨o,h⟩
 ·exact .inl (s _ _ h)
 ·exact .inr ⟨o,s _ _ h⟩
theorem Jao{K:VG}{H H':Hp}{a:VB}{xs:VS}(s:Same H H')(h:SqT K H a xs):SqT K H' a xs:=h.imp (Jqv s) id
theorem Is.int{K:VG}{H:Hp}(i:Int):∀{d:Nat},Is K H d (.int i) (.int i)
 | 0=>IsV.int i
 | _ + 1=>IsV.int i
theorem Is.tup{K:VG}{H:Hp}{d:Nat}{a:VB}{xs:VS}{ts:List Tr}(q:SqT K H a xs)(p:Paired (Is K H d) xs ts):Is K H (d+1) (.ref a) (.tup ts):=IsV.tup q p
theorem Is.lst{K:VG}{H:Hp}{d:Nat}{a:VB}{xs:VS}{ts:List Tr}(q:SqL K H a xs)(p:Paired (Is K H d) xs ts):Is K H (d+1) (.ref a) (.lst ts):=IsV.lst q p
theorem Jae{K:VG}{H:Hp}{d:Nat}:∀ns:VY,Paired (Is K H d) (ns.map V.int) (ns.map Tr.int)
 | []=>.nil
 | n::r=>.cons (Is.int n) (Jae r)
def tPr(q:Int×Int):Tr:=.tup [.int q.1,.int q.2]
def tPrs(l:VX):List Tr:=l.map tPr
theorem Jpi{K:VG}{H:Hp}{d:Nat}{ws:VS}{prs:VX}(h:Ars H ws prs):Paired (Is K H (d+1)) ws (tPrs prs):=by
 induction h with
 | nil=>exact .nil
 | cons a _ ih =>
  obtain⟨r,rfl,e⟩:=a;exact .cons (Is.tup (SqT.of e) (.cons (Is.int _) (.cons (Is.int _) .nil))) ih
theorem Wx(a b:Bool):((a==b)=true)↔(Tr.int (if a then 1 else 0)=Tr.int (if b then 1 else 0)):=by cases a<;>cases b<;>simp
theorem Uq(a:Bool)(n:Int):(((if a then(1:Int)else 0)==n)=true)↔(Tr.int (if a then 1 else 0)=Tr.int n):=by simp
theorem Up(n:Int)(a:Bool):((n==(if a then(1:Int)else 0))=true)↔(Tr.int n=Tr.int (if a then 1 else 0)):=by simp
theorem UL(m n:Int):((m==n)=true)↔(Tr.int m=Tr.int n):=by simp
theorem Jer(x y:Str):((x==y)=true)↔(Tr.str x=Tr.str y):=by simp
section
variable{X:Cx}{pins:VW}{s:VP}{σ:St}{H:Hp}{A:VD}{R:V->Tr->Prop}
theorem Jih(I:Inv X pins σ H s){a:VB}{xs ys:VS}(h:SqT X.K H a xs)(g:SqL X.K H a ys):False:=by obtain⟨_,_,⟨o,e,c,_⟩,_⟩:=I.tuple h;obtain⟨_,_,⟨o',n',e',c',_⟩,_⟩:=I.list g;rw[e]at e';cases e';rw[c]at c';exact absurd c' (by decide)
theorem ZT{R':V->Tr->Prop}(hF:∀x t t',R' x t->R' x t'->t=t'):∀{xs:VS}{ts ts':List Tr},Paired R' xs ts->Paired R' xs ts'->ts=ts'
 | _,_,_,.nil,.nil=>rfl
 | _,_,_,.cons a r,.cons b q=>by rw [hF _ _ _ a b,ZT hF r q]
theorem Jpg(I:Inv X pins σ H s)(hF:∀x t t',R x t->R x t'->t=t'){x:V}{t t':Tr}(h:IsV X.K H R x t)(g:IsV X.K H R x t'):t=t':=by
 cases h with
 | non=>cases g; rfl
 | bl b=>cases g; rfl
 | int i=>cases g; rfl
 | str z=>cases g; rfl
 | tup q p =>
  cases g with
  | tup q' p' =>
   cases I.tuple_inj q q';rw[ZT hF p p']
  | lst q' p'=>exact (Jih I q q').elim
 | lst q p =>
  cases g with
  | lst q' p' =>
   cases I.list_inj q q';rw[ZT hF p p']
  | tup q' p'=>exact (Jih I q' q).elim
theorem Jjp(I:Inv X pins σ H s):∀{d:Nat}{x:V}{t t':Tr},Is X.K H d x t->Is X.K H d x t'->t=t'
 | 0,_,_,_,h,g=>Jpg I (fun _ _ _ z _=>z.elim) h g
 | d + 1,_,_,_,h,g=>Jpg (R:=Is X.K H d) I (fun _ _ _ a b=>Jjp I a b) h g
theorem Jfy(hR:∀x y t t' v u,R x t->R y t'->RelV x v->RelV y u->∃b,(b=true↔t=t')/\SeqAt.EqAt A s v u b){xs ys:VS}{its jts:VU}{ts ts':List Tr}(r1:Vals xs its)(r2:Vals ys jts)(p1:Paired R xs ts)(p2:Paired R ys ts') :
  ∃e:Nat->Bool,(∀j (h1:j<its.toArray.size) (h2:j<jts.toArray.size),SeqAt.EqAt A s its.toArray[j] jts.toArray[j] (e j))/\∀j,j<ts.length->j<ts'.length->(e j=true↔ts[j]?=ts'[j]?):=by
 have l1:xs.length=its.length:=r1.length;have l2:ys.length=jts.length:=r2.length;have l3:xs.length=ts.length:=Paired.length p1;have l4:ys.length=ts'.length:=Paired.length p2;have ex:∀(j:Nat)(h1:j<its.toArray.size)(h2:j<jts.toArray.size),∃b,(b=true↔ts[j]?=ts'[j]?)/\SeqAt.EqAt A s its.toArray[j] jts.toArray[j] b:=by
  intro j h1 h2;have h1':j<its.length:=by simpa using h1
  have h2':j<jts.length:=by simpa using h2
  obtain⟨v1,e1,q1⟩:=r1.get (i:=j) (x:=xs[j]) (by simp[show j<xs.length by omega]);obtain⟨v2,e2,q2⟩:=r2.get (i:=j) (x:=ys[j]) (by simp[show j<ys.length by omega]);obtain⟨t1,e3,q3⟩:=Paired.get' (i:=j) (x:=xs[j]) p1 (by simp[show j<xs.length by omega]);obtain⟨t2,e4,q4⟩:=Paired.get' (i:=j) (x:=ys[j]) p2 (by simp[show j<ys.length by omega]);have e1':its[j]=v1:=by simpa [h1']using e1
  have e2':jts[j]=v2:=by simpa [h2']using e2
  obtain⟨b,hb,he⟩:=hR _ _ _ _ _ _ q3 q4 q1 q2;refine⟨b,?_,?_⟩
  ·rw [e3,e4,hb];simp
  ·rw [List.getElem_toArray,List.getElem_toArray,e1',e2'];exact he
 classical
 refine⟨fun j=>if h:j<its.toArray.size/\j<jts.toArray.size then Classical.choose (ex j h.1 h.2)else false,fun j h1 h2=>?_,fun j h1 h2=>?_⟩
 ·dsimp only;rw[dif_pos (⟨h1,h2⟩:j<its.toArray.size/\j<jts.toArray.size)];exact(Classical.choose_spec (ex j h1 h2)).2
 ·have k1:j < its.toArray.size:=by rw [List.size_toArray]; omega
  have k2:j<jts.toArray.size:=by rw[List.size_toArray];omega
  dsimp only;rw[dif_pos (⟨k1,k2⟩:j<its.toArray.size/\j<jts.toArray.size)];exact(Classical.choose_spec (ex j k1 k2)).1
theorem Jkj{e:Nat->Bool}{ts ts':List Tr}{n n':Nat}(l:ts.length=n)(l':ts'.length=n')(he:∀j,j<ts.length->j<ts'.length->(e j=true↔ts[j]?=ts'[j]?)):((List.range (min n n')).all e&&n==n')=true↔ts=ts':=by
 subst l l';rw[Bool.and_eq_true,beq_iff_eq,List.all_eq_true];constructor
 ·rintro ⟨h,hl⟩;refine List.ext_getElem? fun j=>?_;by_cases hj:j<ts.length
  ·exact (he j hj (by omega)).mp (h j (by rw [List.mem_range]; omega))
  ·rw [List.getElem?_eq_none (by omega),List.getElem?_eq_none (by omega)]
 ·rintro rfl;refine⟨fun j hj=>?_,rfl⟩;rw[List.mem_range]at hj;exact(he j (by omega) (by omega)).mpr rfl
theorem Jdy{xs:VS}{its:VU}{ts:List Tr}(r:Vals xs its)(p:Paired R xs ts):ts.length=its.toArray.size:=by rw[List.size_toArray,<- r.length,Paired.length p]
section
variable(hu:A.units<cLine)(I:Inv X pins σ H s)(hR:∀x y t t' v u,R x t->R y t'->RelV x v->RelV y u->∃b,(b=true↔t=t')/\SeqAt.EqAt A.in1 s v u b)(hF:∀x t t',R x t->R x t'->t=t')
include hu I hR hF
theorem Jfd{a b:VB}{xs ys:VS}{ts ts':List Tr}(q1:SqT X.K H a xs)(q2:SqT X.K H b ys)(p1:Paired R xs ts)(p2:Paired R ys ts'):∃k,(k=true↔Tr.tup ts=Tr.tup ts')/\SeqAt.RcAt A s (.ref a) (.ref b) k:=by obtain⟨its,r1,pp1,_⟩:=I.tuple q1;obtain⟨jts,r2,pp2,_⟩:=I.tuple q2;obtain⟨e,he,hi⟩:=Jfy hR r1 r2 p1 p2;refine⟨_,?_,SeqAt.RcAt.tuples pp1 pp2 hu he⟩;rw[Jkj (Jdy r1 p1) (Jdy r2 p2) hi,Tr.tup.injEq]
theorem Jfe{a b:VB}{xs ys:VS}{ts ts':List Tr}(q1:SqL X.K H a xs)(q2:SqL X.K H b ys)(p1:Paired R xs ts)(p2:Paired R ys ts'):∃k,(k=true↔Tr.lst ts=Tr.lst ts')/\SeqAt.RcAt A s (.ref a) (.ref b) k:=by
 obtain⟨its,r1,pp1,_⟩:=I.list q1;obtain⟨jts,r2,pp2,_⟩:=I.list q2;obtain⟨e,he,hi⟩:=Jfy hR r1 r2 p1 p2;have l1:=Jdy r1 p1;have l2:=Jdy r2 p2;by_cases c:its.toArray.size=jts.toArray.size
 ·refine ⟨_,?_,SeqAt.RcAt.lists pp1.isList pp2.isList c hu he⟩;have:=Jkj l1 l2 hi;rw[c,Nat.min_self,beq_self_eq_true,Bool.and_true]at this;rw[c,this,Tr.lst.injEq]
 ·refine ⟨false,?_,SeqAt.RcAt.lists_lengths pp1.isList pp2.isList (by simpa using c) hu⟩;simp only[Bool.false_eq_true,Tr.lst.injEq,false_iff];exact fun z=>c (by rw[<- l1,<- l2,z])
theorem Jpu{a b:VB}{xs ys:VS}{ts ts':List Tr}(q1:SqT X.K H a xs)(q2:SqT X.K H b ys)(p1:Paired R xs ts)(p2:Paired R ys ts'):∃k,(k=true↔Tr.tup ts=Tr.tup ts')/\SeqAt.EqAt A s (.ref a) (.ref b) k:=by
 by_cases c:a=b
 ·subst c;cases I.tuple_inj q1 q2;rw[ZT hF p1 p2];exact⟨true,by simp,SeqAt.EqAt.same _⟩
 ·obtain ⟨k,hk,h⟩:=Jfd hu I hR hF q1 q2 p1 p2;exact⟨k,hk,SeqAt.EqAt.of_refs c h⟩
theorem Jpv{a b:VB}{xs ys:VS}{ts ts':List Tr}(q1:SqL X.K H a xs)(q2:SqL X.K H b ys)(p1:Paired R xs ts)(p2:Paired R ys ts'):∃k,(k=true↔Tr.lst ts=Tr.lst ts')/\SeqAt.EqAt A s (.ref a) (.ref b) k:=by
 by_cases c:a=b
 ·subst c;cases I.list_inj q1 q2;rw[ZT hF p1 p2];exact⟨true,by simp,SeqAt.EqAt.same _⟩
 ·obtain ⟨k,hk,h⟩:=Jfe hu I hR hF q1 q2 p1 p2;exact⟨k,hk,SeqAt.EqAt.of_refs c h⟩
theorem Jgf{x y:V}{t t':Tr}{v u:VR}(h:IsV X.K H R x t)(h':IsV X.K H R y t')(rx:RelV x v)(ry:RelV y u):∃b,(b=true↔t=t')/\SeqAt.EqAt A s v u b:=by
 cases h with
 | non =>
  cases rx;cases h' with
  | non =>
   cases ry;exact⟨_,by simp,SeqAt.EqAt.same _⟩
  | bl b2 =>
   cases ry;exact⟨false,by simp,SeqAt.EqAt.none_bool b2⟩
  | int n2 =>
   obtain⟨w2,rfl⟩:=ry;exact⟨false,by simp,SeqAt.EqAt.none_int n2 w2⟩
  | str z2 =>
   obtain⟨w2,rfl⟩:=ry;exact⟨false,by simp,SeqAt.EqAt.none_str z2 w2⟩
  | tup q2 p2 =>
   cases ry;obtain⟨its2,r2,pp2,_⟩:=I.tuple q2;have I2:=pp2;exact⟨false,by simp,SeqAt.EqAt.none_tuple I2 hu⟩
  | lst q2 p2 =>
   cases ry;obtain⟨its2,r2,pp2,_⟩:=I.list q2;have I2:=pp2.isList;exact⟨false,by simp,SeqAt.EqAt.none_list I2 hu⟩
 | bl b1 =>
  cases rx;cases h' with
  | non =>
   cases ry;exact⟨false,by simp,SeqAt.EqAt.bool_none b1⟩
  | bl b2 =>
   cases ry;exact⟨_,Wx b1 b2,SeqAt.EqAt.bool_bool b1 b2⟩
  | int n2 =>
   obtain⟨w2,rfl⟩:=ry;exact⟨_,Uq b1 n2,SeqAt.EqAt.bool_int b1 n2 w2⟩
  | str z2 =>
   obtain⟨w2,rfl⟩:=ry;exact⟨false,by simp,SeqAt.EqAt.bool_str b1 z2 w2⟩
  | tup q2 p2 =>
   cases ry;obtain⟨its2,r2,pp2,_⟩:=I.tuple q2;have I2:=pp2;exact⟨false,by simp,SeqAt.EqAt.bool_tuple b1 I2 hu⟩
  | lst q2 p2 =>
   cases ry;obtain⟨its2,r2,pp2,_⟩:=I.list q2;have I2:=pp2.isList;exact⟨false,by simp,SeqAt.EqAt.bool_list b1 I2 hu⟩
 | int n1 =>
  obtain⟨w1,rfl⟩:=rx;cases h' with
  | non =>
   cases ry;exact⟨false,by simp,SeqAt.EqAt.int_none n1 w1⟩
  | bl b2 =>
   cases ry;exact⟨_,Up n1 b2,SeqAt.EqAt.int_bool n1 w1 b2⟩
  | int n2 =>
   obtain⟨w2,rfl⟩:=ry;exact⟨_,UL n1 n2,SeqAt.EqAt.int_int n1 w1 n2 w2⟩
  | str z2 =>
   obtain⟨w2,rfl⟩:=ry;exact⟨false,by simp,SeqAt.EqAt.int_str n1 w1 z2 w2⟩
  | tup q2 p2 =>
   cases ry;obtain⟨its2,r2,pp2,_⟩:=I.tuple q2;have I2:=pp2;exact⟨false,by simp,SeqAt.EqAt.int_tuple n1 w1 I2 hu⟩
  | lst q2 p2 =>
   cases ry;obtain⟨its2,r2,pp2,_⟩:=I.list q2;have I2:=pp2.isList;exact⟨false,by simp,SeqAt.EqAt.int_list n1 w1 I2 hu⟩
 | str z1 =>
  obtain⟨w1,rfl⟩:=rx;cases h' with
  | non =>
   cases ry;exact⟨false,by simp,SeqAt.EqAt.str_none z1 w1⟩
  | bl b2 =>
   cases ry;exact⟨false,by simp,SeqAt.EqAt.str_bool z1 w1 b2⟩
  | int n2 =>
   obtain⟨w2,rfl⟩:=ry;exact⟨false,by simp,SeqAt.EqAt.str_int z1 w1 n2 w2⟩
  | str z2 =>
   obtain⟨w2,rfl⟩:=ry;exact⟨_,Jer z1 z2,SeqAt.EqAt.str_str z1 w1 z2 w2⟩
  | tup q2 p2 =>
   cases ry;obtain⟨its2,r2,pp2,_⟩:=I.tuple q2;have I2:=pp2;exact⟨false,by simp,SeqAt.EqAt.str_tuple z1 w1 I2 hu⟩
  | lst q2 p2 =>
   cases ry;obtain⟨its2,r2,pp2,_⟩:=I.list q2;have I2:=pp2.isList;exact⟨false,by simp,SeqAt.EqAt.str_list z1 w1 I2 hu⟩
 | tup q1 p1 =>
  cases rx;cases h' with
  | non =>
   cases ry;obtain⟨its1,r1,pp1,_⟩:=I.tuple q1;have I1:=pp1;exact⟨false,by simp,SeqAt.EqAt.tuple_none I1 hu⟩
  | bl b2 =>
   cases ry;obtain⟨its1,r1,pp1,_⟩:=I.tuple q1;have I1:=pp1;exact⟨false,by simp,SeqAt.EqAt.tuple_bool b2 I1 hu⟩
  | int n2 =>
   obtain⟨w2,rfl⟩:=ry;obtain⟨its1,r1,pp1,_⟩:=I.tuple q1;have I1:=pp1;exact⟨false,by simp,SeqAt.EqAt.tuple_int n2 w2 I1 hu⟩
  | str z2 =>
   obtain⟨w2,rfl⟩:=ry;obtain⟨its1,r1,pp1,_⟩:=I.tuple q1;have I1:=pp1;exact⟨false,by simp,SeqAt.EqAt.tuple_str z2 w2 I1 hu⟩
  | tup q2 p2 =>
   cases ry;obtain⟨its1,r1,pp1,_⟩:=I.tuple q1;have I1:=pp1;obtain⟨its2,r2,pp2,_⟩:=I.tuple q2;have I2:=pp2;exact Jpu hu I hR hF q1 q2 p1 p2
  | lst q2 p2 =>
   cases ry;obtain⟨its1,r1,pp1,_⟩:=I.tuple q1;have I1:=pp1;obtain⟨its2,r2,pp2,_⟩:=I.list q2;have I2:=pp2.isList;exact⟨false,by simp,SeqAt.EqAt.tuple_list I1 I2 hu⟩
 | lst q1 p1 =>
  cases rx;cases h' with
  | non =>
   cases ry;obtain⟨its1,r1,pp1,_⟩:=I.list q1;have I1:=pp1.isList;exact⟨false,by simp,SeqAt.EqAt.list_none I1 hu⟩
  | bl b2 =>
   cases ry;obtain⟨its1,r1,pp1,_⟩:=I.list q1;have I1:=pp1.isList;exact⟨false,by simp,SeqAt.EqAt.list_bool b2 I1 hu⟩
  | int n2 =>
   obtain⟨w2,rfl⟩:=ry;obtain⟨its1,r1,pp1,_⟩:=I.list q1;have I1:=pp1.isList;exact⟨false,by simp,SeqAt.EqAt.list_int n2 w2 I1 hu⟩
  | str z2 =>
   obtain⟨w2,rfl⟩:=ry;obtain⟨its1,r1,pp1,_⟩:=I.list q1;have I1:=pp1.isList;exact⟨false,by simp,SeqAt.EqAt.list_str z2 w2 I1 hu⟩
  | tup q2 p2 =>
   cases ry;obtain⟨its1,r1,pp1,_⟩:=I.list q1;have I1:=pp1.isList;obtain⟨its2,r2,pp2,_⟩:=I.tuple q2;have I2:=pp2;exact⟨false,by simp,SeqAt.EqAt.list_tuple I1 I2 hu⟩
  | lst q2 p2 =>
   cases ry;obtain⟨its1,r1,pp1,_⟩:=I.list q1;have I1:=pp1.isList;obtain⟨its2,r2,pp2,_⟩:=I.list q2;have I2:=pp2.isList;exact Jpv hu I hR hF q1 q2 p1 p2
theorem Jff{x y:V}{t t':Tr}{v u:VR}(h:IsV X.K H R x t)(h':IsV X.K H R y t')(rx:RelV x v)(ry:RelV y u):∃b,(b=true↔t=t')/\SeqAt.RcAt A s v u b:=by
 cases h with
 | non =>
  cases rx;cases h' with
  | non =>
   cases ry;exact⟨_,by simp,SeqAt.RcAt.none_none⟩
  | bl b2 =>
   cases ry;exact⟨false,by simp,SeqAt.RcAt.none_bool b2⟩
  | int n2 =>
   obtain⟨w2,rfl⟩:=ry;exact⟨false,by simp,SeqAt.RcAt.none_int n2 w2⟩
  | str z2 =>
   obtain⟨w2,rfl⟩:=ry;exact⟨false,by simp,SeqAt.RcAt.none_str z2 w2⟩
  | tup q2 p2 =>
   cases ry;obtain⟨its2,r2,pp2,_⟩:=I.tuple q2;have I2:=pp2;exact⟨false,by simp,SeqAt.RcAt.none_tuple I2 hu⟩
  | lst q2 p2 =>
   cases ry;obtain⟨its2,r2,pp2,_⟩:=I.list q2;have I2:=pp2.isList;exact⟨false,by simp,SeqAt.RcAt.none_list I2 hu⟩
 | bl b1 =>
  cases rx;cases h' with
  | non =>
   cases ry;exact⟨false,by simp,SeqAt.RcAt.bool_none b1⟩
  | bl b2 =>
   cases ry;exact⟨_,Wx b1 b2,SeqAt.RcAt.bool_bool b1 b2⟩
  | int n2 =>
   obtain⟨w2,rfl⟩:=ry;exact⟨_,Uq b1 n2,SeqAt.RcAt.bool_int b1 n2 w2⟩
  | str z2 =>
   obtain⟨w2,rfl⟩:=ry;exact⟨false,by simp,SeqAt.RcAt.bool_str b1 z2 w2⟩
  | tup q2 p2 =>
   cases ry;obtain⟨its2,r2,pp2,_⟩:=I.tuple q2;have I2:=pp2;exact⟨false,by simp,SeqAt.RcAt.bool_tuple b1 I2 hu⟩
  | lst q2 p2 =>
   cases ry;obtain⟨its2,r2,pp2,_⟩:=I.list q2;have I2:=pp2.isList;exact⟨false,by simp,SeqAt.RcAt.bool_list b1 I2 hu⟩
 | int n1 =>
  obtain⟨w1,rfl⟩:=rx;cases h' with
  | non =>
   cases ry;exact⟨false,by simp,SeqAt.RcAt.int_none n1 w1⟩
  | bl b2 =>
   cases ry;exact⟨_,Up n1 b2,SeqAt.RcAt.int_bool n1 w1 b2⟩
  | int n2 =>
   obtain⟨w2,rfl⟩:=ry;exact⟨_,UL n1 n2,SeqAt.RcAt.int_int n1 w1 n2 w2⟩
  | str z2 =>
   obtain⟨w2,rfl⟩:=ry;exact⟨false,by simp,SeqAt.RcAt.int_str n1 w1 z2 w2⟩
  | tup q2 p2 =>
   cases ry;obtain⟨its2,r2,pp2,_⟩:=I.tuple q2;have I2:=pp2;exact⟨false,by simp,SeqAt.RcAt.int_tuple n1 w1 I2 hu⟩
  | lst q2 p2 =>
   cases ry;obtain⟨its2,r2,pp2,_⟩:=I.list q2;have I2:=pp2.isList;exact⟨false,by simp,SeqAt.RcAt.int_list n1 w1 I2 hu⟩
 | str z1 =>
  obtain⟨w1,rfl⟩:=rx;cases h' with
  | non =>
   cases ry;exact⟨false,by simp,SeqAt.RcAt.str_none z1 w1⟩
  | bl b2 =>
   cases ry;exact⟨false,by simp,SeqAt.RcAt.str_bool z1 w1 b2⟩
  | int n2 =>
   obtain⟨w2,rfl⟩:=ry;exact⟨false,by simp,SeqAt.RcAt.str_int z1 w1 n2 w2⟩
  | str z2 =>
   obtain⟨w2,rfl⟩:=ry;exact⟨_,Jer z1 z2,SeqAt.RcAt.str_str z1 w1 z2 w2⟩
  | tup q2 p2 =>
   cases ry;obtain⟨its2,r2,pp2,_⟩:=I.tuple q2;have I2:=pp2;exact⟨false,by simp,SeqAt.RcAt.str_tuple z1 w1 I2 hu⟩
  | lst q2 p2 =>
   cases ry;obtain⟨its2,r2,pp2,_⟩:=I.list q2;have I2:=pp2.isList;exact⟨false,by simp,SeqAt.RcAt.str_list z1 w1 I2 hu⟩
 | tup q1 p1 =>
  cases rx;cases h' with
  | non =>
   cases ry;obtain⟨its1,r1,pp1,_⟩:=I.tuple q1;have I1:=pp1;exact⟨false,by simp,SeqAt.RcAt.tuple_none I1 hu⟩
  | bl b2 =>
   cases ry;obtain⟨its1,r1,pp1,_⟩:=I.tuple q1;have I1:=pp1;exact⟨false,by simp,SeqAt.RcAt.tuple_bool b2 I1 hu⟩
  | int n2 =>
   obtain⟨w2,rfl⟩:=ry;obtain⟨its1,r1,pp1,_⟩:=I.tuple q1;have I1:=pp1;exact⟨false,by simp,SeqAt.RcAt.tuple_int n2 w2 I1 hu⟩
  | str z2 =>
   obtain⟨w2,rfl⟩:=ry;obtain⟨its1,r1,pp1,_⟩:=I.tuple q1;have I1:=pp1;exact⟨false,by simp,SeqAt.RcAt.tuple_str z2 w2 I1 hu⟩
  | tup q2 p2 =>
   cases ry;obtain⟨its1,r1,pp1,_⟩:=I.tuple q1;have I1:=pp1;obtain⟨its2,r2,pp2,_⟩:=I.tuple q2;have I2:=pp2;exact Jfd hu I hR hF q1 q2 p1 p2
  | lst q2 p2 =>
   cases ry;obtain⟨its1,r1,pp1,_⟩:=I.tuple q1;have I1:=pp1;obtain⟨its2,r2,pp2,_⟩:=I.list q2;have I2:=pp2.isList;exact⟨false,by simp,SeqAt.RcAt.tuple_list I1 I2 hu⟩
 | lst q1 p1 =>
  cases rx;cases h' with
  | non =>
   cases ry;obtain⟨its1,r1,pp1,_⟩:=I.list q1;have I1:=pp1.isList;exact⟨false,by simp,SeqAt.RcAt.list_none I1 hu⟩
  | bl b2 =>
   cases ry;obtain⟨its1,r1,pp1,_⟩:=I.list q1;have I1:=pp1.isList;exact⟨false,by simp,SeqAt.RcAt.list_bool b2 I1 hu⟩
  | int n2 =>
   obtain⟨w2,rfl⟩:=ry;obtain⟨its1,r1,pp1,_⟩:=I.list q1;have I1:=pp1.isList;exact⟨false,by simp,SeqAt.RcAt.list_int n2 w2 I1 hu⟩
  | str z2 =>
   obtain⟨w2,rfl⟩:=ry;obtain⟨its1,r1,pp1,_⟩:=I.list q1;have I1:=pp1.isList;exact⟨false,by simp,SeqAt.RcAt.list_str z2 w2 I1 hu⟩
  | tup q2 p2 =>
   cases ry;obtain⟨its1,r1,pp1,_⟩:=I.list q1;have I1:=pp1.isList;obtain⟨its2,r2,pp2,_⟩:=I.tuple q2;have I2:=pp2;exact⟨false,by simp,SeqAt.RcAt.list_tuple I1 I2 hu⟩
  | lst q2 p2 =>
   cases ry;obtain⟨its1,r1,pp1,_⟩:=I.list q1;have I1:=pp1.isList;obtain⟨its2,r2,pp2,_⟩:=I.list q2;have I2:=pp2.isList;exact Jfe hu I hR hF q1 q2 p1 p2
end
theorem Jef(I:Inv X pins σ H s):∀(d:Nat){A:VD}{x y:V}{t t':Tr}{v u:VR},A.units+d<cLine->Is X.K H d x t->Is X.K H d y t'->RelV x v->RelV y u->∃b,(b=true↔t=t')/\SeqAt.EqAt A s v u b
 | 0,_,_,_,_,_,_,_,hu,h,h',rx,ry=>Jgf hu I (fun _ _ _ _ _ _ z _ _ _=>z.elim) (fun _ _ _ z _=>z.elim) h h' rx ry
 | d + 1,A,_,_,_,_,_,_,hu,h,h',rx,ry=>Jgf (show A.units < cLine by omega) I (fun _ _ _ _ _ _ a b ra rb=>Jef I d (A:=A.in1) (show A.units + 1 + d < cLine by omega) a b ra rb) (fun _ _ _ a b=>Jjp I a b) h h' rx ry
theorem Jqx(I:Inv X pins σ H s):∀(d:Nat){A:VD}{x y:V}{t t':Tr}{v u:VR},A.units+d<cLine->Is X.K H d x t->Is X.K H d y t'->RelV x v->RelV y u->∃b,(b=true↔t=t')/\SeqAt.RcAt A s v u b
 | 0,_,_,_,_,_,_,_,hu,h,h',rx,ry=>Jff hu I (fun _ _ _ _ _ _ z _ _ _=>z.elim) (fun _ _ _ z _=>z.elim) h h' rx ry
 | d + 1,A,_,_,_,_,_,_,hu,h,h',rx,ry=>Jff (show A.units < cLine by omega) I (fun _ _ _ _ _ _ a b ra rb=>Jef I d (A:=A.in1) (show A.units + 1 + d < cLine by omega) a b ra rb) (fun _ _ _ a b=>Jjp I a b) h h' rx ry
end
section
variable{X:Cx}
def rEqTr(K:VG)(d:Nat):R2:=fun x y H Q=>∃t t',Is K H d x t/\Is K H d y t'/\∀b,(b=true↔t=t')->Q (.bl b) H
theorem Jrn(d:Nat)(hu:X.A.units+d<cLine):OpR X (compareOp .Eq) (rEqTr X.K d):=by intro pins s σ H x y v u Q I rx ry h;obtain⟨t,t',h1,h2,q⟩:=h;obtain⟨b,hb,r⟩:=Jqx I d hu h1 h2 rx ry;exact r _ _ _ _ ⟨.bl b,H,I,rfl,q b hb⟩
def Jti(K:VG)(d:Nat):R2:=fun x y H Q=>∃p ys t ts,y=.ref p/\(SqL K H p ys\/SqT K H p ys)/\Is K H d x t/\Paired (Is K H d) ys ts/\∀b,(b=true↔t∈ts)->Q (.bl b) H
theorem Jbg{pins:VW}{s:VP}{σ:St}{H:Hp}{A:VD}(I:Inv X pins σ H s){d:Nat}(hu:A.units+d<cLine){x:V}{v:VR}{t:Tr}{ys:VS}{ts:List Tr}{its:VU}(h:Is X.K H d x t)(rx:RelV x v)(r:Vals ys its)(p:Paired (Is X.K H d) ys ts) :
  ∃e:VR->Bool,(∀y,y∈its->SeqAt.EqAt A s y v (e y))/\(∀(j:Nat)(y:VR),its[j]?=some y->(e y=true↔ts[j]?=some t)):=by
 have l1:ys.length=its.length:=r.length;have l2:ys.length=ts.length:=Paired.length p;have ex:∀y,y∈its->∃b,(∀j:Nat,its[j]?=some y->(b=true↔ts[j]?=some t))/\SeqAt.EqAt A s y v b:=by
  intro y hy;obtain⟨j,hj⟩:=List.mem_iff_getElem?.mp hy;have one:∀k:Nat,its[k]?=some y->∃z tz,ts[k]?=some tz/\Is X.K H d z tz/\RelV z y:=fun k hk=>by have k1:k<its.length:=(SY.mp hk).1;obtain⟨v1,e1,q1⟩:=r.get (i:=k) (x:=ys[k]) (by simp[show k<ys.length by omega]);obtain⟨t1,e3,q3⟩:=Paired.get' (i:=k) (x:=ys[k]) p (by simp[show k<ys.length by omega]);rw[hk]at e1;cases e1;exact⟨ys[k],t1,e3,q3,q1⟩
  obtain⟨z,tz,h1,h2,h3⟩:=one j hj;obtain⟨b,hb,he⟩:=Jef I d hu h2 h h3 rx;refine⟨b,fun k hk=>?_,he⟩;obtain⟨z',tz',h1',h2',h3'⟩:=one k hk;have ez:tz'=tz:=by cases RelV.inj h3 h3';exact Jjp I h2' h2
  rw[h1',hb,ez];simp
 classical
 refine⟨fun y=>if hy:y∈its then Classical.choose (ex y hy)else false,fun y hy=>?_,fun j y hj=>?_⟩
 ·dsimp only;rw[dif_pos hy];exact(Classical.choose_spec (ex y hy)).2
 ·have hy:y∈its:=SK hj;dsimp only;rw[dif_pos hy];exact(Classical.choose_spec (ex y hy)).1 j hj
theorem Jql{e:VR->Bool}{its:VU}{ts:List Tr}{t:Tr}(l:its.length=ts.length)(h:∀(j:Nat)(y:VR),its[j]?=some y->(e y=true↔ts[j]?=some t)):(its.toArray.any e=true)↔t∈ts:=by
 rw[List.any_toArray,List.any_eq_true];constructor
 ·rintro ⟨y,hy,ey⟩;obtain⟨j,hj⟩:=List.mem_iff_getElem?.mp hy;exact SK ((h j y hj).mp ey)
 ·intro ht;obtain⟨j,hj⟩:=List.mem_iff_getElem?.mp ht;have k:j<its.length:=by
   have:=(SY.mp hj).1;omega
  have hy:its[j]?=some its[j]:=by simp[k]
  exact⟨its[j],LV k,(h j _ hy).mpr hj⟩
theorem Jjb(d:Nat)(hu:X.A.units+1+d<cLine):OpR X (compareOp .In) (Jti X.K d):=by
 intro pins s σ H x y v u Q I rx ry h;obtain⟨p,ys,t,ts,rfl,hq,h1,h2,q⟩:=h;cases ry;rcases hq with hq|hq
 ·obtain ⟨its,r,pl,_⟩:=I.list hq;obtain⟨e,he,hi⟩:=Jbg I (A:=X.A.in1) hu h1 rx r h2;refine SeqAt.in_listAt e pl.isList (fun y hy=>he y (by simpa using hy)) ⟨.bl _,H,I,rfl,q _ ?_⟩;exact Jql (by rw[<- r.length,Paired.length h2]) hi
 ·obtain ⟨its,r,pl,_⟩:=I.tuple hq;obtain⟨e,he,hi⟩:=Jbg I (A:=X.A.in1) hu h1 rx r h2;refine SeqAt.in_tupleAt e pl (fun y hy=>he y (by simpa using hy)) ⟨.bl _,H,I,rfl,q _ ?_⟩;exact Jql (by rw[<- r.length,Paired.length h2]) hi
theorem Jhl(d:Nat)(hu:X.A.units+1+d<cLine):MtR X "list.index" (fun x vs H Q=>∃(l:VB)(ys:VS)(y:V)(t:Tr)(ts:List Tr)(j:Nat),x=.ref l/\vs=[y]/\SqL X.K H l ys/\Is X.K H d y t/\Paired (Is X.K H d) ys ts/\ts[j]?=some t/\(∀k,k<j->ts[k]?≠some t)/\j<100000/\Q (.int (j:Int)) H):=by
 intro pins s σ H x vs v us Q I rx rv h;obtain⟨l,ys,y,t,ts,j,rfl,rfl,hl,h1,h2,hj,hno,hs,q⟩:=h;cases rx;obtain⟨u,rfl,ru⟩:=Ym rv;obtain⟨its,r1,p1,_⟩:=I.list hl;obtain⟨⟨cls,dd,data,sl⟩,ho,hc,n,hd⟩:=id p1.isList;simp only at hc hd;subst hc hd;obtain⟨e,he,hi⟩:=Jbg I (A:=X.A.in1) hu h1 ru r1 h2;have hlen:its.length=ts.length:=by rw[<- r1.length,Paired.length h2]
 have hjl:j<its.length:=by have:=(SY.mp hj).1;omega
 refine call_meets PySem.F.slot_list_index ⟨_,ho,rfl⟩ PySem.F.entry_list_index (PySem.F.args_list_index_2 _ _) (SeqAt.list_indexAt l its.toArray n dd sl u e j (by simpa using hjl) (by omega) ?_ ?_) ⟨ho,fun y hy=>he y (by simpa using hy),?_⟩
 ·have:its[j]?=some its[j]:=by simp [hjl]
  rw[List.getElem_toArray];exact(hi j _ this).mpr hj
 ·intro m hm hmj;have hm':m<its.length:=by simpa using hm
  have:its[m]?=some its[m]:=by simp[hm']
  have z:=(hi m _ this);rw[List.getElem_toArray];cases eb:e its[m] with
  | false=>rfl
  | true=>exact absurd (z.mp eb) (hno m hmj)
 ·exact ⟨.int _,H,I.tok _,⟨_,rfl⟩,q⟩
end
theorem Ul(d:VB)(es:Array DictEntry)(ep:Nat)(hd:(d==sysModules)=false)(hlen:es.size<=100000) :
  Meets (Builtin.«tuple.__new__» ⟨[.type "tuple",.ref d],[]⟩)
   (fun A R s=>A.handled=none/\RawD s.heap d es ep/\∀ (h':Heap) (tk:Nat) (acc:Array VR),(∀ b o,s.heap.get? b=some o->h'.get? b=some o)->ItemsOf (fun i v=>∃ e,es[i]?=some e/\v=e.key) acc es.size ->
    R (.ok (.ret (.ref h'.objs.size))) { s with heap:=h'.push { cls:=.type "tuple",data:=.seq acc },toks:=tk }) :=
 .of_wp fun prog w A R s h=>by
  obtain⟨hh,hr,h⟩:=h;have hsub:=sub_tuple_self;have hinit:=init_tuple_lookup;have hmh:=madeHere_tuple;have hT:s.TypeIs (.ref d) "dict":=hr.ty;have hh1:A.in1.handled=none:=hh;have hsz:es.size<=sizeLine:=LQ hlen (by decide);wp_walk using wpAny_typeOf hT,PySem.W.kdu_collect (Jdp hd es ep) hh1 hr hsz;intro h' tk acc hk hacc;show wpAny _ _ (Builtin.Tuple.tupleExact acc.toList.toArray >>= fun v=>ret v) _ _ _;unfold Builtin.Tuple.tupleExact;have e:acc.toList.toArray=acc:=by simp
  rw[e];refine VL (wpAny_newObj_type ?_ (show acc.size<=sizeLine by rw[hacc.1];exact hsz));exact VM ⟨_,rfl,h h' tk acc hk hacc⟩
theorem Jcm{prog:VC}{w:VF}{kvs:List (Key×V)}{vs:List (Key×VR)}{es:List DictEntry}(r:KV kvs vs)(p:Pairs (JX prog w) es vs):∀{ns:VY},kvs.map (·.1)=ns.map Sum.inl->Vals (ns.map V.int) (es.map (·.key)):=by
 induction p generalizing kvs with
 | nil =>
  intro ns e;cases r;cases ns with
  | nil=>exact .nil
  | cons n t=>simp at e
 | @cons en kv es vs h1 h2 _ ih =>
  intro ns e;cases r with
  | @cons a b l r' q t =>
   cases ns with
   | nil=>simp at e
   | cons n ns =>
    simp only[List.map_cons,List.cons.injEq]at e;refine .cons ?_ (ih t e.2);have hk:Uv (Sum.inl n) en.key=true:=by
     have:kv.1=Sum.inl n:=by rw[<- q.1,e.1]
     rw[<- this];exact h1
    exact Jiu hk
theorem Jco{es:Array DictEntry}{acc:Array VR}(h:ItemsOf (fun i v=>∃e,es[i]?=some e/\v=e.key) acc es.size):acc.toList=es.toList.map (·.key):=by
 refine List.ext_getElem? fun i=>?_;rw[List.getElem?_map];by_cases hi:i<es.size
 ·have ha:i < acc.size:=by rw [h.1]; exact hi
  obtain⟨e,h1,h2⟩:=h.2 i acc[i] (by simp[ha]);rw[Array.getElem?_toList,Array.getElem?_toList,h1];simp[ha,h2]
 ·rw [Array.getElem?_toList,Array.getElem?_toList];have ha:¬ i<acc.size:=by rw[h.1];exact hi
  simp[ha,hi]
section
variable{X:Cx}
theorem QF(hc:X.calm=true):Yd X (.type "tuple") (fun xs H Q=>∃(d:VB)(kvs:List (Key×V))(ns:VY),xs=[.ref d]/\H d=some (.dK kvs)/\kvs.map (·.1)=ns.map Sum.inl/\ns.length<=1000/\∀l H',Same H H'->FT H' l (ns.map V.int)->Q (.ref l) H'):=by
 intro pins s σ H xs us Q I r h;obtain⟨d,kvs,ns,rfl,hd,hk,hl,q⟩:=h;obtain⟨u,rfl,ru⟩:=Ym r;cases ru;obtain⟨z,y,vs,rv,o,es,ep,e2,ex,ed,kk,p,n⟩:=I.hok d _ hd;have kv:=Jcm rv p hk;have le:es.size=ns.length:=by have:=kv.length;simpa using this.symm
 refine callType_new PySem.F.called_tuple (by decide) (PySem.F.typeCall_tuple_1 _) (PySem.F.newCall_tuple_1 _) (fun obj=>PySem.F.args_object_init_2 obj _) PySem.F.entry_tuple_new
  (Ul d es ep y (by omega)) ⟨I.ok.hd hc,⟨o,e2,ex,ed⟩,fun h' tk acc kp hacc=>⟨⟨_,VT _ rfl,rfl⟩,?_⟩⟩
 have ea:=Jco hacc;have I1:Inv X pins σ H { s with heap:=h',toks:=tk }:=I.kept (t':=tk) kp;have sz:(ns.map V.int).length<=sizeLine:=by rw[List.length_map];exact SZ (Jk hl)
 have I2:=I1.laid (t':=tk) (a:=h'.objs.size) (o:=.frz { cls:=.type "tuple",data:=.seq acc } (.tup (ns.map V.int))) (h':=h'.push { cls:=.type "tuple",data:=.seq acc }) (fun b o e=>VN _ e) (SJ _)
  (show ObjOk X.prog X.w _ _ _ (.frz _ (.tup _)) from⟨VT _ rfl,sz,acc.toList,by rw[ea];exact kv,by simpa using IsTup.new h' acc⟩)
 exact⟨.ref h'.objs.size,_,I2,rfl,q _ _ (Same.upd (I1.hok.fresh (SJ _))) ⟨_,Jc,rfl,rfl⟩⟩
theorem Jex{pins:VW}{s:VP}{σ:St}{H:Hp}{Q:VK}{a:VB}{ns:VY}(I:Inv X pins σ H s)(hl:ns.length<64)
  (hcol:∀{R:VU->VP->Prop},(∀(h':Heap)(tk:Nat)(its:VU),(∀b o,s.heap.get? b=some o->h'.get? b=some o)->Vals (ns.map V.int) its->R its { s with heap:=h',toks:=tk })->wpAny (model X.prog X.w) X.A.in1 (collect (.ref a)) R X.xe s)
  (q:∀(D:VB)(ns':VY)(H':Hp),Same H H'->H' D=some (.lst (ns'.map V.int))->ns'.Perm ns->ns'.Pairwise (·<=·)->Q (.ref D) H'):wpAny (model X.prog X.w) X.A (call (.builtin "sorted") [.ref a]) (EP X pins σ Q) X.xe s:=by
 have sl:(1000000:Nat)<sizeLine:=by decide
 refine Calls.call_function_entry kind_sorted plain_sorted entry_sorted (args_sorted1 _) ?_;unfold Builtin.«sorted»;refine VL (m:=checkCount "sorted" 1 1 _) (VM ?_);refine VL (hcol fun h' tk its kp rv=>?_);have li:its.length=ns.length:=by rw[<- rv.length,List.length_map]
 have hI:IntsAre its ns:=Zu rv;refine VL (wpAny_newList ?_);have I0:Inv X pins σ H { s with heap:=h',toks:=tk }:=I.kept kp;have hoL:(h'.push (seqObj "list" its.toArray 0)).get? h'.objs.size=some (seqObj "list" its.toArray 0):=VT _ rfl;show wpAny _ _ _ _ _ { s with heap:=h'.push (seqObj "list" its.toArray 0),toks:=tk };refine VL (wpAny_holding (wpAny_call_entry slot_list_sort ⟨_,hoL,rfl⟩ entry_list_sort (list_sort_tree hoL hI (by omega) fun out ns' h1 h2 h3=>⟨_,rfl,?_⟩) (args_list_sort _)));refine VM ⟨_,rfl,?_⟩;have hsz:h'.objs.size<(h'.push (seqObj "list" its.toArray 0)).objs.size:=by rw[size_push'];exact Nat.lt_succ_self _
 have old:∀b o,h'.get? b=some o->(sortedHeap (h'.push (seqObj "list" its.toArray 0)) h'.objs.size its out).get? b=some o:=fun b o e=>by have hb:=SQ e;rw[sortedHeap_old (Nat.ne_of_lt hb) (Nat.lt_trans hb hsz)];exact VN _ e
 obtain⟨c,hcn⟩:=sortedHeap_at (n:=0) (out:=out) (vs:=its) hoL;have I1:Inv X pins σ H { s with heap:=sortedHeap (h'.push (seqObj "list" its.toArray 0)) h'.objs.size its out,toks:=tk }:=I0.kept (t':=tk) old;have fp:FpOk X pins H h'.objs.size:=I0.newFp fun b o e=>SQ e;refine⟨.ref h'.objs.size,_,I1.adopt (o:=.lst (ns'.map V.int)) fp ⟨?_,out.toList,c,Qt h1,by simpa using hcn⟩,rfl,q _ ns' _ (Same.upd fp.1) Jc h2 h3⟩;rw[List.length_map,h2.length_eq];exact SZ (Jk (by omega))
theorem Qm (hc:X.calm=true):Yd X (.builtin "sorted") (fun xs H Q=>∃ (d:VB) (kvs:List (Key×V)) (ns:VY),xs=[.ref d]/\H d=some (.dK kvs)/\kvs.map (·.1)=ns.map Sum.inl/\ns.length < 64 /\
  ∀ (D:VB) (ns':VY) (H':Hp),Same H H'->H' D=some (.lst (ns'.map V.int))->ns'.Perm ns->ns'.Pairwise (·<=·)->Q (.ref D) H'):=by
 intro pins s σ H xs us Q I r h;obtain⟨d,kvs,ns,rfl,hd,hk,hl,q⟩:=h;obtain⟨u,rfl,ru⟩:=Ym r;cases ru;obtain⟨z,y,vs,rv,o,es,ep,e2,ex,ed,kk,p,n⟩:=I.hok d _ hd;have kv:=Jcm rv p hk;have le:es.size=ns.length:=by have:=kv.length;simpa using this.symm
 refine Jex I hl (fun {R} f=>?_) q;refine PySem.W.kdu_collect (Jdp y es ep) (I.ok.hd hc) ⟨o,e2,ex,ed⟩ (by have:=Jk (n:=es.size) (by omega);omega) fun h' tk acc kp hacc=>?_;exact f h' tk acc.toList kp (by rw[Jco hacc];exact kv)
end
end L2
namespace PySem
open PySem.Spec PyProof.Rows
section
variable{prog:VC}{w:VF}{A:VD}{E:VQ}{s:VP}
theorem call_set_tupI{l:VB}{its:Array VR}{ns:VY}{Q:VQ}(noH:A.handled=none)(ht:s.heap.IsTuple l its)(hi:IntsAre its.toList ns)(few:its.size+1<scanBound)
  (fin:∀ (h2:Heap) (tk:Nat),h2.SetOf (intKind prog w) s.heap.objs.size (fun k=>(firstMet (fun i=>ns.getD i 0) its.size).any (· == k)) (firstMet (fun i=>ns.getD i 0) its.size).length ->
   (∀ b o,s.heap.get? b=some o->h2.get? b=some o)->Q (.ref s.heap.objs.size) { s with heap:=h2,toks:=tk }) :
  wpAny (model prog w) A (call (.type "set") [.ref l]) Q E s:=by
 obtain⟨c,tl,hmro⟩:=F.called_set.mro;have mk1:=F.called_set.made;have mk2:=F.called_set.sub;refine wpAny_call (codeAny_of_tree (show wpAny _ _ (callAny (.type "set") _) _ _ _ from ?_));refine VM ⟨Code.quiet_builtin _ (by decide +kernel),codeAny_builtin F.entry_type_call ?_⟩;rw[Around.under_plain (weight_type_call_type "set" [.ref l] []) rfl];have mk3:=F.called_set.notType;have mk4:=F.called_set.canCreate;have mk5:=F.typeCall_set_1 (.ref l)
 repeat (any_goals (first|assumption|wp_step))
 refine codeAny_mono (code_set_new_1 (.ref l) (E:=E) (Q₁:=fun ob t1=>∃led:Bool,ob=.ref s.heap.objs.size/\t1={ s with heap:=s.heap.push { cls:=.type "set",dict:=none,data:=.set #[] 0 (.fresh 0 0 led) } }) (fun led=>⟨led,rfl,rfl⟩)) (fun r t1 hr=>?_);cases r with
 | error e=>exact hr
 | ok fl =>
  cases fl with
  | ret ob =>
   obtain⟨led,rfl,rfl⟩:=hr;generalize hN:s.heap.push { cls:=.type "set",dict:=none,data:=.set #[] 0 (.fresh 0 0 led) }=N;have sN:N.objs.size=s.heap.objs.size+1:=by rw[<- hN,Heap.size_push]
   have kN:∀b o,s.heap.get? b=some o->N.get? b=some o:=fun b o e=>by rw[<- hN];exact VN _ e
   have gN:N.get? s.heap.objs.size=some { cls:=.type "set",dict:=none,data:=.set #[] 0 (.fresh 0 0 led) }:=by rw[<- hN];exact VT _ rfl
   have tyN:Shared.TypeIs { s with heap:=N } (.ref s.heap.objs.size) "set":=⟨_,gN,rfl⟩;have ini1:=F.called_set.init.lookup;have ini2:=F.called_set.init.bind (.ref s.heap.objs.size)
   repeat (any_goals (first|assumption|wp_step))
   refine codeAny_mono (codeAny_call_builtin (R:=wants (fun r t2=>r=.none/\∃ h2 tk,t2={ s with heap:=h2,toks:=tk } /\
     h2.SetOf (intKind prog w) s.heap.objs.size (fun k=>(firstMet (fun i=>ns.getD i 0) its.size).any (·==k)) (firstMet (fun i=>ns.getD i 0) its.size).length /\
     (∀ b o,s.heap.get? b=some o->h2.get? b=some o)) E) F.called_set.init.plain F.entry_set_init (check_set_init_1 tyN ?_)) (fun r2 t2 hr2=>?_)
   ·obtain ⟨⟨ocls,odict,odata,oslots⟩,ot,oc,n,od⟩:=ht;simp only at oc od;subst oc od;have ot':=kN _ _ ot;have no1:=F.sub_tuple_set;have no2:=F.sub_tuple_frozenset;have no3:(Value.type "tuple"==Value.type "dict")=false:=by decide
    have tN:N.IsTuple l its:=⟨_,ot',rfl,n,rfl⟩;unfold Builtin.«set.__init__» noKeywords Builtin.Frozenset.updateFrom;generalize hPI:pyIter=PI;wp_walk;subst hPI;refine wpAny_pyIter_tuple tN ?_;refine VL (wpAny_runValue ?_);have hl:l<s.heap.objs.size:=SQ ot;have ne1:l≠N.objs.size:=by rw[sN];exact SF (LJ hl)
    have ne2:s.heap.objs.size∉[N.objs.size,l]:=by simp only[List.mem_cons,List.not_mem_nil,or_false,not_or];exact⟨by rw[sN];exact SF (Nat.lt_succ_self _),Nat.ne_of_gt hl⟩
    have vals:∀(i:Nat)(v:VR),its[i]?=some v->∃t,v=.int ((fun i=>ns.getD i 0) i) t:=fun i v e=>IntsAre.int_at hi i v (by rw[Array.getElem?_toList];exact e);refine codeAny_set_update_loopS ((Walks.tuple (show A.in1.in1.in1.handled=none by simp[noH]) _ l ne1 its).toS) s.heap.objs.size ne2 (fun i=>ns.getD i 0) vals few (its.size-0) 0 _ (by omega) (LX _)
     ⟨⟨_,VT _ rfl,rfl,rfl⟩,(tN.push _)⟩ ?hS0 ?hR
    case hS0=>exact SetOf_congr ((setObjOf_fresh (knd:=intKind prog w) led).setOf (VN _ gN) (by unfold scanBound;omega)) (fun _=>rfl) rfl
    case hR =>
     intro t3 mv st3;obtain⟨h3,g3,d3,tk3,os3⟩:=t3;have e1:g3=s.gens:=mv.gens;have e2:d3=s.drawn:=mv.drawn;have e3:os3=s.os:=mv.os;subst e1 e2 e3;refine VM (show wpAny _ _ (ret Value.none) _ _ _ from VM ⟨rfl,h3,tk3,rfl,st3,fun b o e=>?_⟩);have hb:=SQ e;refine mv.heap b o ?_ (VN _ (kN b o e));simp only[List.mem_cons,List.not_mem_nil,or_false,not_or];exact⟨SF hb,by rw[sN];exact SF (LJ hb)⟩
   ·cases r2 with
    | error e=>exact hr2
    | ok fl2 =>
     cases fl2 with
     | ret r =>
      obtain⟨rfl,h2,tk,rfl,st2,kp2⟩:=hr2
      repeat (any_goals (first|assumption|wp_step))
      exact fin _ _ st2 kp2
     | _=>exact hr2.elim
  | _=>exact hr.elim
end
end PySem
namespace L2
open PySem PySem.Calls PySem.Spec PyProof.Rows
def fmL(ns:VY):VY:=firstMet (fun i=>ns.getD i 0) ns.length
theorem Jaq(ns:VY):(List.range ns.length).map (fun i=>ns.getD i 0)=ns:=by refine List.ext_getElem (by simp) fun i h1 h2=>?_;rw[List.getElem_map,List.getElem_range,List.getD_eq_getElem?_getD,List.getElem?_eq_getElem h2];rfl
theorem Jpq:∀(l acc:VY),(l.foldl step_dedup acc).length<=acc.length+l.length/\(acc.Nodup->((l.foldl step_dedup acc).length=acc.length+l.length↔(acc++l).Nodup))
 | [],acc=>by simp
 | x::l,acc=>by
  rw[List.foldl_cons];obtain⟨h1,h2⟩:=Jpq l (step_dedup acc x);have sl:=step_length acc x;by_cases c:acc.any (·==x)=true
  ·rw [if_pos c] at sl;have hx:x∈acc:=by simpa using c
   have es:step_dedup acc x=acc:=by unfold step_dedup;rw[if_pos c]
   refine⟨by rw[List.length_cons];omega,fun nd=>?_⟩;constructor
   ·intro e;rw[List.length_cons]at e;omega
   ·intro e;exact absurd rfl ((List.nodup_append.mp e).2.2 x hx x SG)
  ·rw [if_neg c] at sl;have hx:x∉acc:=by simpa using c
   have es:step_dedup acc x=acc++[x]:=by unfold step_dedup;rw[if_neg c]
   refine⟨by rw[List.length_cons];omega,fun nd=>?_⟩;have nd2:(step_dedup acc x).Nodup:=by rw[es];refine List.nodup_append.mpr ⟨nd,SV _ _,fun a ha b hb e=>?_⟩;rw[List.mem_singleton]at hb;subst hb e;exact hx ha
   have:=h2 nd2;rw[es,List.append_assoc,List.singleton_append]at this;rw[List.length_cons,es];rw[show acc.length+(l.length+1)=(acc++[x]).length+l.length by rw[List.length_append,List.length_singleton];omega];exact this
theorem Jwi(ns:VY):fmL ns=ns.foldl step_dedup []:=by unfold fmL firstMet;rw[Jaq]
theorem Jjs(ns:VY):(fmL ns).length<=ns.length/\((fmL ns).length=ns.length↔ns.Nodup):=by rw[Jwi];have:=Jpq ns [];simpa using this
theorem Jsl(ns:VY)(k:Int):(fmL ns).any (·==k)=decide (k∈ns):=by unfold fmL;rw[firstMet_any,Jaq,Bool.eq_iff_iff];simp
section
variable{X:Cx}
theorem Jei(hc:X.calm=true):Yd X (.type "set") (fun xs H Q=>∃(a:VB)(ns:VY),xs=[.ref a]/\SqT X.K H a (ns.map V.int)/\ns.length<=1000/\∀p (n:Nat),H p=none->(n=ns.length↔ns.Nodup)->n<=ns.length->Q (.ref p) (upd H p (.set (fun k=>decide (k∈ns)) n))):=by
 intro pins s σ H xs us Q I r h;obtain⟨a,ns,rfl,hq,hl,q⟩:=h;obtain⟨u,rfl,ru⟩:=Ym r;cases ru;obtain⟨its,rv,pl,hz⟩:=I.tuple hq;have li:its.length=ns.length:=by rw[<- rv.length,List.length_map]
 refine PySem.call_set_tupI (ns:=ns) (I.ok.hd hc) pl (by simpa using Zu rv) (by simp only[List.size_toArray];unfold scanBound;omega) fun h2 tk st kp=>?_;have I1:Inv X pins σ H { s with heap:=h2,toks:=tk }:=I.kept kp;have fp:FpOk X pins H s.heap.objs.size:=I.newFp fun b o e=>SQ e;rw[show its.toArray.size=ns.length by simp[li]]at st;have e:(fun k=>(firstMet (fun i=>ns.getD i 0) ns.length).any (·==k))=fun k=>decide (k∈ns):=funext fun k=>Jsl ns k;rw[e]at st;refine⟨.ref s.heap.objs.size,_,I1.adopt (o:=.set (fun k=>decide (k∈ns)) (fmL ns).length) fp st,rfl,q _ _ fp.1 (Jjs ns).2 (Jjs ns).1⟩
theorem Jmh:Yd X (.builtin "len") (fun xs H Q=>∃(a:VB)(S:Int->Bool)(n:Nat),xs=[.ref a]/\H a=some (.set S n)/\Q (.int (n:Nat)) H):=by intro pins s σ H xs us Q I r h;obtain⟨a,S,n,rfl,ha,q⟩:=h;obtain⟨u,rfl,ru⟩:=Ym r;cases ru;obtain⟨o,es,ep,t,e1,e2,e3,e4,e5,e6,e7,e8⟩:=(show s.heap.SetOf (intKind X.prog X.w) a S n from I.hok a _ ha);refine call_len_set e1 e2 e3 e7 (by unfold scanBound at e6;omega) ⟨.int (n:Nat),H,I.tok _,⟨_,by rw[e8]⟩,q⟩
theorem Jcw:bootBuiltins "set"=some (.type "set"):=by decide +kernel
end
section
variable{X:Cx}
theorem Jmi:Yd X (.builtin "isinstance") (fun xs H Q=>∃a ys T,xs=[.ref a,.ty T]/\SqT X.K H a ys/\T∈["int","bool","tuple","list","str","dict"]/\Q (.bl (kitB "tuple" T)) H):=by intro pins s σ H xs us Q I r h;obtain⟨a,ys,T,rfl,hq,hm,q⟩:=h;obtain⟨u,v,rfl,ru,rv⟩:=Jmr r;have rv:v=Value.type T:=rv;subst rv;cases ru;obtain⟨its,_,⟨o,e1,e2,_⟩,_⟩:=I.tuple hq;exact PySem.W.kia_one PySem.W.kitx_tuple I.kIn ⟨o,e1,e2⟩ (Jpe X.K (t:="tuple") (by simp) hm) (fun z=>nomatch z) fun tk=>⟨.bl _,H,I.tok tk,rfl,q⟩
def rLenO(K:VG):VS->Hp->VK->Prop:=fun xs H Q=>∃p ys,xs=[.ref p]/\(SqL K H p ys\/SqT K H p ys)/\Q (.int ys.length) H
theorem Jcv(K:VG)(hK:X.K=K:=by rfl):Yd X (.builtin "len") (rLenO K):=by subst hK;exact Ju
end
end L2
namespace L2
open PySem PySem.Calls PySem.Spec PyProof.Rows PySem.W
section
variable{X:Cx}{e:Expr}{pos:Pos}{te:TE}
end
end L2
namespace PySem
section
variable{prog:VC}{w:VF}{A:VD}{R:Result->VP->Prop}{I:VB}{fp wr:List VB}{G:Array GenState->Array GenState->Prop}{n:Nat}{P:Nat->VR->Prop}{St:Nat->VP->Prop}
variable{K:Type}[DecidableEq K]{knd:KeyKind prog w K}
end
section
variable{prog:VC}{w:VF}{A:VD}{E:VQ}{s:VP}
variable{K:Type}[DecidableEq K]{knd:KeyKind prog w K}
end
end PySem
namespace L2
open PySem PySem.Calls PySem.Spec PyProof.Rows PySem.W
section
variable{X:Cx}
end
end L2
namespace PySem
section
variable{prog:VC}{w:VF}{A:VD}{R:Result->VP->Prop}{I:VB}{fp wr:List VB}{G:Array GenState->Array GenState->Prop}{n:Nat}{P:Nat->VR->Prop}{St:Nat->VP->Prop}
variable{K:Type}[DecidableEq K]{knd:KeyKind prog w K}
end
section
variable{prog:VC}{w:VF}{A:VD}{E:VQ}{s:VP}
variable{K:Type}[DecidableEq K]{knd:KeyKind prog w K}
end
end PySem
namespace L2
open PySem PySem.Calls PySem.Spec PyProof.Rows PySem.W
section
variable{X:Cx}
end
end L2
namespace L2
open PySem PySem.Spec PyProof.Rows
section
variable{X:Cx}{es:List Expr}{kt:Nat}{tp:Pos}
end
section
variable{X:Cx}
end
end L2
namespace L2
open PySem PySem.Calls PySem.Spec PyProof.Rows PySem.W
section
variable{prog:VC}{w:VF}{A:VD}{E:VQ}{s:VP}
end
section
variable{X:Cx}{pins:VW}{σ:St}{H:Hp}{s:VP}
end
end L2
namespace L2.Hd
open L2 PySem PySem.Calls PySem.Spec PyProof.Rows PySem.W
section
variable{X:Cx}{tg:Expr}
end
section
variable{X:Cx}{N:VJ}{src:List (Option Nat)}{scope:Scope}{cl:List (Str×VB)}{pins:VW}{σ:St}{H:Hp}{s:VP}
end
end L2.Hd
namespace L2
open PySem PySem.Calls PySem.Spec PyProof.Rows PySem.W
section
variable{prog:VC}{w:VF}{A:VD}{y:VB}{ob:Obj}
end
section
variable{X:Cx}
end
end L2
namespace PySem
open PySem.Spec PyProof.Rows
section
variable{prog:VC}{w:VF}{A:VD}{E:VQ}{s:VP}{y:VB}{ob:Obj}
end
end PySem
namespace L2
open PySem PySem.Calls PySem.Spec PyProof.Rows PySem.W
section
variable{X:Cx}
end
section
variable{X:Cx}{k:Nat}{x:Str}{ps:VJ}{sp:Sp}{p pos:Pos}{e:Expr}{es:List Expr}{t:TA}
end
end L2
namespace L2
open PySem
section
variable{prog:VC}{w:VF}{z TI TO i1 i2:VB}{f1 f2:List VB}{n1 n2:Nat}{P1 P2:Nat->VR->Prop}{S1 S2:Nat->Heap->Prop}
theorem ZSb.ty{s:VP}{k:Nat}(st:ZSb z TI TO i1 i2 S1 S2 k s.heap):s.TypeIs (.ref z) "zip":=by obtain⟨⟨f0,b0,hz,_⟩,_⟩:=st;exact⟨_,hz,rfl⟩
theorem Jen{A:VD}{E:VQ}{s:VP}{k:Nat}{Q:VH->VP->Prop}(D:ZAp z TI TO i1 i2 f1 f2)(d1:Draws prog w A.in1 i1 f1 n1 P1 S1)(d2:Draws prog w A.in1 i2 f2 n2 P2 S2)(l1:k<n1)(l2:k<n2)
  (st:ZSb z TI TO i1 i2 S1 S2 k s.heap)
  (q:∀ x y h' tk,P1 k x->P2 k y->(∃ f0 b,IsZb h' z TI TO f0 b/\(f0=.none\/∃ a,f0=rawInt a))->(∃ a b,IsPair h' TO a b)->IsPair h' TI (.ref i1) (.ref i2)->S1 (k + 1) h'->S2 (k + 1) h'->IsPair h' s.heap.objs.size x y->h'.objs.size=s.heap.objs.size + 1 ->
   (∀ c o,c≠z->c≠TO->c≠i1->c≠i2->s.heap.get? c=some o->h'.get? c=some o)->Q (some (.ref s.heap.objs.size)) { s with heap:=h',toks:=tk }) :
  wpAny (model prog w) A (pyNext (.ref z)) Q E s:=by
 have hT:=st.ty;unfold pyNext;exact VL (wpAny_attempt (wpAny_callSpecial?_slot (name:=Str.ofString "__next__") hT F.slot_zip_next
  (wpAny_call_entry F.slot_zip_next hT F.entry_zip_next
   (let ⟨⟨_,_,hz,hf⟩,t1,t2,s1,s2⟩:=st; Jbz D d1 d2 l1 l2 hz hf t1 t2 s1 s2 fun x y h' tk c1 c2 c3 c4 _ c5 c6 c7 c8 c9 c10=>VM (q x y h' tk c1 c2 c3 c4 c5 c6 c7 c8 c9 c10)) (F.args_zip_next_1 _))))
theorem QX{A:VD}{E:VQ}{s:VP}{k:Nat}{Q:VH->VP->Prop}(D:ZAp z TI TO i1 i2 f1 f2)(d1:Draws prog w A.in1 i1 f1 n1 P1 S1)(d2:Draws prog w A.in1 i2 f2 n2 P2 S2)
  (hk:k=n1\/(k<n1/\k=n2)) (st:ZSb z TI TO i1 i2 S1 S2 k s.heap)
  (q:∀h' tk,(∀c o,c≠z->c≠TO->c≠i1->c≠i2->s.heap.get? c=some o->h'.get? c=some o)->Q none { s with heap:=h',toks:=tk }):wpAny (model prog w) A (pyNext (.ref z)) Q E s:=by
 have hT:=st.ty;unfold pyNext;refine VL (wpAny_attempt (wpAny_callSpecial?_slot (name:=Str.ofString "__next__") hT F.slot_zip_next
  (wpAny_call_entry F.slot_zip_next hT F.entry_zip_next (Jby D d1 d2 hk st fun h' e tk kp he=>?_) (F.args_zip_next_1 _))))
 obtain⟨o,ho,hc⟩:=he;refine VL (wpAny_isInstance (T:="StopIteration") (b:=true) ⟨o,ho,hc⟩ isSubtype_stop ?_);exact VM (q _ _ kp)
end
theorem UJ{prog:VC}{w:VF}{A:VD}{E:VQ}{s:VP}{z TI TO:VB}{Q:VQ}(hz:∃f0 b0,IsZb s.heap z TI TO f0 b0/\(f0=.none\/∃a,f0=rawInt a))(h:Q (.ref z) s):wpAny (model prog w) A (pyIter (.ref z)) Q E s:=by obtain⟨f0,b0,hz,_⟩:=hz;have ty:Shared.TypeIs s (.ref z) "zip":=⟨_,hz,rfl⟩;exact wpAny_pyIter_slot ty F.slot_zip_iter (wpAny_call_entry F.slot_zip_iter ty F.entry_zip_iter (show wpAny _ _ (ret (.ref z)) _ _ s from VM ⟨_,rfl,"zip",_,ty,PySem.F.slot_zip_next.lookup,h⟩) (F.args_zip_iter_1 _))
theorem Jko{P:VC}{w:VF}{K:VG}{nm:Str}{tp:Pos}(a b z TI TO i1 i2:VB)(d1:TI≠z)(d2:TO≠z)(d3:i1≠z)(d4:i2≠z)(d5:TI≠TO)(d6:TI≠i1)(d7:TI≠i2)(d8:TO≠i1)(d9:TO≠i2)(d0:i1≠i2) :
  Turn P w K (.Name nm tp) (Itz a b) [z,TI,TO,i1,i2] z (fun i h=>(∃f0 b0,IsZb h z TI TO f0 b0/\(f0=.none\/∃a,f0=rawInt a))/\IsPair h TI (.ref i1) (.ref i2)/\(∃x y,IsPair h TO x y)/\h.IsTupleIter i1 a i/\h.IsTupleIter i2 b i) where
 mem:=by simp
 obj:=fun i h st c hc=>by
  obtain⟨⟨f0,b0,s1,_⟩,s2,⟨x,y,s3⟩,⟨o4,s4,_,q4⟩,⟨o5,s5,_,q5⟩⟩:=st;simp only[List.mem_cons,List.not_mem_nil,or_false]at hc;rcases hc with rfl|rfl|rfl|rfl|rfl
  ·exact ⟨_,s1,fun v=>by intro q; cases q⟩
  ·exact ⟨_,s2,fun v=>by intro q; cases q⟩
  ·exact ⟨_,s3,fun v=>by intro q; cases q⟩
  ·exact ⟨_,s4,fun v=>by intro q; rw [q4] at q; cases q⟩
  ·exact ⟨_,s5,fun v=>by intro q; rw [q5] at q; cases q⟩
 keep:=fun i h h' st kp=>by obtain⟨⟨f0,b0,s1,hf0⟩,s2,⟨x,y,s3⟩,⟨o4,s4,r4⟩,⟨o5,s5,r5⟩⟩:=st;exact⟨⟨f0,b0,kp z (by simp) _ s1,hf0⟩,kp TI (by simp) _ s2,⟨x,y,kp TO (by simp) _ s3⟩,⟨o4,kp i1 (by simp) _ s4,r4⟩,⟨o5,kp i2 (by simp) _ s5,r5⟩⟩
 item:=by
  intro X hP hw hK hc i pins s σ H E I hf st hg;subst hP hw hK;obtain⟨xs,ys,ha,hb,l1,l2⟩:=hg;obtain⟨s1,s2,s3,s4,s5⟩:=st;have nf:∀{c:VB}{o:HO},H c=some o->∀e∈[z,TI,TO,i1,i2],c≠e:=fun hcc e he q=>by rw[q,(hf e he).1]at hcc;cases hcc
  obtain⟨its,r1,t1,_⟩:=I.tuple (SqT.of ha);obtain⟨its2,r2,t2,_⟩:=I.tuple (SqT.of hb);have D:ZAp z TI TO i1 i2 [i1,a] [i2,b]:=by
   refine⟨d1,d2,d3,d4,d5,d6,d7,d8,d9,d0,?_,?_,?_,?_,?_,?_⟩<;>simp only[List.mem_cons,List.not_mem_nil,or_false,not_or]
   ·exact ⟨d3.symm,(nf ha z (by simp)).symm⟩
   ·exact ⟨d4.symm,(nf hb z (by simp)).symm⟩
   ·exact ⟨d8,(nf ha TO (by simp)).symm⟩
   ·exact ⟨d9,(nf hb TO (by simp)).symm⟩
   ·exact ⟨d0,(nf hb i1 (by simp)).symm⟩
   ·exact ⟨d0.symm,(nf ha i2 (by simp)).symm⟩
  have hh:X.A.in1.handled=none:=I.ok.hd hc;have e1:its.toArray.size=xs.length:=by rw[List.size_toArray,<- r1.length]
  have e2:its2.toArray.size=ys.length:=by rw[List.size_toArray,<- r2.length]
  refine Jen D (Yg hh i1 a (nf ha i1 (by simp)) its.toArray) (Yg hh i2 b (nf hb i2 (by simp)) its2.toArray) (by omega) (by omega) ⟨s1,s2,s3,⟨s4,t1⟩,⟨s5,t2⟩⟩ fun x y g tk p1 p2 z1 z2 z3 z4 z5 z6 z7 kp=>⟨_,rfl,?_⟩;have p1:its[i]?=some x:=by simpa using p1
  have p2:its2[i]?=some y:=by simpa using p2
  obtain⟨vx,hx⟩:∃v,xs[i]?=some v:=⟨xs[i],by simp[l1]⟩;obtain⟨vy,hy⟩:∃v,ys[i]?=some v:=⟨ys[i],by simp[l2]⟩;obtain⟨x',q1,rx⟩:=r1.get hx;rw[p1]at q1;cases q1;obtain⟨y',q2,ry⟩:=r2.get hy;rw[p2]at q2;cases q2;refine VM ?_;have fr:H s.heap.objs.size=none:=I.hok.fresh (SJ _);have I1:Inv X pins σ H { s with heap:=g,toks:=tk }:=I.turnedL (l:=[z,TO,i1,i2]) (t':=tk) (fun c o hc e=>by
   simp only[List.mem_cons,List.not_mem_nil,or_false,not_or]at hc
   exact kp c o hc.1 hc.2.1 hc.2.2.1 hc.2.2.2 e) fun c hc=>hf c (by
    simp only[List.mem_cons,List.not_mem_nil,or_false]at hc ⊢
    rcases hc with h | h | h | h <;> simp [h])
  have fp:=I.fpOk (H':=H) (SJ _) fr;have nz:∀e∈[z,TI,TO,i1,i2],e≠s.heap.objs.size:=fun e he q=>by
   obtain⟨o,ho⟩:∃o,s.heap.get? e=some o:=by
    obtain⟨x3,y3,s3⟩:=s3;obtain⟨o4,s4,_⟩:=s4;obtain⟨o5,s5,_⟩:=s5;simp only[List.mem_cons,List.not_mem_nil,or_false]at he;rcases he with rfl|rfl|rfl|rfl|rfl
    ·obtain ⟨f0,b0,s1,_⟩:=s1;exact⟨_,s1⟩
    ·exact ⟨_,s2⟩
    ·exact ⟨_,s3⟩
    ·exact ⟨_,s4⟩
    ·exact ⟨_,s5⟩
   exact absurd (SQ ho) (by rw[q];exact SW _)
  have at2:g.get? s.heap.objs.size=some { cls:=.type "tuple",data:=.seq #[x,y] }:=z6;refine ⟨.ref s.heap.objs.size,upd H s.heap.objs.size (.tup [vx,vy]),I1.adopt fp ⟨?_,[x,y],.cons rx (.cons ry .nil),⟨_,at2,rfl,_,rfl⟩⟩,rfl,⟨_,vx,vy,rfl,fr,rfl,fun xs' ys' q1 q2=>?_⟩,
   ⟨z1,z3,z2,z4.1,z5.1⟩,fun c hc=>?_⟩
  ·show 2<=sizeLine;decide
  ·rw [ha] at q1; cases q1;rw[hb]at q2;cases q2;exact⟨hx,hy⟩
  ·rw [Jj (nz c hc)];exact(hf c hc).1
 done:=by
  intro X hP hw hK hc i pins s σ H E I hf st hg;subst hP hw hK;obtain⟨xs,ys,ha,hb,hl⟩:=hg;obtain⟨s1,s2,s3,s4,s5⟩:=st;have nf:∀{c:VB}{o:HO},H c=some o->∀e∈[z,TI,TO,i1,i2],c≠e:=fun hcc e he q=>by rw[q,(hf e he).1]at hcc;cases hcc
  obtain⟨its,r1,t1,_⟩:=I.tuple (SqT.of ha);obtain⟨its2,r2,t2,_⟩:=I.tuple (SqT.of hb);have D:ZAp z TI TO i1 i2 [i1,a] [i2,b]:=by
   refine⟨d1,d2,d3,d4,d5,d6,d7,d8,d9,d0,?_,?_,?_,?_,?_,?_⟩<;>simp only[List.mem_cons,List.not_mem_nil,or_false,not_or]
   ·exact ⟨d3.symm,(nf ha z (by simp)).symm⟩
   ·exact ⟨d4.symm,(nf hb z (by simp)).symm⟩
   ·exact ⟨d8,(nf ha TO (by simp)).symm⟩
   ·exact ⟨d9,(nf hb TO (by simp)).symm⟩
   ·exact ⟨d0,(nf hb i1 (by simp)).symm⟩
   ·exact ⟨d0.symm,(nf ha i2 (by simp)).symm⟩
  have hh:X.A.in1.handled=none:=I.ok.hd hc;have e1:its.toArray.size=xs.length:=by rw[List.size_toArray,<- r1.length]
  have e2:its2.toArray.size=ys.length:=by rw[List.size_toArray,<- r2.length]
  refine QX D (Yg hh i1 a (nf ha i1 (by simp)) its.toArray) (Yg hh i2 b (nf hb i2 (by simp)) its2.toArray) (by rcases hl with h|⟨h,h2⟩<;>omega) ⟨s1,s2,s3,⟨s4,t1⟩,⟨s5,t2⟩⟩ fun g tk kp=>⟨rfl,?_⟩;exact I.turnedL (l:=[z,TO,i1,i2]) (t':=tk) (fun c o hc e=>by
   simp only[List.mem_cons,List.not_mem_nil,or_false,not_or]at hc
   exact kp c o hc.1 hc.2.1 hc.2.2.1 hc.2.2.2 e) fun c hc=>hf c (by
    simp only[List.mem_cons,List.not_mem_nil,or_false]at hc ⊢
    rcases hc with h | h | h | h <;> simp [h])
 self:=fun _ _ _ _ _ st h=>UJ st.1 h
section
open PySem.Spec PyProof.Rows
variable{X:Cx}{nm:Str}{tp:Pos}
theorem Jrg{a b:Expr}{ta:TA}{p pos:Pos}(hg:Gl X "zip")(hm:X.mg "zip"=none)(ha:PA X [a,b] ta)(hs:starEach [a,b] X.env=[(false,eval a X.env),(false,eval b X.env)]:=by rfl)(hs2:starEach [b] X.env=[(false,eval b X.env)]:=by rfl) :
  PI X (.Name nm tp) (.Call (.Name "zip" p) [a,b] [] pos) (iZip ta):=by
 intro pins s σ H R I h;refine Call_ (Zk I hg hm Jgm (PyProof.Rows.callWith_type1 (thn (ha pos pins s σ H _ I h) fun us s1 h1=>?_) (by rw[hs,hs2]) (by rw[hs2];rfl)));obtain⟨vs,H1,I1,r1,a,b,xs,ys,e,ha,hb,q⟩:=h1;subst e;obtain⟨u,v,rfl,ru,rv⟩:=Jde r1;cases ru;cases rv;obtain⟨its,_,t1,_⟩:=I1.tuple (SqT.of ha);obtain⟨its2,_,t2,_⟩:=I1.tuple (SqT.of hb);refine Uw t1 t2 fun h' z1 z2 z3 z4 z5 kp=>wpAny_pyIter_zip z1 ?_;have I2:Inv X pins σ H1 { s1 with heap:=h' }:=I1.kept (t':=s1.toks) kp;have fr:∀k:Nat,H1 (s1.heap.objs.size+k)=none:=fun k=>I1.hok.fresh (Nat.le_add_right _ _);refine ⟨s1.heap.objs.size + 4,_,_,Itz a b,H1,rfl,I2,Jko a b (s1.heap.objs.size + 4) (s1.heap.objs.size + 2) (s1.heap.objs.size + 3) s1.heap.objs.size (s1.heap.objs.size + 1)
  (nne _ 2 4 (by decide)) (nne _ 3 4 (by decide)) (nne0 _ 4 (by decide)) (nne _ 1 4 (by decide)) (nne _ 2 3 (by decide)) (nne0 _ 2 (by decide)).symm (nne _ 2 1 (by decide)) (nne0 _ 3 (by decide)).symm (nne _ 3 1 (by decide)) (nne0 _ 1 (by decide)),⟨⟨_,_,z1,.inl rfl⟩,z2,⟨_,_,z3⟩,z4,z5⟩,fun c hc=>?_,q⟩
 simp only[List.mem_cons,List.not_mem_nil,or_false]at hc;rcases hc with rfl|rfl|rfl|rfl|rfl
 ·exact I1.fpOk (Nat.le_add_right _ _) (fr 4)
 ·exact I1.fpOk (Nat.le_add_right _ _) (fr 2)
 ·exact I1.fpOk (Nat.le_add_right _ _) (fr 3)
 ·exact I1.fpOk (SJ _) (fr 0)
 ·exact I1.fpOk (Nat.le_add_right _ _) (fr 1)
end
end L2
namespace L2
open PySem PySem.Spec PyProof.Rows
theorem Jog(a k v:VR):argsOk "min" ⟨[a],[(Str.ofString "key",k),(Str.ofString "default",v)]⟩:=by unfold argsOk;kernel_rfl
section
variable{prog:VC}{w:VF}{A:VD}{R:Result->VP->Prop}{it B:VB}{fp wr:List VB}{n:Nat}{P:Nat->VR->Prop}{St:Nat->Heap->Prop}{dn:Str}{dv:VR}{kf:Nat->Nat}{Ok:Heap->Prop}
theorem Jac:(toString "min"++toString ".loop":String)="min.loop":=by decide
def QM(kf:Nat->Nat)(i j:Nat):Prop:=i<=j/\∀k,k<=j->kf i<=kf k/\(k<i->kf i<kf k)
theorem Juy(W:Walks prog w A.in1 it fp wr n P St)(nB:B∉fp)(okk:∀h h':Heap,Ok h->(∀b o,b∉wr->b≠B->h.get? b=some o->h'.get? b=some o)->Ok h')
  (key:∀(j:Nat)(v:VR)(t:VP)(Q:VQ)(E:VQ),P j v->Ok t.heap->(∀tk tk',Q (.int (kf j) tk) { t with toks:=tk' })->wpAny (model prog w) A.in1 (call (.builtin "len") [v]) Q E t) :
  ∀(k j i:Nat)(t:VP)(best:VR)(tb:Tok)(c:Nat),n=j+1+k->St (j+1) t.heap->Ok t.heap->P i best->QM kf i j->t.heap.get? B=some (Jem #[best,.int (kf i) tb] c) ->
  (∀i v g tk,P i v->QM kf i (n-1)->(∀b o,b∉wr->b≠B->t.heap.get? b=some o->g.get? b=some o)->R (.ok (.ret v)) { t with heap:=g,toks:=tk })->codeAny (model prog w) A (.builtin "min.loop" ⟨[.ref it,.builtin "len",.ref B],[(dn,dv)]⟩) R t:=by
 have nw:B∉wr:=fun z=>nB (W.sub _ z);intro k;induction k with
 | zero =>
  intro j i t best tb c e st ok pb lk hB fin;refine codeAny_builtin F.entry_min_loop ?_;rw[Around.under_plainId F.plain_min_loop _];show wpAny _ A.in1 (seqItems? (.ref B) >>= _) _ _ t;refine VL (wpAny_seqItems hB rfl ?_);show wpAny _ A.in1 (tryCatch (pyNext (.ref it)) _ >>= _) _ _ t;refine VL (wpAny_tryCatch (W.done t _ _ (by rw[e];exact st) fun g tk kp=>?_));have hB1:=kp B _ nw hB;show wpAny _ A.in1 (updateSeq B (fun _=>#[]) >>= _) _ _ _;refine VL (wpAny_updateSeq hB1 rfl (VL (wpAny_letGo (VM ?_))));exact fin i best _ tk pb (by rw[e];exact lk) fun b o b1 b2 q=>(Heap.get?_update_other _ _ (Ne.symm b2)).trans (kp b o b1 q)
 | succ k ih =>
  intro j i t best tb c e st ok pb lk hB fin;refine codeAny_builtin F.entry_min_loop ?_;rw[Around.under_plainId F.plain_min_loop _];show wpAny _ A.in1 (seqItems? (.ref B) >>= _) _ _ t;refine VL (wpAny_seqItems hB rfl ?_);show wpAny _ A.in1 (tryCatch (pyNext (.ref it)) _ >>= _) _ _ t;refine VL (wpAny_tryCatch (W.item (j+1) t _ _ (by omega) st fun v g tk pv st' kp=>?_));have hB1:=kp B _ nw hB;have ok1:Ok g:=okk _ _ ok fun b o b1 _ z=>kp b o b1 z;show wpAny _ A.in1 (tryCatch (holding [v] (call (.builtin "len") [v])) _ >>= _) _ _ _;refine VL (wpAny_tryCatch (wpAny_holding (key (j+1) v _ _ _ pv ok1 fun t2 tk2=>?_)));show wpAny _ A.in1 (tryCatch (holding [v,.int (kf (j+1)) t2] (richCompare .Lt (.int (kf (j+1)) t2) (.int (kf i) tb) >>= _)) _ >>= _) _ _ _;refine VL (wpAny_tryCatch (wpAny_holding (VL (CmpOf.ints_lt (prog:=prog) (w:=w) (A:=A.in1) (P:=fun i v=>∃t,v=.int ((kf i:Nat):Int) t) (fun i=>((kf i:Nat):Int)) (fun i v h=>h) (j+1) i _ _ _ _ _ ⟨t2,rfl⟩ ⟨tb,rfl⟩ ?_))));refine VL (wpAny_holding (wpAny_truthy_bool (VL (wpAny_letGo (VM ?_)))));by_cases hb:((kf (j+1):Nat):Int)<((kf i:Nat):Int)
  ·simp only [hb,decide_true,if_true];refine VL (wpAny_updateSeq hB1 rfl (VL (wpAny_letGo ?_)));rw[Jac];refine VM ⟨plainId_quiet F.plain_min_loop _,ih (j+1) (j+1) _ v t2 _ (by omega) (W.frame _ _ _ st' fun b q o z=>?_) (okk _ _ ok1 fun b o b1 b2 z=>(Heap.get?_update_other _ _ (Ne.symm b2)).trans z) pv ⟨SJ _,fun q hq=>?_⟩ (Heap.get?_update_self _ hB1 rfl) fun i' u g' tk' pu lu kp'=>?_⟩
   ·exact (Heap.get?_update_other _ _ (fun y:B=b=>nB (by rw [y]; exact q))).trans z
   ·by_cases e2:q=j + 1
    ·subst e2;exact⟨SJ _,fun z=>absurd z (SW _)⟩
    ·have:=(lk.2 q (by omega)).1;omega
   ·exact fin i' u g' tk' pu lu fun b o b1 b2 z=>kp' b o b1 b2 ((Heap.get?_update_other _ _ (Ne.symm b2)).trans (kp b o b1 z))
  ·simp only [hb,decide_false,Bool.false_eq_true,if_false];refine VL (wpAny_letGo ?_);rw[Jac];refine VM ⟨plainId_quiet F.plain_min_loop _,ih (j+1) i _ best tb c (by omega) st' ok1 pb ⟨by have:=lk.1;omega,fun q hq=>?_⟩ hB1 fun i' u g' tk' pu lu kp'=>?_⟩
   ·by_cases e2:q=j + 1
    ·subst e2;have:=lk.1;exact⟨by omega,fun z=>by omega⟩
    ·exact lk.2 q (by omega)
   ·exact fin i' u g' tk' pu lu fun b o b1 b2 z=>kp' b o b1 b2 (kp b o b1 z)
theorem Jli(W:Walks prog w A.in1 it fp wr n P St)(nB:B∉fp)(okk:∀h h':Heap,Ok h->(∀b o,b∉wr->b≠B->h.get? b=some o->h'.get? b=some o)->Ok h')
  (key:∀(j:Nat)(v:VR)(t:VP)(Q:VQ)(E:VQ),P j v->Ok t.heap->(∀tk tk',Q (.int (kf j) tk) { t with toks:=tk' })->wpAny (model prog w) A.in1 (call (.builtin "len") [v]) Q E t)
  (hn:0<n) {t:VP} {c:Nat} (st:St 0 t.heap) (ok:Ok t.heap) (hB:t.heap.get? B=some (Jem #[] c))
  (fin:∀i v g tk,P i v->QM kf i (n-1)->(∀b o,b∉wr->b≠B->t.heap.get? b=some o->g.get? b=some o)->R (.ok (.ret v)) { t with heap:=g,toks:=tk }):codeAny (model prog w) A (.builtin "min.loop" ⟨[.ref it,.builtin "len",.ref B],[(dn,dv)]⟩) R t:=by
 have nw:B∉wr:=fun z=>nB (W.sub _ z);refine codeAny_builtin F.entry_min_loop ?_;rw[Around.under_plainId F.plain_min_loop _];show wpAny _ A.in1 (seqItems? (.ref B) >>= _) _ _ t;refine VL (wpAny_seqItems hB rfl ?_);show wpAny _ A.in1 (tryCatch (pyNext (.ref it)) _ >>= _) _ _ t;refine VL (wpAny_tryCatch (W.item 0 t _ _ hn st fun v g tk pv st' kp=>?_));have hB1:=kp B _ nw hB;have ok1:Ok g:=okk _ _ ok fun b o b1 _ z=>kp b o b1 z;show wpAny _ A.in1 (tryCatch (holding [v] (call (.builtin "len") [v])) _ >>= _) _ _ _;refine VL (wpAny_tryCatch (wpAny_holding (key 0 v _ _ _ pv ok1 fun t2 tk2=>?_)));show wpAny _ A.in1 (updateSeq B (fun _=>#[v,.int (kf 0) t2]) >>= _) _ _ _;refine VL (wpAny_updateSeq hB1 rfl ?_);rw[Jac];refine VM ⟨plainId_quiet F.plain_min_loop _,Juy W nB okk key (n-1) 0 0 _ v t2 _ (by omega) (W.frame _ _ _ st' fun b q o z=>?_) (okk _ _ ok1 fun b o b1 b2 z=>(Heap.get?_update_other _ _ (Ne.symm b2)).trans z) pv ⟨SJ _,fun q hq=>?_⟩ (Heap.get?_update_self _ hB1 rfl) fun i' u g' tk' pu lu kp'=>?_⟩
 ·exact (Heap.get?_update_other _ _ (fun y:B=b=>nB (by rw [y]; exact q))).trans z
 ·rw [Nat.le_zero.mp hq];exact⟨SJ _,fun z=>absurd z (SW _)⟩
 ·exact fin i' u g' tk' pu lu fun b o b1 b2 z=>kp' b o b1 b2 ((Heap.get?_update_other _ _ (Ne.symm b2)).trans (kp b o b1 z))
theorem Jof(W:Walks prog w A.in1 it fp wr 0 P St){t:VP}{c:Nat}(st:St 0 t.heap)(hB:t.heap.get? B=some (Jem #[] c))
  (fin:∀g tk,(∀b o,b∉wr->t.heap.get? b=some o->g.get? b=some o)->R (.ok (.ret dv)) { t with heap:=g,toks:=tk }):codeAny (model prog w) A (.builtin "min.loop" ⟨[.ref it,.builtin "len",.ref B],[(dn,dv)]⟩) R t:=by
 refine codeAny_builtin F.entry_min_loop ?_;rw[Around.under_plainId F.plain_min_loop _];show wpAny _ A.in1 (seqItems? (.ref B) >>= _) _ _ t;refine VL (wpAny_seqItems hB rfl ?_);show wpAny _ A.in1 (tryCatch (pyNext (.ref it)) _ >>= _) _ _ t;refine VL (wpAny_tryCatch (W.done t _ _ st fun g tk kp=>?_));refine VL (wpAny_rule (VM ?_));exact fin g tk kp
end
section
variable{X:Cx}
theorem Joj(hc:X.calm=true){pins:VW}{s:VP}{σ:St}{H:Hp}{p:VB}{zs:VS}{L:List (VY)}{d:V}{dv:VR}{Q:VK}(I:Inv X pins σ H s)(hq:SqL X.K H p zs)(tp:Tpi H zs L)(rd:RelV d dv)
  (q0:L=[]->Q d H) (q:∀i z,zs[i]?=some z->QM (fun j=>(L.getD j []).length) i (L.length-1)->Q z H):wpAny (model X.prog X.w) X.A (call (.builtin "min") [.ref p] [(Str.ofString "key",.builtin "len"),(Str.ofString "default",dv)]) (EP X pins σ Q) X.xe s:=by
 obtain⟨its,rv,pl,hz⟩:=I.list hq;have pz:=pl.isList;have lz:zs.length=L.length:=Paired.length tp;have li:its.length=zs.length:=rv.length.symm;refine kmk_tree F.kind_min F.plain_min F.entry_min (Jog _ _ _) ?_;show wpAny _ X.A.in1 (Builtin.Builtins.bindParams "min" ["key","default"] 0 ⟨[],[(Str.ofString "key",.builtin "len"),(Str.ofString "default",dv)]⟩ >>= _) _ _ s;refine VL (wpAny_of_eq (show Builtin.Builtins.bindParams "min" ["key","default"] 0 ⟨[],[(Str.ofString "key",.builtin "len"),(Str.ofString "default",dv)]⟩=pure [some (.builtin "len"),some dv]from rfl) ?_);refine VL (VM ?_);refine VL (wpAny_pyIter_list pz ?_);refine VL (wpAny_newObj_type ?_);rw[Jac];refine VM ⟨plainId_quiet F.plain_min_loop _,?_⟩;obtain⟨op,hop,_⟩:=id pz;have plt:p<s.heap.objs.size:=SQ hop;have hlI:p≠s.heap.objs.size:=SF plt;have Wk:=Walks.list (prog:=X.prog) (w:=X.w) (A:=X.A.in1) (I.ok.hd hc) s.heap.objs.size p hlI its.toArray;have size:its.toArray.size=L.length:=by rw[List.size_toArray,li,lz]
 have nB:(s.heap.push { cls:=.type "list_iterator",data:=.fields #[.ref p,.int 0 0] }).objs.size∉[s.heap.objs.size,p]:=fun z=>by
  rw[Heap.size_push]at z;rcases List.mem_cons.mp z with z|z
  ·exact Nat.succ_ne_self _ z
  ·have h:=plt;rw[<- List.mem_singleton.mp z]at h;exact absurd h (Nat.not_lt.mpr (LU _))
 have keep:∀{g:Heap},(∀b o,b∉[s.heap.objs.size]->b≠(s.heap.push { cls:=.type "list_iterator",data:=.fields #[.ref p,.int 0 0] }).objs.size->((s.heap.push { cls:=.type "list_iterator",data:=.fields #[.ref p,.int 0 0] }).push { cls:=.type "list",data:=.seq #[] }).get? b=some o->g.get? b=some o) ->
   ∀b o,s.heap.get? b=some o->g.get? b=some o:=fun k b o q=>by
  have lt:=SQ q;refine k b o (fun z=>?_) (fun z=>?_) (VN _ (VN _ q))
  ·rw [List.mem_singleton] at z;rw[z]at lt;exact SW _ lt
  ·rw [z,Heap.size_push] at lt;exact absurd lt (Nat.not_lt.mpr (LU _))
 have st0:((s.heap.push { cls:=.type "list_iterator",data:=.fields #[.ref p,.int 0 0] }).push { cls:=.type "list",data:=.seq #[] }).IsListIter s.heap.objs.size p 0:=⟨_,VN _ (VT _ rfl),rfl,rfl⟩;have st1:((s.heap.push { cls:=.type "list_iterator",data:=.fields #[.ref p,.int 0 0] }).push { cls:=.type "list",data:=.seq #[] }).IsList p its.toArray:=by obtain⟨o,h1,h2⟩:=pz;exact⟨o,VN _ (VN _ h1),h2⟩
 by_cases h0:L=[]
 ·have z0:its.toArray.size=0:=by rw [size,h0]; rfl
  rw[z0]at Wk;refine Jof Wk ⟨st0,st1⟩ (VT _ rfl) fun g tk kp=>?_;exact⟨d,H,I.kept (keep fun b o b1 _ z=>kp b o b1 z),rd,q0 h0⟩
 ·have hn:0 < its.toArray.size:=by
   rw[size];exact List.length_pos_iff.mpr h0
  have n63:=Jay;refine Jli (kf:=fun j=>(L.getD j []).length) (Ok:=fun h=>∀b o,s.heap.get? b=some o->h.get? b=some o) Wk nB (fun h h' ok kp b o e=>?_) (fun j v t Q E pv ok h=>?_) hn ⟨st0,st1⟩ (fun b o e=>VN _ (VN _ e)) (VT _ rfl) fun i v g tk pv lk kp=>?_
  ·have lt:=SQ e;refine kp b o (fun z=>?_) (fun z=>?_) (ok b o e)
   ·rw [List.mem_singleton] at z;rw[z]at lt;exact SW _ lt
   ·rw [z,Heap.size_push] at lt;exact absurd lt (Nat.not_lt.mpr (LU _))
  ·have pv:its[j]?=some v:=by simpa using pv
   have jl:j<zs.length:=by have:=(SY.mp pv).1;omega
   obtain⟨u,eu,ru⟩:=Vals.get rv (SN jl);rw[pv]at eu;cases eu;obtain⟨y,ey,r,er,hr⟩:=Paired.get' tp (SN jl);rw[er]at ru;cases ru;obtain⟨ys,ry,py,hz2⟩:=I.tuple (SqT.of (K:=X.K) hr);have hlen:=ry.length;rw[List.length_map]at hlen;have py':IsTup t.heap r ys.toArray:=by obtain⟨o,h1,h2⟩:=py;exact⟨o,ok _ _ h1,h2⟩
   have el:(L.getD j []).length=y.length:=by rw[List.getD_eq_getElem?_getD,ey];rfl
   have b63:ys.length<=sizeLine:=by first|exact hz2|(rw[<- hlen];exact hz2)|(have h9:=hz2;rw[List.length_map]at h9;omega)
   refine len_tuple py' (by simp only[List.size_toArray];omega) ?_;have:=h (t.toks+1) (t.toks+1+1);rw[List.size_toArray,<- hlen];simp only[el]at this;exact this
  ·have pv:its[i]?=some v:=by simpa using pv
   have jl:i<zs.length:=by have:=(SY.mp pv).1;omega
   obtain⟨u,eu,ru⟩:=Vals.get rv (SN jl);rw[pv]at eu;cases eu;rw[size]at lk;exact⟨_,H,I.kept (keep kp),ru,q i _ (SN jl) lk⟩
def Jwr(K:VG)(t tk:TA):TE:=fun σ H Q=>t σ H fun vs H1=>tk σ H1 fun ds H2=>∃(p:VB)(zs:VS)(L:List (VY))(d:V),vs=[.ref p]/\ds=[d]/\SqL K H2 p zs/\Tpi H2 zs L/\(L=[]->Q d H2)/\∀i z,zs[i]?=some z->QM (fun j=>(L.getD j []).length) i (L.length-1)->Q z H2
theorem Jrj{e d:Expr}{t tk:TA}{p p2 pos kpos kpos2:Pos}(hc:X.calm=true)(hg:Gl X "min")(hm:X.mg "min"=none)(hg2:Gl X "len")(hm2:X.mg "len"=none)(ha:PA X [e] t)(hd:PK X [⟨some (Str.ofString "default"),d,kpos2⟩] tk)
  (hks:(backToKw pos (keywordEach [⟨some (Str.ofString "key"),.Name "len" p2,kpos⟩,⟨some (Str.ofString "default"),d,kpos2⟩] X.env)).filterMap (·.1)=[Str.ofString "key",Str.ofString "default"]:=by rfl)
  (h1:backTo pos (starEach [e] X.env)=(false,eval e X.env)::backTo pos (starEach [] X.env):=by rfl) (h2:(backTo pos (starEach [e] X.env)).any (·.1)=false:=by rfl)
  (h3:(backToKw pos (keywordEach [⟨some (Str.ofString "key"),.Name "len" p2,kpos⟩,⟨some (Str.ofString "default"),d,kpos2⟩] X.env)).all (·.1.isSome)=true:=by rfl) (h4:(backToKw pos (keywordEach [⟨some (Str.ofString "key"),.Name "len" p2,kpos⟩,⟨some (Str.ofString "default"),d,kpos2⟩] X.env)).any (·.1.isNone)=false:=by rfl) :
  PE X (.Call (.Name "min" p) [e] [⟨some (Str.ofString "key"),.Name "len" p2,kpos⟩,⟨some (Str.ofString "default"),d,kpos2⟩] pos) (Jwr X.K t tk):=by
 intro pins s σ H Q I h;refine wpAny_Call_Name_kw (Zk I hg hm Jmm ?_);refine PyProof.Rows.callWith_kw (thn (ha pos pins s σ H _ I h) fun us s1 ⟨vs,H1,I1,r1,q1⟩=>?_) h1 h2 h3 h4;show wpAny _ _ (evalAll ((do let v <- eval (.Name "len" p2) X.env;standAt pos;pure v)::(backToKw pos (keywordEach [⟨some (Str.ofString "default"),d,kpos2⟩] X.env)).map (·.2))) _ _ s1;refine wpAny_evalAll_cons (VL (Zk I1 hg2 hm2 PySem.boot_len (VL (wpAny_standAt (VM ?_)))));refine thn (hd pos pins s1 σ H1 _ I1 q1) fun ws s2 ⟨ds,H2,I2,r2,pp,zs,L,dd,ev,ed,hq,tp,q0,q⟩=>?_;subst ed ev;obtain⟨u,rfl,ru⟩:=Ym r1;cases ru;obtain⟨dv,rfl,rd⟩:=Ym r2;rw[hks];exact Joj hc I2 hq tp rd q0 q
end
section
variable{X:Cx}
end
end L2
namespace L2
open PySem
theorem Jnq:∀(m:Nat)(l:List Nat),l.length<m->∃j,j<m/\j∉l
 | 0,l,h=>absurd h (Nat.not_lt_zero _)
 | m + 1,l,h=>by
  by_cases c:m∈l
  ·obtain ⟨j,h1,h2⟩:=Jnq m (l.erase m) (by rw [List.length_erase_of_mem c]; have:=List.length_pos_of_mem c; omega);exact⟨j,by omega,fun q=>h2 ((List.mem_erase_of_ne (by omega)).mpr q)⟩
  ·exact ⟨m,by omega,c⟩
def Bel(l:List Nat)(j r:Nat):Prop:=r<=l.length/\(∀i x,l[i]?=some x->i<r->x<j)/\∀i x,l[i]?=some x->r<=i->j<=x
theorem YD{l:List Nat}(h:l.Pairwise (·<·)){i k x y:Nat}(hi:l[i]?=some x)(hk:l[k]?=some y)(c:i<k):x<y:=by obtain⟨a1,a2⟩:=SY.mp hi;obtain⟨b1,b2⟩:=SY.mp hk;have:=List.pairwise_iff_getElem.mp h i k a1 b1 c;rw[a2,b2]at this;exact this
theorem Jbs{xs:Array Nat}(hr:xs.toList.Pairwise (·<·))(j:Nat):∀(fuel lo hi:Nat),lo<=hi->hi<=xs.size->hi-lo<=fuel ->
  (∀i x,xs.toList[i]?=some x->i<lo->x<j)->(∀i x,xs.toList[i]?=some x->hi<=i->j<=x)->Bel xs.toList j (SetTable.below.go xs j fuel lo hi)
 | 0,lo,hi,h1,h2,h3,a,b=>by
  have e:lo=hi:=by omega
  subst e;unfold SetTable.below.go;exact⟨by simpa using h2,a,b⟩
 | fuel + 1,lo,hi,h1,h2,h3,a,b=>by
  unfold SetTable.below.go;by_cases c:lo<hi
  ·rw [if_pos c];have hm:(lo+hi)/2<xs.size:=by omega
   have em:xs.toList[(lo+hi)/2]?=some xs[(lo+hi)/2]:=by simp[hm]
   have eg:xs.getD ((lo+hi)/2) j=xs[(lo+hi)/2]:=by simp[Array.getD,hm]
   dsimp only;rw[eg];by_cases d:xs[(lo+hi)/2]<j
   ·rw [if_pos d];refine Jbs hr j fuel _ hi (by omega) h2 (by omega) (fun i x e q=>?_) b;rcases Nat.lt_or_eq_of_le (Nat.le_of_lt_succ q)with q|q
    ·have:=YD hr e em q;omega
    ·subst q;rw[em]at e;cases e;exact d
   ·rw [if_neg d];refine Jbs hr j fuel lo _ (by omega) (by omega) (by omega) a fun i x e q=>?_;rcases Nat.lt_or_eq_of_le q with q|q
    ·have:=YD hr em e q;omega
    ·subst q;rw[em]at e;cases e;omega
  ·rw [if_neg c];have e:lo=hi:=by omega
   subst e;exact⟨by simpa using h2,a,b⟩
theorem Uk{xs:Array Nat}(hr:xs.toList.Pairwise (·<·))(j:Nat):Bel xs.toList j (SetTable.below xs j) :=
 Jbs hr j _ _ _ (LX _) (SJ _) (by omega) (fun _ _ _ q=>absurd q (Nat.not_lt_zero _)) fun i x e q=>by have:=(SY.mp e).1;simp at this;omega
theorem Jib{xs:Array Nat}(hr:xs.toList.Pairwise (·<·)):SetTable.below xs 0=0:=by
 obtain⟨h1,h2,h3⟩:=Uk hr 0;cases hb:SetTable.below xs 0 with
 | zero=>rfl
 | succ r =>
  rw[hb]at h1 h2;have e:xs.toList[0]?=some xs.toList[0]:=SN (by omega);exact absurd (h2 0 _ e (by omega)) (Nat.not_lt_zero _)
theorem Jic{xs:Array Nat}(hr:xs.toList.Pairwise (·<·)){i x:Nat}(e:xs[i]?=some x):SetTable.below xs (x+1)=i+1:=by
 obtain⟨h1,h2,h3⟩:=Uk hr (x+1);rw[<- Array.getElem?_toList]at e;have l1:i<SetTable.below xs (x+1):=by
  rcases Nat.lt_or_ge i (SetTable.below xs (x+1))with h|h
  ·exact h
  ·have:=h3 i x e h;omega
 rcases Nat.lt_or_ge (i+1) (SetTable.below xs (x+1))with h|h
 ·have hl:i + 1 < xs.toList.length:=by omega
  have e2:xs.toList[i+1]?=some xs.toList[i+1]:=SN hl;have a:=h2 _ _ e2 h;have b:=YD hr e e2 (Nat.lt_succ_self _);omega
 ·omega
theorem Jnl{xs:Array Nat}(hr:xs.toList.Pairwise (·<·)){j:Nat}(hj:j∉xs.toList):(SetTable.insertAt xs (SetTable.below xs j) j).toList.Pairwise (·<·):=by
 obtain⟨h1,h2,h3⟩:=Uk hr j;rw[SetTable.toList_insertAt];generalize SetTable.below xs j=r at *;have e:xs.toList.take r++xs.toList.drop r=xs.toList:=List.take_append_drop r _;rw[<- e]at hr;obtain⟨p1,p2,p3⟩:=List.pairwise_append.mp hr;have t1:∀x∈xs.toList.take r,x<j:=fun x hx=>by obtain⟨i,hi,ei⟩:=List.mem_take_iff_getElem.mp hx;exact h2 i x (by rw[List.getElem?_eq_getElem (by omega),ei]) (by omega)
 have t2:∀x∈xs.toList.drop r,j<x:=fun x hx=>by obtain⟨i,hi,ei⟩:=List.mem_drop_iff_getElem.mp hx;have:=h3 (r+i) x (by rw[List.getElem?_eq_getElem (by omega)];simpa [Nat.add_comm]using ei) (by omega);have ne:x≠j:=fun q=>hj (by subst q;exact List.mem_of_mem_drop hx);omega
 refine List.pairwise_append.mpr ⟨p1,List.pairwise_cons.mpr ⟨t2,p2⟩,fun a ha b hb=>?_⟩;rcases List.mem_cons.mp hb with rfl|hb
 ·exact t1 a ha
 ·exact p3 a ha b hb
theorem Jgz{t:SetTable}(hr:t.place.toList.Pairwise (·<·))(hd:t.dummies=#[]){j:Nat}:(j∉t.place.toList->t.slot j=.empty)/\(t.slot j=.empty->j∉t.place.toList)/\t.slot j≠.dummy:=by
 have nh:SetTable.has t.dummies j=false:=by rw[hd];simp[SetTable.has]
 obtain⟨h1,h2,h3⟩:=Uk hr j;unfold SetTable.slot;dsimp only;rw[nh];refine⟨fun h=>?_,fun h hm=>?_,?_⟩
 ·rw [if_neg]
  ·rfl
  ·intro q;have q:=beq_iff_eq.mp q;rw[<- Array.getElem?_toList]at q;exact h (SK q)
 ·obtain ⟨i,e⟩:=List.mem_iff_getElem?.mp hm;have l1:SetTable.below t.place j<=i:=by
   rcases Nat.lt_or_ge i (SetTable.below t.place j)with c|c
   ·exact absurd (h2 i j e c) (SW _)
   ·exact c
  rcases Nat.lt_or_eq_of_le l1 with c|c
  ·have hi:=(SY.mp e).1;have e2:t.place.toList[SetTable.below t.place j]?=some t.place.toList[SetTable.below t.place j]:=SN (by omega);have a:=h3 _ _ e2 (SJ _);have b:=YD hr e2 e c;omega
  ·rw [<- c,Array.getElem?_toList] at e;rw[e]at h;simp at h
 ·split
  ·intro q; cases q
  ·intro q; simp at q
def vis(mask:Nat):Nat->Nat->Nat->Nat->Nat->List Nat
 | 0,_,_,_,_=>[]
 | f + 1,j,more,i,pb=>j::if more > 0 then vis mask f (j + 1) (more - 1) i pb else vis mask f (SetTable.leap mask i pb).1 (SetTable.runEnd mask (SetTable.leap mask i pb).1 - (SetTable.leap mask i pb).1) (SetTable.leap mask i pb).1 (SetTable.leap mask i pb).2
theorem Jpm{t:SetTable}(hr:t.place.toList.Pairwise (·<·))(hd:t.dummies=#[]){hashAt:Nat->Int}{h:Int}(hn:∀i,(hashAt i==h)=false):∀(fuel:Nat)(p:SetTable.Probe),p.dummy=none ->
  (∃j,j∈vis t.mask fuel p.j p.more p.i p.perturb/\j∉t.place.toList)->∃j,SetTable.probe.go t hashAt h fuel p=some (.empty j none)/\j∉t.place.toList
 | 0,p,_,⟨j,hj,_⟩=>by simp [vis] at hj
 | fuel + 1,p,hp,⟨j,hj,hf⟩=>by
  obtain⟨s1,s2,s3⟩:=Jgz hr hd (j:=p.j);unfold SetTable.probe.go;cases hs:t.slot p.j with
  | empty =>
   dsimp only;exact⟨p.j,by rw[hp],s2 hs⟩
  | dummy=>exact absurd hs s3
  | live i =>
   dsimp only;rw[hn,if_neg Bool.false_ne_true];refine Jpm hr hd hn fuel (t.advance p) ?_ ⟨j,?_,hf⟩
   ·unfold SetTable.advance;split
    ·exact hp
    ·exact hp
   ·unfold vis at hj;rcases List.mem_cons.mp hj with q|q
    ·subst q;rw[s1 hf]at hs;cases hs
    ·unfold SetTable.advance;by_cases c:p.more>0
     ·rw [if_pos c] at q ⊢;exact q
     ·rw [if_neg c] at q ⊢;exact q
def Msk(m:Nat):Prop:=m=7\/m=15\/m=31\/m=63
def Jah(m:Nat):Bool:=(List.range 14).all fun h=>(List.range (m+1)).all fun j=>(vis m (10*SetTable.turns m) (h%(m+1)) (SetTable.runEnd m (h%(m+1))-h%(m+1)) (h%(m+1)) h).elem j
theorem WY:Jah 7=true/\Jah 15=true/\Jah 31=true/\Jah 63=true:=by decide +kernel
theorem Jqn{m:Nat}(hm:Msk m){h j:Nat}(hh:h<14)(hj:j<m+1):j∈vis m (10*SetTable.turns m) (h%(m+1)) (SetTable.runEnd m (h%(m+1))-h%(m+1)) (h%(m+1)) h:=by
 have a:Jah m=true:=by
  rcases hm with rfl|rfl|rfl|rfl
  ·exact WY.1
  ·exact WY.2.1
  ·exact WY.2.2.1
  ·exact WY.2.2.2
 have b:=SM.mp (SM.mp a h (LZ.mpr hh)) j (LZ.mpr hj);exact List.elem_iff.mp b
theorem Jia{h:Nat}(hh:h<14):SetTable.bits (h:Int)=h:=by unfold SetTable.bits;omega
theorem Jgd{t:SetTable}(hr:t.place.toList.Pairwise (·<·))(hd:t.dummies=#[])(hm:Msk t.mask)(hl:t.place.size<=t.mask){h:Nat}(hh:h<14):∃j,t.freeSlot (h:Int)=some (j,false)/\j∉t.place.toList:=by
 obtain⟨j,h1,h2⟩:=Jnq (t.mask+1) t.place.toList (by simp;omega);have hv:=Jqn hm hh h1;obtain ⟨j',e,hf⟩:=Jpm hr hd (hashAt:=fun _=>(h:Int) + 1) (h:=(h:Int)) (fun _=>by simp; omega) (10 * SetTable.turns t.mask) (t.probeStart (h:Int)) rfl ⟨j,by
  unfold SetTable.probeStart;dsimp only;rw[Jia hh]
  exact hv,h2⟩
 refine⟨j',?_,hf⟩;unfold SetTable.freeSlot SetTable.probe;rw[e];rfl
end L2
namespace L2
open PySem PySem.Calls PySem.Spec PyProof.Rows
theorem QS:Manifest.owners.lookup (String.ofList ['r','o','t','a','r','e','t','i','_','t','e','s'].reverse)=some Manifest.sig_set_iterator:=by kernel_rfl
theorem YC:Slot "set_iterator" "__next__" "set_iterator.__next__" :=
 .of (owner:="set_iterator") (n:="__next__") (by rw[typeLookup_type,builtinLookup_eq_fast];kernel_rfl) (by decide +kernel) (by decide +kernel) (by decide +kernel)
  (by first|exact .inl (by decide +kernel)|exact .inr (by decide +kernel)) (by rw[isSubtype_type];kernel_rfl)
theorem QD:entryFor table "set_iterator.__next__"=some Builtin.«set_iterator.__next__»:=entryFor_of_tree (by kernel_rfl)
theorem Qn(a:VR):argsOk "set_iterator.__next__" ⟨[a],[]⟩:=by unfold argsOk;rw[signature?_of (id:="set_iterator.__next__") (n:=['_','_','t','x','e','n','_','_']) (o:=['r','o','t','a','r','e','t','i','_','t','e','s']) (by kernel_rfl) QS];kernel_rfl
theorem Ws:Slot "set_iterator" "__iter__" "set_iterator.__iter__" :=
 .of (owner:="set_iterator") (n:="__iter__") (by rw[typeLookup_type,builtinLookup_eq_fast];kernel_rfl) (by decide +kernel) (by decide +kernel) (by decide +kernel)
  (by first|exact .inl (by decide +kernel)|exact .inr (by decide +kernel)) (by rw[isSubtype_type];kernel_rfl)
theorem Qo(a:VR):argsOk "set_iterator.__iter__" ⟨[a],[]⟩:=by unfold argsOk;rw[signature?_of (id:="set_iterator.__iter__") (n:=['_','_','r','e','t','i','_','_']) (o:=['r','o','t','a','r','e','t','i','_','t','e','s']) (by kernel_rfl) QS];kernel_rfl
theorem Jbq:entryFor table "set.__iter__"=some Builtin.«frozenset.__iter__» :=
 entryFor_alias (id':="frozenset.__iter__") (by kernel_rfl) rfl (by decide +kernel) (by kernel_rfl)
theorem QE:entryFor table "set_iterator.__iter__"=some Builtin.«dict_keyiterator.__iter__» :=
 entryFor_alias (id':="dict_keyiterator.__iter__") (by kernel_rfl) rfl (by decide +kernel) (by kernel_rfl)
def RawS(h:Heap)(d:VB)(es:Array (Int×VR))(ep:Nat)(t:SetTable):Prop:=∃o,h.get? d=some o/\o.ExactSet/\o.data=.set es ep t
def IsSetIt(h:Heap)(it d:VB)(slot i n ep:Nat):Prop:=∃o,h.get? it=some o/\o.cls=.type "set_iterator"/\o.data=.fields #[.int slot 0,.int i 0,.ref d,.int n 0,.int ep 0]
section
variable{prog:VC}{w:VF}{A:VD}{E:VQ}{s:VP}{d it:VB}{es:Array (Int×VR)}{ep i slot:Nat}{t:SetTable}
theorem RawS.ty(h:RawS s.heap d es ep t):s.TypeIs (.ref d) "set":=let⟨o,a,b,_⟩:=h;⟨o,a,b.1⟩
theorem IsSetIt.ty{n:Nat}(h:IsSetIt s.heap it d slot i n ep):s.TypeIs (.ref it) "set_iterator":=let⟨o,a,b,_⟩:=h;⟨o,a,b⟩
theorem Jng{Q:VQ}(hm:RawS s.heap d es ep t)(hf:t.fits es.size=true)(hpl:t.plain=true)
  (q:Q (.ref s.heap.objs.size) { s with heap:=s.heap.push { cls:=.type "set_iterator",data:=.fields #[.int 0 0,.int 0 0,.ref d,.int es.size 0,.int ep 0] } }) :
  wpAny (model prog w) A (pyIter (.ref d)) Q E s:=by
 have hT:=hm.ty;obtain⟨o,h1,h2,h3⟩:=id hm;refine wpAny_pyIter_slot hT F.slot_set_iter (wpAny_call_entry F.slot_set_iter hT Jbq ?_ (F.args_set_iter_1 _));unfold Builtin.«frozenset.__iter__»;refine VL (m:=Builtin.Frozenset.slot0 _ _) (VM ?_);unfold Builtin.Frozenset.sizeOf;refine VL (VL (wpAny_setEntries_of h1 h3 hf (VM ?_)));unfold setDrawn setsByText;refine VL (VL (wpAny_setState_of h1 h3 hf ?_));dsimp only;refine VL (VL (wpAny_askSetting (VM ?_)));refine VM ?_;refine wpAny_ite_split (fun hab=>?_) (fun _=>?_)
 ·have hab:((!_ && (!t.plain && decide (es.size > 1)))=true):=hab;rw[hpl,Bool.not_true,Bool.false_and,Bool.and_false]at hab;cases hab
 refine VL (VM ?_);refine VL (wpAny_setEpoch_of h1 h3 hf ?_);exact VL (wpAny_newObj_type (VM ⟨_,rfl,"set_iterator",_,⟨_,VT _ rfl,rfl⟩,YC.lookup,q⟩))
end
structure Tab(w:VF)(t:SetTable)(n:Nat):Prop where
 size:t.place.size=n
 rise:t.place.toList.Pairwise (·<·)
 dums:t.dummies=#[]
 mask:Msk t.mask
 room:n*5<t.mask*3
 plain:t.plain=true
 led:t.led=!w.params.followText "set-order"
theorem Tab.fill{w:VF}{t:SetTable}{n:Nat}(T:Tab w t n):t.fill=n:=by unfold SetTable.fill;rw[T.size,T.dums];rfl
theorem Tab.fits{w:VF}{t:SetTable}{n:Nat}(T:Tab w t n):t.fits n=true:=by have:=T.fill;have r:=T.room;unfold SetTable.fits;rw[T.size,this];simp;omega
theorem Tab.fresh(w:VF):Tab w (.fresh 0 0 (!w.params.followText "set-order")) 0:=⟨rfl,by simp[SetTable.fresh],rfl,.inl rfl,by simp[SetTable.fresh],rfl,rfl⟩
theorem Wy{α:Type}(xs:Array α)(p:Nat)(x:α):(SetTable.insertAt xs p x).size=xs.size+1:=by have:=(SetTable.insertAt_perm xs p x).length_eq;simpa using this
theorem Jln{w:VF}{t:SetTable}{es:Array (Int×VR)}(T:Tab w t es.size){h:Nat}(hh:h<14)(x:VR):∃(p:Nat)(pl:Array Nat),layNew t es (h:Int) x=(SetTable.insertAt es p ((h:Int),x),{ t with place:=pl },false,false)/\pl.size=es.size+1/\pl.toList.Pairwise (·<·):=by
 have hl:t.place.size<=t.mask:=by rw[T.size];have:=T.room;omega
 obtain⟨j,e,hj⟩:=Jgd T.rise T.dums T.mask hl hh;have pe:t.put j=({ t with place:=SetTable.insertAt t.place (SetTable.below t.place j) j },SetTable.below t.place j):=by
  unfold SetTable.put;have nh:SetTable.has t.dummies j=false:=by rw[T.dums];simp[SetTable.has]
  rw[nh];rfl
 have sz:(SetTable.insertAt t.place (SetTable.below t.place j) j).size=es.size+1:=by rw[Wy,T.size]
 have ft:({ t with place:=SetTable.insertAt t.place (SetTable.below t.place j) j }:SetTable).fits (es.size+1)=true:=by have m:=T.mask;have r:=T.room;unfold SetTable.fits SetTable.fill;dsimp only;rw[sz,T.dums];simp;rcases m with m|m|m|m<;>omega
 refine⟨SetTable.below t.place j,SetTable.insertAt t.place (SetTable.below t.place j) j,?_,sz,Jnl T.rise hj⟩;unfold layNew;rw[e];dsimp only;rw[pe];dsimp only;rw[Wy];unfold SetTable.orStandIn;rw[if_pos ft,ft];rfl
structure Small{prog:VC}{w:VF}{K:Type}[DecidableEq K](knd:KeyKind prog w K)(Sm:K->Prop):Prop where
 sc:∀k v,knd.is k v=true->v.scannable=true
 pk:∀k v,knd.is k v=true->plainKind v=true
 few:∀k,Sm k->∃n:Nat,knd.hash k=n/\n<14
 len:∀ks:List K,ks.Nodup->(∀k∈ks,Sm k)->ks.length<=3
def EntK{prog:VC}{w:VF}{K:Type}[DecidableEq K](knd:KeyKind prog w K):List (Int×VR)->List K->Prop:=Paired fun(e:Int×VR) (k:K)=>knd.is k e.2=true/\e.1=knd.hash k
theorem QR{α β:Type}{F:α->β->Prop}{l l':List α}(p:l.Perm l'):∀{m:List β},Paired F l m->∃m',Paired F l' m'/\m'.Perm m:=by
 induction p with
 | nil=>exact fun h=>⟨_,h,.refl _⟩
 | cons x _ ih =>
  intro m h;cases h with
  | cons r t =>
   obtain⟨m',a,b⟩:=ih t;exact⟨_,.cons r a,b.cons _⟩
 | swap x y l =>
  intro m h;cases h with
  | cons r t =>
   cases t with
   | cons r2 t2=>exact ⟨_,.cons r2 (.cons r t2),.swap ..⟩
 | trans _ _ ih1 ih2 =>
  intro m h;obtain⟨m1,a,b⟩:=ih1 h;obtain⟨m2,c,d⟩:=ih2 a;exact⟨m2,c,d.trans b⟩
theorem Ze{α β:Type}{F:α->β->Prop}{x:α}{y:β}(h:F x y):∀{l:List α}{m:List β},Paired F l m->Paired F (l++[x]) (m++[y])
 | _,_,.nil=>.cons h .nil
 | _,_,.cons r t=>.cons r (Ze h t)
section
variable{prog:VC}{w:VF}{K:Type}[DecidableEq K]{knd:KeyKind prog w K}{Sm:K->Prop}{A:VD}{E:VQ}{s:VP}
theorem EntK.elems(hK:Small knd Sm){es:List (Int×VR)}{ks:List K}(h:EntK knd es ks):ElemsOf knd es:=by intro e he;obtain⟨i,q⟩:=List.mem_iff_getElem?.mp he;obtain⟨k,_,a,b⟩:=Paired.get' h q;exact⟨⟨k,a,b⟩,hK.sc k _ a⟩
theorem Paired.getR{α β:Type}{F:α->β->Prop}:∀{l:List α}{m:List β},Paired F l m->∀{i:Nat}{y:β},m[i]?=some y->∃x,l[i]?=some x/\F x y
 | _,_,.nil,i,y,h=>by simp at h
 | _,_,.cons r t,0,y,h=>by simp at h; subst h; exact ⟨_,rfl,r⟩
 | _,_,.cons r t,i + 1,y,h=>by rw[List.getElem?_cons_succ]at h;obtain⟨x,a,b⟩:=Paired.getR t h;exact⟨x,by rw[List.getElem?_cons_succ];exact a,b⟩
theorem EntK.find{es:List (Int×VR)}{ks:List K}(h:EntK knd es ks)(k:K):(es.findIdx? fun e=>knd.is k e.2).isSome=decide (k∈ks):=by
 rw[Bool.eq_iff_iff,decide_eq_true_eq];constructor
 ·intro q;obtain⟨j,e⟩:=Option.isSome_iff_exists.mp q;obtain⟨a,b,_⟩:=List.findIdx?_eq_some_iff_getElem.mp e;obtain⟨k',c,d,_⟩:=Paired.get' h (SN a);rw[knd.inj _ _ _ b d];exact SK c
 ·intro q;obtain⟨i,e⟩:=List.mem_iff_getElem?.mp q;obtain⟨x,a,b,_⟩:=Paired.getR h e;cases hf:es.findIdx? fun e=>knd.is k e.2 with
  | some j=>rfl
  | none =>
   have:=List.findIdx?_eq_none_iff.mp hf x (SK a);rw[b]at this;cases this
def SetK(knd:KeyKind prog w K)(Sm:K->Prop)(o:Obj)(ks:List K):Prop :=
 ∃es ep t,o.ExactSet/\o.data=.set es ep t/\EntK knd es.toList ks/\ks.Nodup/\(∀k∈ks,Sm k)/\Tab w t es.size
theorem lenK{es:Array (Int×VR)}{ks:List K}(h:EntK knd es.toList ks):es.size=ks.length:=by have:=Paired.length h;simpa using this
theorem add_k(hK:Small knd Sm){a:VB}{o:Obj}{ks:List K}{k:K}{x:VR}{Q:Bool->VP->Prop}(hkey:knd.is k x=true)(hk:Sm k)(ho:s.heap.get? a=some o)(hS:SetK knd Sm o ks)
  (fin:∀(h':Heap)(o':Obj)(ks':List K)(b:Bool),Heap.SameBut a s.heap h'->h'.get? a=some o'->SetK knd Sm o' ks'->ks'.Perm (if k∈ks then ks else ks++[k])->Q b { s with heap:=h' }) :
  wpAny (model prog w) A (setAddHashed a x (knd.hash k)) Q E s:=by
 obtain⟨es,ep,t,hx,hd,en,nd,sm,T⟩:=id hS;have el:=en.elems hK;have lz:=lenK en;have l14:=hK.len ks nd sm;have sc:=hK.sc k x hkey;unfold setAddHashed setAddHashedIn;refine wpAny_holding (VL (wpAny_setState_of ho hd T.fits ?_));dsimp only;rw[byScan_of sc (by rw[lz];unfold scanBound;omega) el,if_pos rfl];unfold setAddByScan;refine VL (VL (wpAny_rule (VL (wpAny_setScan_of hkey ho hd T.fits el ?_))));have hf:=en.find k;cases hq:es.toList.findIdx? fun e=>knd.is k e.2 with
 | some j =>
  rw[hq]at hf;have kin:k∈ks:=of_decide_eq_true hf.symm;refine VM (VM ?_);exact fin s.heap o ks false (Heap.SameBut.refl a s.heap) ho hS (by rw[if_pos kin])
 | none =>
  rw[hq]at hf;have kout:k∉ks:=of_decide_eq_false hf.symm;obtain⟨n,hn,n14⟩:=hK.few k hk;obtain⟨p,pl,eL,sz,rise⟩:=Jln (w:=w) T n14 x;dsimp only;rw[hn,eL];dsimp only;have hgw:∀(b:Bool){s₁:VP}{Q':Unit->VP->Prop},Q' () s₁->wpAny (model prog w) A (match b with|true=>rule "set.scan.the-table-gave-way"|false=>pure ()) Q' E s₁:=fun b s₁ Q' hq=>by
   cases b
   ·exact VM hq
   ·exact wpAny_rule hq
  refine VL (hgw false ?_);rw[if_pos T.plain,hashByValue_scannable 8 sc,hK.pk k x hkey];refine VL (VM ?_)
  try dsimp only
  rw[if_pos rfl];have z1:(SetTable.insertAt es p ((n:Int),x)).size=es.size+1:=Wy ..;have nd1:(ks++[k]).Nodup:=List.nodup_append.mpr ⟨nd,SV _ _,fun u hu v hv e=>by
   rw[List.mem_singleton]at hv
   exact kout (hv ▸ e ▸ hu)⟩
  have sm1:∀y∈ks++[k],Sm y:=fun y hy=>by
   rcases SS.mp hy with hy|hy
   ·exact sm y hy
   ·rw [List.mem_singleton.mp hy]; exact hk
  have l15:=hK.len _ nd1 sm1;rw[List.length_append,List.length_singleton]at l15;have en1:EntK knd (es.toList++[((n:Int),x)]) (ks++[k]):=Ze ⟨hkey,hn.symm⟩ en;have pI:(SetTable.insertAt es p ((n:Int),x)).toList.Perm (es.toList++[((n:Int),x)]):=by have:=SetTable.insertAt_perm es p ((n:Int),x);rwa [Array.toList_push]at this
  have lay:∀{es2:Array (Int×VR)}{t2:SetTable}{e2:Nat}{h2:Heap},es2.toList.Perm (es.toList++[((n:Int),x)])->Tab w t2 es2.size->Heap.SameBut a s.heap h2->h2.get? a=some { o with data:=.set es2 e2 t2 }->Q true { s with heap:=h2 }:=by intro es2 t2 e2 h2 pp T2 sb g2;obtain⟨ks2,c1,c2⟩:=QR pp.symm en1;refine fin h2 _ ks2 true sb g2 ⟨es2,e2,t2,hx,rfl,c1,c2.nodup_iff.mpr nd1,fun y hy=>sm1 y (c2.mem_iff.mp hy),T2⟩ ?_;rw[if_neg kout];exact c2
  have g1:(s.heap.update a (Obj.putSet (SetTable.insertAt es p ((n:Int),x)) { t with place:=pl })).get? a=some { o with data:=.set (SetTable.insertAt es p ((n:Int),x)) (ep+1) { t with place:=pl } }:=by have:=Heap.get?_update_self (Obj.putSet (SetTable.insertAt es p ((n:Int),x)) { t with place:=pl }) ho (by rw[putSet_of _ _ hd];rfl);rwa [putSet_of _ _ hd]at this
  refine VL (wpAny_storeSet_of ho hd ?_ (by rw[z1];exact fits_of_scanBound (by unfold scanBound;omega)));by_cases full:(!false&&({ t with place:=pl }:SetTable).tooFull)=true
  ·rw [if_pos full];have ft:(es.size+1)*5>=t.mask*3:=by
    have:=full;simp only[Bool.not_false,Bool.true_and,SetTable.tooFull,SetTable.fill,T.dums,sz]at this;simpa using this
   have m:=T.mask;rcases m with m|m|m|m<;>omega
  ·rw [if_neg full];refine VM (VM ?_);refine lay pI ?_ (Heap.SameBut.update s.heap a _) g1;rw[z1];refine⟨sz,rise,T.dums,T.mask,?_,T.plain,T.led⟩;have:=full;simp only[Bool.not_false,Bool.true_and,SetTable.tooFull,SetTable.fill,T.dums,sz]at this;simpa using this
end
theorem Jbn{α:Type}:∀(l:List α)(i:Nat)(h:i<l.length),(l[i]::l.eraseIdx i).Perm l
 | a::l,0,h=>.refl _
 | a::l,i + 1,h=>by rw[List.getElem_cons_succ,List.eraseIdx_cons_succ];exact(List.Perm.swap ..).trans ((Jbn l i (Nat.lt_of_succ_lt_succ h)).cons a)
theorem Jiy{α:Type}(next:Nat->Nat):∀(fuel k:Nat)(left:List α)(out:Array α),fuel=left.length->(pickOrder.go next fuel k left out).toList.Perm (out.toList++left)
 | 0,k,left,out,h=>by
  unfold pickOrder.go;cases left with
  | nil=>simp
  | cons a l=>simp at h
 | fuel + 1,k,left,out,h=>by
  unfold pickOrder.go;have hl:next k%left.length<left.length:=Nat.mod_lt _ (by omega)
  rw[List.getElem?_eq_getElem hl];dsimp only;refine(Jiy next fuel (k+1) _ _ (by rw[List.length_eraseIdx_of_lt hl];omega)).trans ?_;rw[Array.toList_push,List.append_assoc];refine List.Perm.append_left _ ?_;exact Jbn left _ hl
theorem Jle{α:Type}(next:Nat->Nat)(xs:Array α):(pickOrder next xs).toList.Perm xs.toList:=by
 have:=Jiy next xs.size 0 xs.toList #[] (by simp)
 simpa [pickOrder]using this
def Wk(w:VF)(d:VB)(es:Array (Int×VR))(ep:Nat):Array (Int×VR):=if w.params.followText "set-order" then pickOrder (w.params.setOrder d ep) es else es
theorem Wk.perm(w:VF)(d:VB)(es:Array (Int×VR))(ep:Nat):(Wk w d es ep).toList.Perm es.toList:=by
 unfold Wk;split
 ·exact Jle _ _
 ·exact .refl _
theorem Wk.size(w:VF)(d:VB)(es:Array (Int×VR))(ep:Nat):(Wk w d es ep).size=es.size:=by have:=(Wk.perm w d es ep).length_eq;simpa using this
def Jbt(w:VF)(t:SetTable)(slot i:Nat):Prop:=w.params.followText "set-order"=true\/SetTable.below t.place slot=i
section
variable{prog:VC}{w:VF}{A:VD}{E:VQ}{s:VP}{d it:VB}{es:Array (Int×VR)}{ep i slot:Nat}{t:SetTable}
theorem Jbv{Q:Array (Int×VR)->VP->Prop}(hm:RawS s.heap d es ep t)(T:Tab w t es.size)(bt:w.params.followText "set-order"=true)(q:Q (Wk w d es ep) s):wpAny (model prog w) A (setWalk d) Q E s:=by obtain⟨o,h1,h2,h3⟩:=id hm;unfold setWalk setsByText;refine VL (wpAny_setState_of h1 h3 T.fits ?_);dsimp only;refine VL (VL (wpAny_askSetting (VM ?_)));rw[if_pos (show(model prog w).w.params.followText "set-order"=true from bt)];refine VL (wpAny_askSetting (VM ?_));unfold Wk at q;rw[if_pos bt]at q;exact q
theorem Jfa{Q:Option (VR×Nat)->VP->Prop}(hm:RawS s.heap d es ep t)(T:Tab w t es.size)(sl:Jbt w t slot i)
  (q1:∀(e:Int×VR)(nx:Nat),(Wk w d es ep)[i]?=some e->Jbt w t nx (i+1)->Q (some (e.2,nx)) s) (q2:es.size<=i->Q none s):wpAny (model prog w) A (setNext d slot i ep) Q E s:=by
 obtain⟨o,h1,h2,h3⟩:=id hm;have wz:=Wk.size w d es ep;unfold setNext;refine VL (wpAny_setState_of h1 h3 T.fits ?_);dsimp only;unfold setsByText;refine VL (VL (wpAny_askSetting (VM ?_)));by_cases bt:w.params.followText "set-order"=true
 ·rw [if_pos (show (model prog w).w.params.followText "set-order"=true from bt),if_neg (by simp)];refine VL (Jbv hm T bt (VM ?_));rcases Nat.lt_or_ge i es.size with c|c
  ·have e:(Wk w d es ep)[i]?=some (Wk w d es ep)[i]:=Array.getElem?_eq_getElem (by omega);rw[e];exact q1 _ slot e (.inl bt)
  ·rw [Array.getElem?_eq_none (by omega)];exact q2 c
 ·have bl:SetTable.below t.place slot=i:=sl.resolve_left bt;have eW:Wk w d es ep=es:=by unfold Wk;rw[if_neg bt]
  rw[if_neg (show ¬ (model prog w).w.params.followText "set-order"=true from bt)];refine wpAny_ite_split (fun hab=>?_) (fun _=>?_)
  ·have hab:((!t.plain && decide (es.size > 1))=true):=hab;rw[T.plain]at hab;cases hab
  refine VL ?_;have hl:t.led=true:=by
   rw[T.led];cases hb:w.params.followText "set-order" with
   | true=>exact absurd hb bt
   | false=>rfl
  refine wpAny_ite_split (fun hab=>?_) (fun _=>VM ?_)
  ·have hab:((!t.led && !es.isEmpty)=true):=hab;rw[hl]at hab;cases hab
  refine VM ?_;rw[bl];rcases Nat.lt_or_ge i es.size with c|c
  ·have hp:i < t.place.size:=by rw [T.size]; exact c
   have e1:es[i]?=some es[i]:=Array.getElem?_eq_getElem c;have e2:t.place[i]?=some t.place[i]:=Array.getElem?_eq_getElem hp;rw[e1,e2];exact q1 es[i] _ (by rw[eW];exact e1) (.inr (Jic T.rise e2))
  ·rw [Array.getElem?_eq_none c];exact q2 c
theorem Jan{Q:VH->VP->Prop}(hh:A.handled=none)(hi:IsSetIt s.heap it d slot i es.size ep)(hm:RawS s.heap d es ep t)(T:Tab w t es.size)(sl:Jbt w t slot i)
  (q1:∀(h':Heap)(e:Int×VR)(nx:Nat),(Wk w d es ep)[i]?=some e->Jbt w t nx (i+1)->IsSetIt h' it d nx (i+1) es.size ep->Heap.SameBut it s.heap h'->Q (some e.2) { s with heap:=h' })
  (q2:∀h',es.size<=i->Heap.ExtBut it s.heap h'->Q none { s with heap:=h' }):wpAny (model prog w) A (pyNext (.ref it)) Q E s:=by
 obtain⟨o,a1,a2,a3⟩:=id hi;obtain⟨od,b1,b2,b3⟩:=id hm;unfold pyNext;refine VL (wpAny_attempt (wpAny_callSpecial?_slot (name:=Str.ofString "__next__") hi.ty YC
  (wpAny_call_entry YC hi.ty QD ?_ (Qn _))))
 unfold Builtin.«set_iterator.__next__»;refine VL (m:=slotArgs _ _ _) (VM ?_);dsimp only;refine VL (wpAny_fieldsOf a1 a3 ?_);dsimp only;refine VL (wpAny_setEntries_of b1 b3 T.fits ?_);rw[if_neg (by simp)];refine VL (Jfa (slot:=slot) (i:=i) hm T sl (fun e nx we sn=>?_) (fun hz=>?_))
 ·show wpAny (model prog w) _ (setField (.ref it) 0 (rawInt (nx:Int)) >>= _) _ _ s;refine VL (wpAny_setField a1 a3 (by simp) ?_);have g1:(s.heap.update it (Obj.mapFields (·.setIfInBounds 0 (rawInt (nx:Int))))).get? it=some (Obj.mapFields (·.setIfInBounds 0 (rawInt (nx:Int))) o):=Heap.get?_update_self _ a1 (Obj.isFreed_of_fields (Obj.data_mapFields a3 _));have d1:=Obj.data_mapFields a3 (·.setIfInBounds 0 (rawInt (nx:Int)));refine VL (wpAny_setField g1 d1 (by simp) ?_);have g2:=Heap.get?_update_self (Obj.mapFields (·.setIfInBounds 1 (rawInt ((i:Int)+1)))) g1 (Obj.isFreed_of_fields (Obj.data_mapFields d1 _));have nxt:IsSetIt ((s.heap.update it (Obj.mapFields (·.setIfInBounds 0 (rawInt (nx:Int))))).update it (Obj.mapFields (·.setIfInBounds 1 (rawInt ((i:Int)+1))))) it d nx (i+1) es.size ep :=
   ⟨_,g2,((Obj.cls_mapFields ..).trans (Obj.cls_mapFields ..)).trans a2,by rw[Obj.data_mapFields d1];simp[rawInt]⟩
  exact VM ⟨_,rfl,VM (q1 _ e nx we sn nxt ((Heap.SameBut.update ..).trans (Heap.SameBut.update ..)))⟩
 ·show wpAny (model prog w) _ (setField (.ref it) 2 .none >>= _) _ _ s;refine VL (wpAny_setField a1 a3 (by simp) ?_);refine VL (m:=newExc (.type "StopIteration") []) ?_;simp only[newExc,newTuple];refine VL (wpAny_newObj_type ?_ (by size_fits));refine VL (m:=firstArgMember _ _) (wpAny_of_eq (a:=Value.none) (by first|rfl|(simp only[firstArgMember];rfl)) ?_);refine wpAny_newObj_type ?_ (by size_fits);simp only[raiseNew];refine VL (wpAny_handled ?_);rw[show A.in1.handled=none from hh];refine VL (VM (wpAny_throw ?_));refine VL (wpAny_isInstance (T:="StopIteration") (b:=true) ⟨_,VT _ rfl,rfl⟩ isSubtype_stop ?_);exact VM (q2 _ hz (((Heap.SameBut.update ..).extBut.push _).push _))
theorem Jnf{n:Nat}{Q:VQ}(hi:IsSetIt s.heap it d slot i n ep)(q:Q (.ref it) s):wpAny (model prog w) A (pyIter (.ref it)) Q E s:=by refine wpAny_pyIter_slot hi.ty Ws (wpAny_call_entry Ws hi.ty QE ?_ (Qo _));unfold Builtin.«dict_keyiterator.__iter__»;refine VL (m:=slotArgs _ _ _) (VM ?_);exact VM ⟨_,rfl,"set_iterator",_,hi.ty,YC.lookup,q⟩
theorem Jkw(hh:A.handled=none)(it d:VB)(hne:d≠it)(es:Array (Int×VR))(ep:Nat)(t:SetTable)(T:Tab w t es.size) :
  Walks prog w A it [it,d] [it] es.size (fun i v=>∃e,(Wk w d es ep)[i]?=some e/\v=e.2) (fun i h=>∃slot,Jbt w t slot i/\IsSetIt h it d slot i es.size ep/\RawS h d es ep t) where
 sub:=fun b hb=>by simp at hb;simp[hb]
 frame:=fun _ _ _ ⟨slot,sl,⟨o,e,r⟩,⟨od,ed,rd⟩⟩ hk=>⟨slot,sl,⟨o,hk it (by simp) o e,r⟩,⟨od,hk d (by simp) od ed,rd⟩⟩
 item:=fun i s Q E hi ⟨slot,sl,st,rs⟩ hQ=>by refine Jan hh st rs T sl (fun h' e nx we sn st' sb=>?_) (fun h' hz _=>absurd hi (Nat.not_lt.mpr hz));exact hQ _ h' s.toks ⟨e,we,rfl⟩ ⟨nx,sn,st',let⟨o,x,r⟩:=rs;⟨o,sb.extBut d o hne x,r⟩⟩ fun c o hc e=>sb.extBut c o (fun z=>hc (by simp[z])) e
 done:=fun s Q E ⟨slot,sl,st,rs⟩ hQ=>Jan hh st rs T sl (fun h' e nx we _ _ _=>by
   have:=(Array.getElem?_eq_some_iff.mp we).1;rw[Wk.size]at this
   exact absurd this (SW _)) fun h' _ x=>hQ h' s.toks fun b o hb e=>x b o (fun z=>hb (by simp [z])) e
 self:=fun _ _ _ _ ⟨_,_,st,_⟩ hQ=>Jnf st hQ
theorem Jnh{r:VB}{Q:Bool->VP->Prop}(hT:s.TypeIs (.ref r) "set")(h:Q false s):wpAny (model prog w) A (Builtin.List.listLengthHint (.ref r)) Q E s:=by
 unfold Builtin.List.listLengthHint;refine VL (wpAny_specialOf hT PySem.F.slot_set_len.lookup ?_);generalize hs:("set.__len__":String)=id1
 wp_delta
 rw[show splitId id1=some ("set","__len__") by rw[<- hs];decide +kernel];subst hs;refine VL (wpAny_isInstance (T:="set") (b:=true) hT (by rw[isSubtype_type];kernel_rfl) (wpAny_ite_split (fun hab=>absurd hab (by decide)) (fun _=>?_)));refine wpAny_ite_split (fun _=>VL (wpAny_typeOf hT (VM h))) (fun hab=>absurd (by decide +kernel) hab)
theorem Jqu(es:Array (Int×VR))(ep:Nat)(t:SetTable)(T:Tab w t es.size):PySem.W.KdlSrc prog w "set" d d es.size (fun i v=>∃e,(Wk w d es ep)[i]?=some e/\v=e.2) (fun h=>RawS h d es ep t) where
 type:=fun _ hm=>hm.ty
 there:=fun _ hm=>let⟨_,a,_⟩:=hm;⟨SQ a,SQ a⟩
 keep:=fun _ _ hm hk=>let⟨o,a,r⟩:=hm;⟨o,hk d (.inl rfl) o a,r⟩
 notList:=by decide
 notTuple:=by decide
 hint:=fun _ _ _ _ hm hq=>Jnh hm.ty hq
 iter:=fun _ _ hh hm=>⟨_,_,(fun _ _ hq=>Jng hm T.fits T.plain hq),Jkw hh _ d (let⟨_,a,_⟩:=hm;SF (SQ a)) es ep t T,⟨0,.inr (Jib T.rise),⟨_,VT _ rfl,rfl,rfl⟩,let⟨o,a,r⟩:=hm;⟨o,VN _ a,r⟩⟩⟩
end
section
variable{prog:VC}{w:VF}{K:Type}[DecidableEq K]{knd:KeyKind prog w K}{Sm:K->Prop}{A:VD}{E:VQ}{s:VP}
abbrev set0(w:VF):Obj:={ cls:=.type "set",dict:=none,data:=.set #[] 0 (.fresh 0 0 (!w.params.followText "set-order")) }
theorem Jub:SetK knd Sm (set0 w) []:=⟨#[],0,_,⟨rfl,rfl,rfl⟩,rfl,.nil,List.nodup_nil,(fun _ h=>nomatch h),Tab.fresh w⟩
theorem Jlh{Q:VQ}(q:Q (.ref s.heap.objs.size) { s with heap:=s.heap.push (set0 w) }):wpAny (model prog w) A (newSet (.type "set")) Q E s:=by unfold newSet setsByText;refine VL (VL (wpAny_askSetting (VM ?_)));dsimp only;simp only[newObj];exact VL (wpAny_alloc (VM q))
theorem Jha(a:VR){Q₁:VQ}(q:Q₁ (.ref s.heap.objs.size) { s with heap:=s.heap.push (set0 w) }) :
  codeAny (model prog w) A (.call (.builtin "set.__new__") ⟨[.type "set",a],[]⟩) (wants Q₁ E) s:=by
 refine codeAny_of_tree (show wpAny _ A.in1 (checkBuiltinCall "set.__new__" ⟨[.type "set",a],[]⟩ >>= fun _=>again (.builtin "set.__new__" ⟨[.type "set",a],[]⟩)) _ _ s from ?_);refine VL (wpAny_of_eq (PySem.F.newCall_set_1 a) (VM ⟨plainId_quiet PySem.F.plain_set_new _,codeAny_builtin PySem.F.entry_set_new ?_⟩));rw[Around.under_plainId PySem.F.plain_set_new _];unfold Builtin.«set.__new__» Builtin.Frozenset.newClass;have:=sub_set_self;obtain⟨hp,g,d,tk,os⟩:=s;dsimp only;generalize hN:newSet=N;wp_walk;subst hN;exact Jlh (VM q)
theorem Jvb(hK:Small knd Sm){R:Result->VP->Prop}{I:VB}{fp wr:List VB}{G:Array GenState->Array GenState->Prop}{n:Nat}{P:Nat->VR->Prop}{St:Nat->VP->Prop}(W:WalksS prog w A.in1 I fp wr G n P St)(S:VB)(hSf:S∉fp)
  (val:Nat->K) (hval:∀i v,P i v->knd.is (val i) v=true) (hsm:∀i,i<n->Sm (val i)) :
  ∀(m i:Nat)(s:VP)(ks:List K)(o:Obj),n-i=m->i<=n->St i s->s.heap.get? S=some o->SetK knd Sm o ks->(∀x,x∈ks↔∃j,j<i/\x=val j) ->
   (∀s' ks' o',Moved (S::wr) G s s'->s'.heap.get? S=some o'->SetK knd Sm o' ks'->(∀x,x∈ks'↔∃j,j<n/\x=val j)->R (.ok (.ret .none)) s') ->
   codeAny (model prog w) A (.builtin "set.update.loop" ⟨[.ref S,.ref I],[]⟩) R s:=by
 have nw:S∉wr:=fun h=>hSf (W.sub _ h);have mo:∀b∈wr,b∈S::wr:=fun b hb=>SD _ hb;intro m;induction m with
 | zero =>
  intro i s ks o hm hi st ho hS mem fin;obtain rfl:i=n:=by omega
  refine codeAny_builtin PyProof.Rows.F.entry_set_update_loop ?_;rw[Around.under_plainId PyProof.Rows.F.plain_set_update_loop _];refine VL (m:=pyNext (.ref I)) (W.done s _ _ st fun s' mv=>?_);exact VM (fin s' ks o (mv.mono mo) (mv.heap S _ nw ho) hS mem)
 | succ m ih =>
  intro i s ks o hm hi st ho hS mem fin;have lt:i<n:=by omega
  refine codeAny_builtin PyProof.Rows.F.entry_set_update_loop ?_;rw[Around.under_plainId PyProof.Rows.F.plain_set_update_loop _];refine VL (m:=pyNext (.ref I)) (W.item i s _ _ lt st fun v s' pv st' mv=>?_);have iv:=hval i v pv;show wpAny _ A.in1 (holding [v] (setAdd S v) >>= _) _ _ s';refine VL (wpAny_holding ?_);unfold setAdd;refine wpAny_holding (VL (knd.pyHash iv ?_));refine add_k (s:={ s' with toks:=s'.toks+1 }) hK iv (hsm i lt) (mv.heap S _ nw ho) hS fun h' o' ks' b sb g' hS' pm=>?_;refine VM ⟨plainId_quiet PyProof.Rows.F.plain_set_update_loop _,ih (i+1) _ ks' o' (by omega) lt (W.frame _ s' _ _ st' (LU _) fun b hb o e=>?_) g' hS' (fun x=>?_) fun s2 ks2 o2 mv2 g2 hS2 mem2=>?_⟩
  ·rw [sb.2 b (fun h:b=S=>hSf (h ▸ hb))];exact e
  ·rw [pm.mem_iff];by_cases c:val i∈ks
   ·rw [if_pos c,mem x];constructor
    ·rintro ⟨j,a,b⟩;exact⟨j,by omega,b⟩
    ·rintro ⟨j,a,b⟩;rcases Nat.lt_or_eq_of_le (Nat.le_of_lt_succ a)with a|rfl
     ·exact ⟨j,a,b⟩
     ·rw [b];exact(mem _).mp c
   ·rw [if_neg c,List.mem_append,List.mem_singleton,mem x];constructor
    ·rintro (⟨j,a,b⟩ | b)
     ·exact ⟨j,by omega,b⟩
     ·exact ⟨i,by omega,b⟩
    ·rintro ⟨j,a,b⟩;rcases Nat.lt_or_eq_of_le (Nat.le_of_lt_succ a)with a|rfl
     ·exact .inl ⟨j,a,b⟩
     ·exact .inr b
  ·refine fin s2 ks2 o2 (Moved.trans W.gtrans ((mv.mono mo).then_heap (LU _) fun b o hb e=>?_) mv2) g2 hS2 mem2;rw[sb.2 b (fun h:b=S=>hb (h▸List.mem_cons_self))];exact e
theorem Jhy[Inhabited K](hK:Small knd Sm){l:VB}{its:Array VR}{ks:List K}{Q:VQ}(noH:A.handled=none)(ht:s.heap.IsList l its)(hi:Paired (fun(v:VR) (k:K)=>knd.is k v=true) its.toList ks)(hs:∀k∈ks,Sm k)
  (fin:∀(h2:Heap)(tk:Nat)(ks':List K)(o:Obj),h2.get? s.heap.objs.size=some o->SetK knd Sm o ks'->(∀x,x∈ks'↔x∈ks)->(∀b o,s.heap.get? b=some o->h2.get? b=some o)->Q (.ref s.heap.objs.size) { s with heap:=h2,toks:=tk }) :
  wpAny (model prog w) A (call (.type "set") [.ref l]) Q E s:=by
 obtain⟨c,tl,hmro⟩:=PySem.F.called_set.mro;have mk1:=PySem.F.called_set.made;have mk2:=PySem.F.called_set.sub;refine wpAny_call (codeAny_of_tree (show wpAny _ _ (callAny (.type "set") _) _ _ _ from ?_));refine VM ⟨Code.quiet_builtin _ (by decide +kernel),codeAny_builtin PySem.F.entry_type_call ?_⟩;rw[Around.under_plain (weight_type_call_type "set" [.ref l] []) rfl];have mk3:=PySem.F.called_set.notType;have mk4:=PySem.F.called_set.canCreate;have mk5:=PySem.F.typeCall_set_1 (.ref l)
 repeat (any_goals (first|assumption|wp_step))
 refine codeAny_mono (Jha (.ref l) (E:=E) (Q₁:=fun ob t1=>ob=.ref s.heap.objs.size/\t1={ s with heap:=s.heap.push (set0 w) }) ⟨rfl,rfl⟩) (fun r t1 hr=>?_);cases r with
 | error e=>exact hr
 | ok fl =>
  cases fl with
  | ret ob =>
   obtain⟨rfl,rfl⟩:=hr;generalize hN:s.heap.push (set0 w)=N;have sN:N.objs.size=s.heap.objs.size+1:=by rw[<- hN,Heap.size_push]
   have kN:∀b o,s.heap.get? b=some o->N.get? b=some o:=fun b o e=>by rw[<- hN];exact VN _ e
   have gN:N.get? s.heap.objs.size=some (set0 w):=by rw[<- hN];exact VT _ rfl
   have tyN:Shared.TypeIs { s with heap:=N } (.ref s.heap.objs.size) "set":=⟨_,gN,rfl⟩;have ini1:=PySem.F.called_set.init.lookup;have ini2:=PySem.F.called_set.init.bind (.ref s.heap.objs.size)
   repeat (any_goals (first|assumption|wp_step))
   refine codeAny_mono (codeAny_call_builtin (R:=wants (fun r t2=>r=.none/\∃ h2 tk ks' o,t2={ s with heap:=h2,toks:=tk }/\h2.get? s.heap.objs.size=some o/\SetK knd Sm o ks'/\(∀ x,x∈ks'↔x∈ks) /\
     (∀ b o,s.heap.get? b=some o->h2.get? b=some o)) E) PySem.F.called_set.init.plain PySem.F.entry_set_init (check_set_init_1 tyN ?_)) (fun r2 t2 hr2=>?_)
   ·obtain ⟨⟨ocls,odict,odata,oslots⟩,ot,oc,n,od⟩:=ht;simp only at oc od;subst oc od;have ot':=kN _ _ ot;have no1:=PySem.F.sub_list_set;have no2:=PySem.F.sub_list_frozenset;have no3:(Value.type "list"==Value.type "dict")=false:=by decide
    have tN:N.IsList l its:=⟨_,ot',rfl,n,rfl⟩;unfold Builtin.«set.__init__» noKeywords Builtin.Frozenset.updateFrom;generalize hPI:pyIter=PI;wp_walk;subst hPI;refine wpAny_pyIter_list tN ?_;refine VL (wpAny_runValue ?_);have hl:l<s.heap.objs.size:=SQ ot;have ne1:l≠N.objs.size:=by rw[sN];exact SF (LJ hl)
    have ne2:s.heap.objs.size∉[N.objs.size,l]:=by simp only[List.mem_cons,List.not_mem_nil,or_false,not_or];exact⟨by rw[sN];exact SF (Nat.lt_succ_self _),Nat.ne_of_gt hl⟩
    have lk:its.size=ks.length:=by have:=Paired.length hi;simpa using this
    have vals:∀(i:Nat)(v:VR),its[i]?=some v->knd.is (ks.getD i default) v=true:=fun i v e=>by rw[<- Array.getElem?_toList]at e;obtain⟨y,e1,e2⟩:=Paired.get' hi e;rw[List.getD_eq_getElem?_getD,e1];exact e2
    have hsm:∀i,i<its.size->Sm (ks.getD i default):=fun i h=>by
     have h':i<ks.length:=by rw[<- lk];exact h
     rw[List.getD_eq_getElem?_getD,List.getElem?_eq_getElem h'];exact hs _ (LV h')
    refine Jvb hK ((Walks.list (show A.in1.in1.in1.handled=none by simp[noH]) _ l ne1 its).toS) s.heap.objs.size ne2 (fun i=>ks.getD i default) vals hsm (its.size-0) 0 _ [] (set0 w) (by omega) (LX _)
     ⟨⟨_,VT _ rfl,rfl,rfl⟩,(tN.push _)⟩ (VN _ gN) Jub (fun x=>⟨(fun h=>nomatch h),fun⟨j,h,_⟩=>absurd h (Nat.not_lt_zero _)⟩) ?hR
    case hR =>
     intro t3 ks' o' mv g3 st3 mem;obtain⟨h3,e1,d3,tk3,os3⟩:=t3;have e1:e1=s.gens:=mv.gens;have e2:d3=s.drawn:=mv.drawn;have e3:os3=s.os:=mv.os;subst e1 e2 e3;refine VM (show wpAny _ _ (ret Value.none) _ _ _ from VM ⟨rfl,h3,tk3,ks',o',rfl,g3,st3,fun x=>?_,fun b o e=>?_⟩)
     ·rw [mem x,lk];constructor
      ·rintro ⟨j,hj,rfl⟩;rw[List.getD_eq_getElem?_getD,List.getElem?_eq_getElem hj];exact LV hj
      ·intro hx;obtain⟨j,hj,e⟩:=LW hx;refine⟨j,hj,?_⟩;rw[List.getD_eq_getElem?_getD,List.getElem?_eq_getElem hj,<- e];rfl
     ·have hb:=SQ e;refine mv.heap b o ?_ (VN _ (kN b o e));simp only[List.mem_cons,List.not_mem_nil,or_false,not_or];exact⟨SF hb,by rw[sN];exact SF (LJ hb)⟩
   ·cases r2 with
    | error e=>exact hr2
    | ok fl2 =>
     cases fl2 with
     | ret r =>
      obtain⟨rfl,h2,tk,ks',o,rfl,g2,st2,mem2,kp2⟩:=hr2
      repeat (any_goals (first|assumption|wp_step))
      exact fin _ _ ks' o g2 st2 mem2 kp2
     | _=>exact hr2.elim
  | _=>exact hr.elim
end
section
variable{prog:VC}{w:VF}{K:Type}[DecidableEq K]{knd:KeyKind prog w K}{Sm:K->Prop}{A:VD}{E:VQ}{s:VP}
end
theorem Jpf{W:Array (Int×VR)}{acc:Array VR}{n:Nat}(hn:W.size=n)(h:ItemsOf (fun i v=>∃e,W[i]?=some e/\v=e.2) acc n):acc.toList=W.toList.map (·.2):=by
 refine List.ext_getElem? fun i=>?_;rw[List.getElem?_map];by_cases hi:i<n
 ·have ha:i < acc.size:=by rw [h.1]; exact hi
  obtain⟨e,h1,h2⟩:=h.2 i acc[i] (by simp[ha]);rw[Array.getElem?_toList,Array.getElem?_toList,h1];simp[ha,h2]
 ·rw [Array.getElem?_toList,Array.getElem?_toList];have ha:¬ i<acc.size:=by rw[h.1];exact hi
  have hw:¬ i<W.size:=by rw[hn];exact hi
  simp[ha,hw]
section
variable{X:Cx}
end
def isB(b:Bool):VR->Bool
 | .bool c=>b == c
 | _=>false
theorem Yt{b:Bool}{v:VR}(h:isB b v=true):v=.bool b:=by
 cases v with
 | bool c=>rw [beq_iff_eq.mp (show (b == c)=true from h)]
 | _=>cases h
def hB(b:Bool):Int:=if b then 1 else 0
section
variable{prog:VC}{w:VF}{A:VD}{E:VQ}{s:VP}
theorem Jmb{b:Bool}{Q:Int->VP->Prop}(h:Q (hB b) { s with toks:=s.toks+1 }):wpAny (model prog w) A (pyHash (.bool b)) Q E s:=by
 unfold pyHash;refine VL ?_;rw[cRoomFor,if_neg (by simp[Value.onHeap])];refine VM (VL (wpAny_specialOf (PySem.typeIs_bool s b) PySem.F.slot_bool_hash.lookup ?_));show wpAny _ _ (if (some (Value.builtin "int.__hash__")==some Value.none)=true then _ else _) Q E s;rw[if_neg (by rw[beq_builtin_none];exact Bool.false_ne_true)];refine VL (wpAny_specialOf (PySem.typeIs_bool s b) PySem.F.slot_bool_hash.lookup ?_);refine VL (m:=callSpecialIfBoundUnlessNone? (.bool b) "__hash__" _) (wpAny_callSpecialIfBoundUnlessNone?_slot (PySem.typeIs_bool s b) PySem.F.slot_bool_hash
  (wpAny_call_entry PySem.F.slot_bool_hash (PySem.typeIs_bool s b) entry_int_hash ?_ (args_int_hash _)))
 unfold Builtin.«int.__hash__»;refine VL (VL (m:=slotArgs "__hash__" 0 _) (VM (VL (VM (VM ?_)))));cases b
 ·exact wpAny_ret_mkInt (VM h)
 ·exact wpAny_ret_mkInt (VM h)
theorem Jpt{a b:Bool}{Q:Bool->VP->Prop}(h:Q (decide (a=b)) s):wpAny (model prog w) A (eqBool (.bool a) (.bool b)) Q E s:=by
 unfold eqBool;show wpAny _ _ (if (Value.bool a==Value.bool b)=true then _ else _) Q E s;by_cases c:a=b
 ·subst c;rw[if_pos (beq_self_eq_true _)];refine VL (wpAny_rule (VM ?_));simpa using h
 ·rw [if_neg (fun z=>c (by have:=eq_of_beq z; injection this))];refine VL (eq_bool (c:=a) (d:=b) (wpAny_truthy_bool ?_));rw[decide_eq_false c]at h;rw[show(a==b)=false from beq_eq_false_iff_ne.mpr c];exact h
def Jkd(prog:VC)(w:VF):KeyKind prog w Bool where
 is:=isB
 hash:=hB
 inj:=fun v a b ha hb=>by have h1:=Yt ha;have h2:=Yt hb;rw[h1]at h2;injection h2
 byValue:=fun k v h=>by rw[Yt h];rfl
 pyHash:=fun hv h=>by rw[Yt hv];exact Jmb h
 eqBool:=fun hu hv h=>by rw[Yt hu,Yt hv];exact Jpt h
 «strs»:=fun k x t v h=>nomatch h
end
theorem Jal(P:VC)(w:VF):Small (Jkd P w) (fun _=>True) where
 sc:=fun k v h=>by rw[Yt h];rfl
 pk:=fun k v h=>by rw[Yt h];rfl
 few:=fun k _=>⟨if k then 1 else 0,by cases k<;>rfl,by cases k<;>decide⟩
 len:=fun ks nd _=>by
  match ks,nd with
  | [],_=>exact LX _
  | [_],_=>exact (by decide:1<=3)
  | [_,_],_=>exact (by decide:2<=3)
  | a::b::c::r,nd =>
   simp only[List.nodup_cons,List.mem_cons,not_or]at nd;cases a<;>cases b<;>cases c<;>simp at nd
def SetB(P:VC)(w:VF)(a:VB)(ks:List Bool):HO:=.ext fun h=>∃o,h.get? a=some o/\SetK (Jkd P w) (fun _=>True) o ks
theorem Jqt{P:VC}{w:VF}{H:Hp}{h:Heap}{a:VB}{o:Obj}{ks:List Bool}(g:h.get? a=some o)(hS:SetK (Jkd P w) (fun _=>True) o ks):ObjOk P w H h a (SetB P w a ks) :=
 ⟨⟨o,g,hS⟩,⟨o,g⟩,fun h1 h2 ⟨o',g1,hS1⟩ k=>⟨o',k o' g1,hS1⟩⟩
theorem Jph:∀{bs:List Bool}{its:VU},Vals (bs.map V.bl) its->Paired (fun(v:VR) (k:Bool)=>isB k v=true) its bs
 | [],_,h=>by cases h; exact .nil
 | b::bs,_,h=>by
  cases h with
  | cons r t =>
   cases r;exact .cons (by simp[isB]) (Jph t)
theorem Jgg{P:VC}{w:VF}:∀{es:List (Int×VR)}{ks:List Bool},EntK (Jkd P w) es ks->es.map (·.2)=ks.map Value.bool
 | _,_,.nil=>rfl
 | _,_,.cons r t=>by rw [List.map_cons,List.map_cons,Yt r.1,Jgg t]
theorem Jeo:∀(ks:List Bool),Vals (ks.map V.bl) (ks.map Value.bool)
 | []=>.nil
 | b::r=>.cons rfl (Jeo r)
def rkB:VR->Nat
 | .bool true=>1
 | _=>0
theorem Jtg(a b:Bool):decide (rkB (.bool a)<rkB (.bool b))=(!a&&b):=by cases a<;>cases b<;>rfl
section
variable{prog:VC}{w:VF}{A:VD}{E:VQ}{s:VP}
theorem Jhi{a b:Bool}{Q:Bool->VP->Prop}(h:Q (!a&&b) s):wpAny (model prog w) A (oneLt' true (.bool a) (.bool b)) Q E s:=by rw[oneLt'_eq];simp only[if_true];refine VL (wpAny_cRoomFor_byValue rfl (VL (wpAny_callSpecialIfBound?_slot (PySem.typeIs_bool s a) PySem.F.slot_bool_lt ?_)));refine wpAny_call_entry PySem.F.slot_bool_lt (PySem.typeIs_bool s a) PySem.F.entry_int_lt ?_ (PySem.F.args_int_lt_2 _ _);show wpAny _ _ (ret (.bool (decide ((if a then(1:Int)else 0)<if b then 1 else 0)))) _ _ s;refine VM ⟨_,rfl,wpAny_truthy_bool ?_⟩;rw[show decide ((if a then(1:Int)else 0)<if b then 1 else 0)=(!a&&b) by cases a<;>cases b<;>rfl];exact h
def OutB(bs:List Bool)(o:VU):Prop:=∃bs':List Bool,o=bs'.map Value.bool/\bs'.Perm bs/\bs'.Pairwise fun a b=>(!b&&a)=false
theorem Jqi {a b:Bool}:wpAny (model prog w) A (keyKind' #[.bool a,.bool b]) (fun κ t'=>t'=s /\
   wpAny (model prog w) A ((sortRuns').run (SortSt.mk' κ (#[Value.bool a,.bool b].zip #[Value.bool a,.bool b]) #[] 7 none)) (fun r t2=>t2=s/\failedOf r.2=none/\OutB [a,b] ((arrOf r.2).map (·.2)).toList) (fun _ _=>False) s) (fun _ _=>False) s:=by
 have hk:keyKind' [Value.bool a,.bool b].toArray=pure oneType':=by
  have e1:[Value.bool a,.bool b].mapM firstOfTuple'=pure [none,none]:=by rw[List.mapM_cons,show firstOfTuple' (.bool a)=pure none from rfl,List.mapM_cons,show firstOfTuple' (.bool b)=pure none from rfl];simp
  have e2:[Value.bool a,.bool b].mapM typeOf=pure [Value.type "bool",.type "bool"]:=by rw[List.mapM_cons,show typeOf (.bool a)=pure (.type "bool")from rfl,List.mapM_cons,show typeOf (.bool b)=pure (.type "bool")from rfl];simp
  rw[keyKind'_eq,List.mapM_toArray,e1];simp only[map_pure,pure_bind];rw[if_neg (by simp),if_neg (by simp),oneTypeOnly'_eq,List.mapM_toArray,e2];simp only[map_pure,pure_bind];have h0:[Value.type "bool",.type "bool"].toArray[0]?=some (Value.type "bool"):=by simp
  have hal:([Value.type "bool",.type "bool"].toArray.all fun x=>x==Value.type "bool")=true:=by simp
  rw[h0];dsimp only;rw[hal];simp
 rw[show(#[Value.bool a,.bool b]:Array VR)=[Value.bool a,.bool b].toArray from rfl,hk];refine VM ⟨rfl,?_⟩;have mem:∀x:Keyed,x∈[Value.bool a,.bool b].toArray.zip [Value.bool a,.bool b].toArray->x=(.bool a,.bool a)\/x=(.bool b,.bool b):=fun x hx=>by have hx':=Array.mem_toList_iff.mpr hx;simpa using hx'
 have hc:Tim.CmpL prog w A s oneType' ([Value.bool a,.bool b].toArray.zip [Value.bool a,.bool b].toArray) (fun x y=>decide (rkB x.1<rkB y.1)):=fun x y hx hy E Q q=>by rw[keyLt'_oneType];rcases mem x hx with rfl|rfl<;>rcases mem y hy with rfl|rfl<;>dsimp only at q<;>rw[Jtg]at q<;>exact Jhi q
 have od:Tim.Ordr (fun x y:Keyed=>decide (rkB x.1 < rkB y.1)):=⟨fun x y h=>by
   have:=of_decide_eq_true h;exact decide_eq_false (by omega),fun x y z h1 h2=>by
   have h1:=of_decide_eq_false h1;have h2:=of_decide_eq_false h2
   exact decide_eq_false (by omega)⟩
 refine Tim.runs_S (st:=SortSt.mk' oneType' ([Value.bool a,.bool b].toArray.zip [Value.bool a,.bool b].toArray) #[] 7 none) (Q:=fun _ st=>failedOf st=none/\OutB [a,b] ((arrOf st).map (·.2)).toList) od hc (by simp) ⟨rfl,rfl,Array.Perm.refl _⟩ rfl fun st' ok sd=>⟨ok.fail,?_⟩;have pm:((arrOf st').map (·.2)).toList.Perm ([a,b].map Value.bool):=by have:=(Array.perm_iff_toList_perm.mp ok.perm).map (·.2);rw[Array.toList_map];refine this.trans (List.Perm.of_eq ?_);simp[List.map_snd_zip]
 obtain⟨bs',p1,p2⟩:=Uu pm [a,b] rfl;refine⟨bs',p2,p1,?_⟩;have s1:(bs'.map Value.bool).Pairwise fun x y=>decide (rkB y<rkB x)=false:=by rw[<- p2,Array.toList_map];refine List.pairwise_map.mpr (List.Pairwise.imp_of_mem (fun {x y} hx hy h=>?_) sd);have m1:=mem x (ok.perm.mem_iff.mp (Array.mem_toList_iff.mp hx));have m2:=mem y (ok.perm.mem_iff.mp (Array.mem_toList_iff.mp hy));rcases m1 with rfl|rfl<;>rcases m2 with rfl|rfl<;>exact h
 exact(List.pairwise_map.mp s1).imp fun {x y} h=>by rw[Jtg]at h;exact h
end
section
variable{X:Cx}
theorem Jej(hc:X.calm=true):Yd X (.type "set") (fun xs H Q=>∃(a:VB)(bs:List Bool),xs=[.ref a]/\SqL X.K H a (bs.map V.bl)/\∀p (ks:List Bool),H p=none->ks.Nodup->(∀x,x∈ks↔x∈bs)->Q (.ref p) (upd H p (SetB X.prog X.w p ks))):=by intro pins s σ H xs us Q I r h;obtain⟨a,bs,rfl,hq,q⟩:=h;obtain⟨u,rfl,ru⟩:=Ym r;cases ru;obtain⟨its,rv,pl,hz⟩:=I.list hq;refine Jhy (Jal X.prog X.w) (ks:=bs) (I.ok.hd hc) pl.isList (show Paired _ its.toArray.toList bs from Jph rv) (fun _ _=>trivial) fun h2 tk ks' o g2 st mem kp=>?_;have I1:Inv X pins σ H { s with heap:=h2,toks:=tk }:=I.kept kp;have fp:FpOk X pins H s.heap.objs.size:=I.newFp fun b o e=>SQ e;exact⟨.ref s.heap.objs.size,_,I1.adopt (o:=SetB X.prog X.w s.heap.objs.size ks') fp (Jqt g2 st),rfl,q _ ks' fp.1 (let⟨_,_,_,_,_,_,nd,_⟩:=st;nd) mem⟩
theorem QH (hc:X.calm=true):Yd X (.builtin "sorted") (fun xs H Q=>∃ (d:VB) (ks:List Bool),xs=[.ref d]/\H d=some (SetB X.prog X.w d ks) /\
  ∀ (D:VB) (bs:List Bool) (H':Hp),Same H H'->H D=none->H' D=some (.lst (bs.map V.bl))->bs.Perm ks->bs.Pairwise (fun a b=>(!b && a)=false)->Q (.ref D) H'):=by
 intro pins s σ H xs us Q I r h;obtain⟨d,ks,rfl,hd,q⟩:=h;obtain⟨u,rfl,ru⟩:=Ym r;cases ru;obtain⟨⟨o,g,es,ep,t,hx,ed,en,nd,sm,T⟩,_⟩:=I.hok d _ hd;obtain⟨ks2,cW,pW⟩:=QR (Wk.perm X.w d es ep).symm en;have l14:=(Jal X.prog X.w).len ks nd sm;have lz:=lenK en;have sl:(1000000:Nat)<sizeLine:=by decide
 have l2:ks2.length<=2:=by
  have nd2:=pW.nodup_iff.mpr nd
  match ks2,nd2 with
  | [],_=>exact LX _
  | [_],_=>exact (by decide:1<=2)
  | [_,_],_=>exact (by decide:2<=2)
  | a::b::c::r,nd =>
   simp only[List.nodup_cons,List.mem_cons,not_or]at nd;cases a<;>cases b<;>cases c<;>simp at nd
 refine Calls.call_function_entry kind_sorted plain_sorted entry_sorted (args_sorted1 _) ?_;unfold Builtin.«sorted»;refine VL (m:=checkCount "sorted" 1 1 _) (VM ?_);refine VL (PySem.W.kdu_collect (Jqu es ep t T) (I.ok.hd hc) ⟨o,g,hx,ed⟩ (by have:=Jk (n:=es.size) (by omega);omega) fun h' tk acc kp hacc=>?_);have ea:acc.toList=ks2.map Value.bool:=by rw[Jpf (Wk.size X.w d es ep) hacc];exact Jgg cW
 rw[ea];refine VL (wpAny_newList ?_ (by rw[List.length_map];omega));have I0:Inv X pins σ H { s with heap:=h',toks:=tk }:=I.kept kp;have hoL:(h'.push (seqObj "list" (ks2.map Value.bool).toArray 0)).get? h'.objs.size=some (seqObj "list" (ks2.map Value.bool).toArray 0):=VT _ rfl;show wpAny _ _ _ _ _ { s with heap:=h'.push (seqObj "list" (ks2.map Value.bool).toArray 0),toks:=tk };refine VL (wpAny_holding (wpAny_call_entry slot_list_sort ⟨_,hoL,rfl⟩ entry_list_sort (WZ (Out:=OutB ks2) hoL (by rw [List.length_map]; omega) (fun h1=>⟨ks2,rfl,.refl _,?_⟩) (fun o ⟨bs,e,p,_⟩=>by rw [e,List.length_map,List.length_map,p.length_eq])
  (fun h2 t kp=>?_) fun out ho=>⟨_,rfl,?_⟩) (args_list_sort _)))
 ·rw [List.length_map] at h1
  match ks2,h1 with
  | [],_=>exact List.Pairwise.nil
  | [a],_=>exact SV _ _
 ·rw [List.length_map] at h2
  match ks2,h2,l2 with
  | [a,b],_,_=>exact Jqi
 refine VM ⟨_,rfl,?_⟩;have hsz:h'.objs.size<(h'.push (seqObj "list" (ks2.map Value.bool).toArray 0)).objs.size:=by rw[size_push'];exact Nat.lt_succ_self _
 have old:∀b o,h'.get? b=some o->(sortedHeap (h'.push (seqObj "list" (ks2.map Value.bool).toArray 0)) h'.objs.size (ks2.map Value.bool) out).get? b=some o:=fun b o e=>by have hb:=SQ e;rw[sortedHeap_old (Nat.ne_of_lt hb) (Nat.lt_trans hb hsz)];exact VN _ e
 obtain⟨c,hcn⟩:=sortedHeap_at (n:=0) (out:=out) (vs:=ks2.map Value.bool) hoL;obtain⟨bs,e,p,ri⟩:=ho;have I1:Inv X pins σ H { s with heap:=sortedHeap (h'.push (seqObj "list" (ks2.map Value.bool).toArray 0)) h'.objs.size (ks2.map Value.bool) out,toks:=tk }:=I0.kept (t':=tk) old;have fp:FpOk X pins H h'.objs.size:=I0.newFp fun b o e=>SQ e;refine⟨.ref h'.objs.size,_,I1.adopt (o:=.lst (bs.map V.bl)) fp ⟨?_,out.toList,c,by rw[e];exact Jeo bs,by simpa using hcn⟩,rfl,q _ bs _ (Same.upd fp.1) fp.1 Jc (p.trans pW) ri⟩;rw[List.length_map,p.length_eq];omega
end
end L2
namespace L2
open PySem PySem.Calls PySem.Spec PyProof.Rows Builtin Builtin.Str
section
variable{prog:VC}{w:VF}{A:VD}{E:VQ}{s:VP}{x y:Str}{t u:Tok}
end
section
variable{X:Cx}
end
section
variable{X:Cx}{tg:Expr}
end
end L2
namespace PySem
open PySem.Calls PySem.Spec PyProof.Rows
section
variable{prog:VC}{w:VF}{A:VD}{E:VQ}{s:VP}
end
end PySem
namespace PySem
end PySem
namespace L2
open PySem PySem.Calls PySem.Spec PyProof.Rows PySem.AutoSeq1
section
variable{X:Cx}{es:List Expr}{kt:Nat}{tp:Pos}
end
section
variable{K:VG}{g:TG}{tc:TT}{te:TE}{σ:St}{H:Hp}{R:VS->Hp->Prop}
end
section
variable{X:Cx}{es:List Expr}{kt:Nat}{tp:Pos}
end
section
variable{K:VG}{g:TG}{tc:TT}{te:TE}{σ:St}{H:Hp}{R:VS->Hp->Prop}
end
section
variable{X:Cx}{e:Expr}{pos:Pos}{te:TE}
end
section
variable{K:VG}{g:TG}{tc:TT}{te:TE}{σ:St}{H:Hp}{R:VS->Hp->Prop}
end
end L2
namespace L2
open PySem PySem.Calls PySem.Spec PyProof.Rows
section
variable{X:Cx}{e o:Expr}{es:List Expr}{te to:TE}{t:TA}
end
end L2
namespace L2
open PySem PySem.Spec PyProof.Rows
section
variable{P:VC}{w:VF}{A:VD}{p:VB}{a b:Int}{t u v:Tok}
end
section
variable{X:Cx}
end
section
open PySem.SeqAt
open PySem.AutoSeq1 (wpAny_loadPart')
open PySem.MeetsSeq PySem.MeetsSeq2 PySem.MeetsSeq3
end
section
variable{X:Cx}
end
end L2
namespace L2
open PySem PySem.Calls PySem.Spec PyProof.Rows
section
variable{prog:VC}{w:VF}{A:VD}{E:VQ}{s:VP}
end
section
variable{X:Cx}
end
end L2
namespace HT
open PySem PyProof.Rows
def geB(ns ms:VY):Bool:=!Jbb ns ms
theorem Jpn(x y:Int)(xs ys:VY):geB (x::xs) (y::ys)=if x=y then geB xs ys else decide (y<=x):=by
 unfold geB;rw[Jhn];by_cases e:x=y
 ·rw [if_pos e,if_pos e]
 ·rw [if_neg e,if_neg e,Bool.eq_iff_iff];simp
theorem Jni(A:VD)(s:VP)(a:Int)(t:Tok)(c:Int)(u:Tok)(prog:VC)(w:VF)(E:VQ)(Q:VQ)(h:Q (.bool (decide (c<=a))) s) :
  wpAny (model prog w) A (richCompare .GtE (.int a t) (.int c u)) Q E s :=
 (PyProof.Rows.ge_int h:wpAny (model prog w) A (compareOp .GtE (.int a t) (.int c u)) Q E s)
section
open PySem.SeqAt
open PySem.AutoSeq1 (wpAny_loadPart')
open PySem.MeetsSeq PySem.MeetsSeq2 PySem.MeetsSeq3
theorem tuple_ge_ints(l b:VB)(items items2:Array VR)(n n2:Nat)(dd dd2:Option VB)(sl sl2:Array (VH))(ns ms:VY)(hi:IntsAre items.toList ns)(hj:IntsAre items2.toList ms) :
  Meets (Builtin.«tuple.__ge__» ⟨[.ref l,.ref b],[]⟩)
   (fun _ R s=>s.heap.get? l=some { cls:=.type "tuple",dict:=dd,data:=.seq items n,slots:=sl }/\s.heap.get? b=some { cls:=.type "tuple",dict:=dd2,data:=.seq items2 n2,slots:=sl2 } /\
    R (.ok (.ret (.bool (geB ns ms)))) s) :=
 .of_wp fun prog w A R s h=>by
  obtain⟨hp,g,d,tk,os⟩:=s;obtain⟨hl,hb,h⟩:=h;have f2:=AutoSeq1.sub_tuple_tuple;have z1:items.size=ns.length:=by rw[<- hi.length];simp
  have z2:items2.size=ms.length:=by rw[<- hj.length];simp
  wp_walk using wpAny_loadPart' hl,wpAny_loadPart' hb,wpAny_forIn_list _ (fun rest b s'=>b.1=none/\s'=⟨hp,g,d,tk,os⟩/\∃ (vs ws:VU) (ns' ms':VY),rest=vs.zip ws /\
   IntsAre vs ns'/\IntsAre ws ms'/\ns'.length + items2.size=ms'.length + items.size/\R (.ok (.ret (.bool (geB ns' ms')))) ⟨hp,g,d,tk,os⟩) _
  case turn =>
   rintro⟨y,x⟩ rest b s' ⟨hb',rfl,vs,ws,ns',ms',hz,hvi,hwi,hlen,hR⟩;cases hvi with
   | nil=>rw [List.zip_nil_left] at hz; cases hz
   | cons a t hvi' =>
    cases hwi with
    | nil=>rw [List.zip_nil_right] at hz; cases hz
    | cons c u hwi' =>
     rw[List.zip_cons_cons]at hz;injection hz with hyx hrest
     injection hyx with hy hx
     subst hy hx;rw[Jpn]at hR;simp only[List.length_cons]at hlen;obtain⟨e,he,hiff⟩:=Jpy A.in1 ⟨hp,g,d,tk,os⟩ a t c u;refine VL (he prog w _ _ ?_);cases e with
     | true =>
      rw[if_pos (hiff.mp rfl)]at hR;wp_walk;exact⟨rfl,rfl,_,_,_,_,hrest,hvi',hwi',by omega,hR⟩
     | false =>
      rw[if_neg (fun q=>absurd (hiff.mpr q) Bool.false_ne_true)]at hR;have hri:=Jni A.in1 ⟨hp,g,d,tk,os⟩ a t c u prog w;wp_walk using hri;exact⟨_,rfl,by simpa using hR⟩
  case fin =>
   rintro⟨b1,b2⟩ s' ⟨hb',rfl,vs,ws,ns',ms',hz,hvi,hwi,hlen,hR⟩;simp only at hb';subst hb';have hv:geB ns' ms'=decide (items2.size<=items.size):=by
    unfold geB;cases hvi with
    | nil =>
     cases hwi with
     | nil =>
      simp only[List.length_nil]at hlen;rw[Jbw,decide_eq_true (by omega:items2.size<=items.size)];rfl
     | cons c u hw =>
      simp only[List.length_nil,List.length_cons]at hlen;rw[Jaz,decide_eq_false (by omega:¬ items2.size<=items.size)];rfl
    | cons a t hv =>
     cases hwi with
     | nil =>
      simp only[List.length_nil,List.length_cons]at hlen;rw[Jba,decide_eq_true (by omega:items2.size<=items.size)];rfl
     | cons c u hw =>
      rw[List.zip_cons_cons]at hz;cases hz
   rw[hv]at hR;wp_walk;exact⟨_,rfl,by simpa [Builtin.Tuple.tupleCompareSizes]using hR⟩
  case h =>
   exact⟨rfl,rfl,items.toList,items2.toList,ns,ms,rfl,hi,hj,by omega,h⟩
end
end HT
namespace L2
open PySem PySem.Spec PyProof.Rows
section
variable{X:Cx}
def rGeT(K:VG):R2:=fun x y H Q=>∃(p q:VB)(ns ms:VY),x=.ref p/\y=.ref q/\SqT K H p (ns.map V.int)/\SqT K H q (ms.map V.int)/\Q (.bl (HT.geB ns ms)) H
theorem Jur(hu:X.A.units<cLine):OpR X (compareOp .GtE) (rGeT X.K):=by
 intro pins s σ H x y v u Q I rx ry h;obtain⟨p,q,ns,ms,rfl,rfl,ha,hb,k⟩:=h;cases rx;cases ry;obtain⟨its,r1,p1,_⟩:=I.tuple ha;obtain⟨its2,r2,p2,_⟩:=I.tuple hb;obtain⟨⟨cls,dd,data,sl⟩,ho,hc,n,hd⟩:=p1;obtain⟨⟨cls2,dd2,data2,sl2⟩,ho2,hc2,n2,hd2⟩:=p2;simp only at hc hd hc2 hd2;subst hc hd hc2 hd2;exact richCompare_meets_room (op:=.GtE) ⟨_,ho,rfl⟩ ⟨_,ho2,rfl⟩ PySem.F.slot_tuple_ge PySem.F.entry_tuple_ge (PySem.F.args_tuple_ge_2 _ _) (HT.tuple_ge_ints p q _ _ n n2 dd dd2 sl sl2 ns ms (by simpa using Zu r1) (by simpa using Zu r2))
  ⟨ho,ho2,show Value.bool (HT.geB ns ms)≠Value.notImplemented/\EP X pins σ Q (.bool (HT.geB ns ms)) s from⟨(fun x=>nomatch x),.bl (HT.geB ns ms),H,I,rfl,k⟩⟩ hu
end
end L2
namespace L2
open PySem PySem.Calls PySem.Spec PyProof.Rows PySem.W
section
variable{X:Cx}{n:Str}{f:VZ}{e:Expr}{p pos:Pos}{te:TE}
end
section
variable{X:Cx}{CX:CXT}{k:Nat}{fa C:VB}{fd:FuncData}{ps:VJ}{sp:Sp}{E:XK}{n m:Str}{p p2 pos apos:Pos}{e e1 o:Expr}{es:List Expr}{ta te:TE}{t:TA}{f:VZ}
end
end L2
namespace L2
open PySem PySem.Calls PySem.Spec PyProof.Rows
section
variable{X:Cx}
end
end L2
namespace Hk
open PySem L2
def top(i:Nat):Stmt:=PySem.Challenge.pw_holdsets_k30_whole_holds_counted.main.body.getD i (.Pass ⟨0,0,0,0⟩)
abbrev UQ:Stmt:=top 8
abbrev UR:Stmt:=top 9
abbrev Jis:Stmt:=top 10
abbrev Us:Stmt:=top 11
abbrev WA:Stmt:=top 12
abbrev WI:Stmt:=top 13
abbrev Zg:Stmt:=top 14
abbrev Wz:Stmt:=top 15
abbrev Zp:Stmt:=top 16
abbrev Wb:Stmt:=top 17
abbrev Uy:Stmt:=top 18
abbrev WD:Stmt:=top 20
abbrev ZE:Stmt:=top 21
abbrev ZH:Stmt:=top 22
abbrev WE:Stmt:=top 23
abbrev ZL:Stmt:=top 24
abbrev Wg:Stmt:=top 25
abbrev Ur:Stmt:=top 27
abbrev ZF:Stmt:=top 28
abbrev Qv:Stmt:=top 29
abbrev YT:Stmt:=top 30
abbrev Uz:Stmt:=top 31
abbrev YF:Stmt:=top 34
abbrev Yi:Stmt:=top 35
abbrev ZZ:Stmt:=top 36
abbrev Wd:Stmt:=top 37
abbrev ZM:Stmt:=top 38
abbrev Ye:Stmt:=top 39
abbrev Wh:Stmt:=top 40
abbrev Yq:Stmt:=top 41
abbrev WF:Stmt:=top 42
abbrev WH:Stmt:=top 44
abbrev WJ:Stmt:=top 45
abbrev ZJ:Stmt:=top 46
abbrev UB:Stmt:=top 47
abbrev Qu:Stmt:=top 48
abbrev WC:Stmt:=top 49
abbrev ZG:Stmt:=top 50
abbrev ZK:Stmt:=top 51
abbrev Wc:Stmt:=top 52
abbrev WG:Stmt:=top 53
abbrev UC:Stmt:=top 54
abbrev Zq:Stmt:=top 56
abbrev UA:Stmt:=top 57
abbrev Wa:Stmt:=top 58
abbrev Zh:Stmt:=top 59
abbrev ZI:Stmt:=top 61
abbrev UD:Stmt:=top 62
abbrev Wf:Stmt:=top 63
abbrev UE:Stmt:=top 64
abbrev We:Stmt:=top 65
abbrev Zi:Stmt:=top 66
abbrev YU:Stmt:=top 67
abbrev YJ:Stmt:=top 68
abbrev Yv:Stmt:=top 69
abbrev Jap:Stmt:=top 70
section
variable{P:VC}{w:VF}{K:VG}{mg:VZ}{base:Heap}
def Jdi:Sp:=fun vs H Q _=>∃x T,vs=[x]/\Dat H x T/\Q (.bl (isI x)) H
theorem Jor(D:DefAt K mg "whole_good" UQ ["thing"])(fr:Free mg ["isinstance","int","bool"]):Kn P w K mg base 1 "whole_good" ["thing"] Jdi:=by
 refine D.kn (N:=["thing"]) ⟨rfl,rfl,rfl,by decide +kernel,rfl,by decide +kernel,by decide +kernel⟩ (fun vs H Q E h=>?_) (fun f cdv A outer s H vs Q E hr h=>?_)
 ·obtain ⟨x,T,rfl,_⟩:=h;rfl
 ·obtain ⟨x,T,rfl,d,k⟩:=h;have m1:=fr "isinstance" (by simp);have m2:=fr "int" (by simp);have m3:=fr "bool" (by simp);refine ⟨_,Je (Ji (Yw (Jm Zf rfl m1 YR (Ja (pv 0) (Ja (Zn (v:=.ty "int") rfl m2 Uj rfl) Jb)))
   (YN (Juo (Jm Zf rfl m1 YR (Ja (pv 0) (Ja (Zn (v:=.ty "bool") rfl m3 Jbr rfl) Jb))))))),?_⟩
  refine⟨x,rfl,x,"int",T,rfl,d,by simp,_,rfl,ite2 (fun h1=>?_) (fun h1=>?_)⟩
  ·refine ⟨x,rfl,x,"bool",T,rfl,d,by simp,_,rfl,?_⟩;cases d<;>first|exact k|exact absurd h1 (by decide)
  ·cases d <;> first | exact k | exact absurd (by decide) h1
def UO:Sp:=fun vs H Q _=>∃a m y x T,vs=[.ref a,x]/\H a=some (.tup [.int m,y])/\Dat H x T/\Q (.bl (plG m x)) H
theorem Joz(D:DefAt K mg "place_good" UR ["web","thing"])(kw:Kn P w K mg base 1 "whole_good" ["thing"] Jdi):Kn P w K mg base 2 "place_good" ["web","thing"] UO:=by
 refine D.kn (N:=["web","thing"]) ⟨rfl,rfl,rfl,by decide +kernel,rfl,by decide +kernel,by decide +kernel⟩ (fun vs H Q E h=>?_) (fun f cdv A outer s H vs Q E hr h=>?_)
 ·obtain ⟨a,m,y,x,T,rfl,_⟩:=h;rfl
 ·obtain ⟨a,m,y,x,T,rfl,ha,d,k⟩:=h;refine⟨_,Je (Ji (Yw (Jl kw hr (Ja (pv 1) Jb)) (YN (Jnw Jtj QU Jf (pv 1) (Jv Jz (pv 0) Jf (fun _ _=>rfl)))))),?_⟩;refine⟨x,rfl,x,T,rfl,d,_,rfl,?_⟩;cases d with
  | int i =>
   refine iteT ?_;refine⟨_,rfl,_,_,rfl,rfl,_,rfl,ite2 (fun h1=>?_) (fun h1=>?_)⟩
   ·refine ⟨_,rfl,a,_,_,_,rfl,rfl,SqT.of ha,rfl,_,_,rfl,rfl,?_⟩;have e:plG m (.int i)=decide (i<m):=by simp[plG,of_decide_eq_true h1]
    rw[e]at k;exact k
   ·have e:plG m (.int i)=false:=by
     have h1:¬ 0<=i:=by simpa using h1
     simp[plG,h1]
    rw[e]at k;exact k
  | _=>exact iteF k
def Jik:Sp:=fun vs H Q _=>∃(a:VB)(ns:VY),vs=[.ref a]/\H a=some (.tup (ns.map V.int))/\ns.length<=sizeLine/\∀H',Same H H'->Q (.bl (Zj ns)) H'
theorem Jov(D:DefAt K mg "rises" Jis ["things"])(fr:Free mg ["all","zip"]):Kn P w K mg base 1 "rises" ["things"] Jik:=by
 refine D.kn (N:=["things"]) ⟨rfl,rfl,rfl,by decide +kernel,rfl,by decide +kernel,by decide +kernel⟩ (fun vs H Q E h=>?_) (fun f cdv A outer s H vs Q E hr h=>?_)
 ·obtain ⟨a,ns,rfl,_⟩:=h;rfl
 ·obtain ⟨a,ns,rfl,ha,hz,k⟩:=h;have m1:=fr "all" (by simp);have m2:=fr "zip" (by simp);have nd:(["ahead","behind"]:VJ).Nodup:=by decide +kernel
  refine ⟨_,Je (Ji (Jm (Yc rfl) rfl m1 Yh (Ja (Yb (N:=["ahead","behind"]) (src:=[none,none]) (cl:=[]) rfl ⟨rfl,rfl,rfl,rfl,trivial,rfl,rfl,rfl⟩ (Jcq (i:=0) (j:=1) rfl rfl)
   (Jum rfl m2 (Ja (pv 0) (Ja (Zd UP (pv 0) (Zm Jf) Wj) Jb)))
   (fun C s H fp=>⟨Qw (n:=2) rfl (Yf (Jp (i:=0) nd rfl (Or.inl rfl)) (Yf (Jp (i:=1) nd rfl (Or.inl rfl)) Ub)),JC,JK QU (pv 0) (pv 1) (Jn _)⟩)) Jb))),?_⟩
  refine⟨_,rfl,_,rfl,_,rfl,a,_,rfl,ha,fun p H1 s1 hp=>?_⟩;rw[cut1]at hp;refine⟨a,p,_,_,rfl,s1 _ _ ha,hp,Jjk (xs:=ns.map V.int) (ys:=(ns.drop 1).map V.int) ?_ (fun i zs H'=>Same H1 H'/\zs=((ns.zip (ns.drop 1)).take i).map fun q=>V.bl (decide (q.1<q.2))) ⟨Same.refl _,rfl⟩ ?_ ?_ ?_⟩
  ·rw [List.length_map,List.length_map,List.length_drop];omega
  ·rintro i zs H' hi ⟨s2,rfl⟩;refine⟨s2 _ _ (s1 _ _ ha),s2 _ _ hp,?_⟩;rw[List.length_map,List.length_take,List.length_zip];omega
  ·rintro zs H' ⟨s2,rfl⟩ l hl;refine⟨l,((ns.zip (ns.drop 1)).map fun q=>decide (q.1<q.2)),rfl,SqL.of ?_,?_⟩
   ·rw [Jc,List.length_map,List.take_of_length_le (by simp),List.map_map];rfl
   ·rw [Jcf];exact k _ ((s1.trans s2).trans (Same.upd hl))
  ·rintro i v u zs H' q h1 h2 hi ⟨s2,rfl⟩ hq;rw[List.getElem?_map]at h1 h2;obtain⟨x,e1,rfl⟩:=SX.mp h1;obtain⟨y,e2,rfl⟩:=SX.mp h2;refine⟨q,_,rfl,SqT.of Jc,rfl,_,_,rfl,_,_,rfl,rfl,?_⟩;refine⟨_,rfl,_,rfl,_,_,rfl,rfl,nx hi ⟨s2.trans (Same.upd hq),?_⟩⟩;rw[Jx (ns.zip (ns.drop 1)) i (x,y) (by rw[List.getElem?_zip_eq_some];exact⟨e1,e2⟩),List.map_append];rfl
def Jeu:Sp:=fun vs H Q _=>∃a m y x o,vs=[.ref a,x]/\H a=some (.tup [.int m,y])/\Thing H x o/\∀H',Same H H'->Q (.bl (plsG m o)) H'
theorem Jlp(D:DefAt K mg "places_good" Us ["web","thing"])(fr:Free mg ["isinstance","tuple","all"])(kp:Kn P w K mg base 2 "place_good" ["web","thing"] UO)(kr:Kn P w K mg base 1 "rises" ["things"] Jik) :
  Kn P w K mg base 3 "places_good" ["web","thing"] Jeu:=by
 refine D.kn (N:=["web","thing"]) ⟨rfl,rfl,rfl,by decide +kernel,rfl,by decide +kernel,by decide +kernel⟩ (fun vs H Q E h=>?_) (fun f cdv A outer s H vs Q E hr h=>?_)
 ·obtain ⟨a,m,y,x,o,rfl,_⟩:=h;rfl
 ·obtain ⟨a,m,y,x,o,rfl,ha,th,k⟩:=h;have m1:=fr "isinstance" (by simp);have m2:=fr "tuple" (by simp);have m3:=fr "all" (by simp);have nd:(["place","web"]:VJ).Nodup:=by decide +kernel
  refine ⟨_,Jd (JA (Yj (JM (Jm Zf rfl m1 YR (Ja (pv 1) (Ja (Zn (v:=.ty "tuple") rfl m2 JE rfl) Jb))))) (Je (Ji JG)) Jt)
   (Je (Ji (Yw (Jm (Yc rfl) rfl m3 Yh (Ja (Yb (N:=["place","web"]) (src:=[none,some 0]) rfl ⟨rfl,rfl,rfl,rfl,⟨⟨rfl,rfl⟩,trivial⟩,rfl,rfl,rfl⟩ (Js (i:=0) rfl)
    (Wl (pv 1)) (fun C s H fp=>⟨Jp (i:=0) nd rfl (Or.inl rfl),JC,Jl kp hr (Ja (pv 1) (Ja (pv 0) Jb))⟩)) Jb))
    (YN (Jl kr (hr.mono (by decide)) (Ja (pv 1) Jb)))))),?_⟩
  cases th with
  | oth d n =>
   refine⟨_,rfl,_,"tuple",_,rfl,d,by simp,_,rfl,?_⟩;rename_i T;have e:kitB T "tuple"=false:=by unfold kitB;simp[n]
   rw[e];exact iteT (k H (Same.refl H))
  | tup hp ty z =>
   refine⟨_,rfl,_,"tuple",_,rfl,.tup hp,by simp,_,rfl,iteF ?_⟩;rename_i p ys;refine⟨_,rfl,p,rfl,⟨ys,SqT.of hp⟩,Jdz (xs:=ys) (fun i zs H'=>Same H H'/\zs=(ys.take i).map fun q=>V.bl (plG m q)) ⟨Same.refl _,rfl⟩ ?_ ?_ ?_⟩
   ·rintro i zs H' hi ⟨s2,rfl⟩;refine⟨SqT.of (s2 _ _ hp),?_⟩;rw[List.length_map,List.length_take];omega
   ·rintro zs H' ⟨s2,rfl⟩ l hl;refine⟨l,ys.map (plG m),rfl,SqL.of ?_,?_⟩
    ·rw [Jc,List.take_of_length_le (Nat.le_refl _),List.map_map];rfl
    ·refine ⟨_,rfl,ite2 (fun h1=>?_) (fun h1=>?_)⟩
     ·have h2:ys.all (plG m)=true:=by simpa using h1
      have e:=WS h2;have e2:plsG m (some ys)=Zj (JO ys):=by show(ys.all (plG m)&&Zj (JO ys))=_;rw[h2];rfl
      refine⟨_,rfl,p,JO ys,rfl,?_,?_,fun H3 s3=>?_⟩
      ·rw [Jj (Jg (s2 _ _ hp) hl),s2 _ _ hp,<- e]
      ·rw [e,List.length_map] at z;exact z
      ·rw [<- e2];exact k _ ((s2.trans (Same.upd hl)).trans s3)
     ·have h2:plsG m (some ys)=false:=by
       show(ys.all (plG m)&&Zj (JO ys))=_;have:ys.all (plG m)=false:=by simpa using h1
       rw[this];rfl
      rw[<- h2];exact k _ (s2.trans (Same.upd hl))
   ·rintro i x zs H' h1 hi ⟨s2,rfl⟩;obtain⟨T,d⟩:=ty x (SK h1);refine⟨_,rfl,_,rfl,a,m,y,x,T,rfl,s2 _ _ ha,d.mono s2,nx hi ⟨s2,?_⟩⟩;rw[Jx _ _ _ h1,List.map_append];rfl
theorem Yp{n:Nat}(h:n<=100000):n<sizeLine:=Nat.lt_of_le_of_lt h (by decide)
def MK(kvs:List (Key×V))(l:VY):Prop:=∀n:Int,(valV kvs (Sum.inl n)).isSome=decide (n∈l)
theorem MK.put{kvs:List (Key×V)}{l:VY}(h:MK kvs l)(k:Int)(v:V):MK (putK kvs (Sum.inl k) v) (l++[k]):=fun n=>by
 rw[UK];by_cases e:n=k
 ·subst e;simp
 ·have e':¬ (Sum.inl n:Key)=Sum.inl k:=fun z=>e (Sum.inl.inj z);rw[if_neg e',h n];simp[e]
def Jak:Sp:=fun vs H Q _=>∃(p:VB)(ns:VY),vs=[.ref p]/\H p=some (.tup (ns.map V.int))/\ns.length<=1000/\∀(d:VB)(kvs:List (Key×V))(H':Hp),Same H H'->H d=none->H' d=some (.dK kvs)->MK kvs ns->kvs.length<=ns.length->Q (.ref d) H'
theorem Jlr(D:DefAt K mg "marked" WD ["places"]):Kn P w K mg base 1 "marked" ["places"] Jak:=by
 have sc:FnScope ["places","marks","place"] ["places"] (Jh WD):=⟨rfl,rfl,rfl,by decide +kernel,rfl,by decide +kernel,by decide +kernel⟩;refine D.kn (N:=["places","marks","place"]) sc (fun vs H Q E h=>?_) (fun f cdv A outer s H vs Q E hr h=>?_)
 ·obtain ⟨p,ns,rfl,_⟩:=h;rfl
 ·obtain ⟨p,ns,rfl,hp,hz,k⟩:=h;have hu:=YI hr;refine⟨_,Jd (Jr (i:=1) sc.nd rfl (Or.inl rfl) UT) (Jd (YL PassesOwn.never rfl (Wl (pv 0)) (Jp (i:=2) sc.nd rfl (Or.inl rfl)) (Je (Zx hu (pv 1) (pv 2) JG rfl))) (Je (Ji (pv 1)))),?_⟩;intro d hd;have hp1:(upd H d (.dK [])) p=some (.tup (ns.map V.int)):=by rw[Jj (Jg hp hd)];exact hp
  refine ⟨_,rfl,p,rfl,⟨_,SqT.of hp1⟩,Qh (K:=K) (xs:=ns.map V.int) (fun i σ H2=>∃ (kvs:List (Key×V)) (v:Option V),σ=[some (.ref p),some (.ref d),v]/\Same H H2/\H2 d=some (.dK kvs)/\MK kvs (ns.take i)/\kvs.length<=i)
   ⟨[],none,rfl,Same.upd hd,Jc,fun n=>by simp [valV],SJ _⟩ (fun i σ H2 _ ⟨_,_,_,s2,_⟩=>SqT.of (s2 _ _ hp)) ?_ ?_⟩
  ·rintro i y σ H2 hi ⟨kvs,v,rfl,s2,hd2,mk,hl⟩;rw[List.getElem?_map]at hi;obtain⟨x,e1,rfl⟩:=SX.mp hi;have hil:i<ns.length:=(SY.mp e1).1;refine⟨_,rfl,_,rfl,d,_,rfl,DPut.k (k:=Sum.inl x) hd2 (Jk (by omega)),?_⟩;refine⟨_,_,rfl,fun b o e=>?_,Jc,?_,LQ (YH _ _ _) (Nat.succ_le_succ hl)⟩
   ·rw [Jj (Jg e hd)];exact s2 _ _ e
   ·rw [Jx _ _ _ e1];exact mk.put x _
  ·rintro σ H2 ⟨kvs,v,rfl,s2,hd2,mk,hl⟩;rw[List.length_map]at mk hl;rw[List.take_of_length_le (Nat.le_refl _)]at mk;exact⟨_,rfl,k d kvs H2 s2 hd hd2 mk hl⟩
def both(ns:VY)(q:Int×Int):Bool:=decide (q.1∈ns)&&decide (q.2∈ns)
def Jgw:Sp:=fun vs H Q _=>∃(a t:VB)(m:Int)(us:VS)(ars:VX)(p:VB)(ns:VY),vs=[.ref a,.ref p]/\Web H a t m us ars/\H p=some (.tup (ns.map V.int))/\ns.length<=1000 /\
 ∀(l:VB)(ws:VS)(H':Hp),Same H H'->H' l=some (.lst ws)->Ars H' ws (ars.filter (both ns))->Q (.ref l) H'
theorem Yx{H:Hp}{us:VS}{ars:VX}(h:Ars H us ars):us.length=ars.length:=Paired.length h
theorem JJ{α:Type}(f:α->Bool)(l:List α)(i:Nat)(x:α)(h:l[i]?=some x):(l.take (i+1)).filter f=(l.take i).filter f++(if f x=true then[x] else[]):=by rw[Jx _ _ _ h,List.filter_append,List.filter_cons,List.filter_nil]
theorem Jrz(D:DefAt K mg "tied_arrows" ZE ["web","places"])(km:Kn P w K mg base 1 "marked" ["places"] Jak):Kn P w K mg base 2 "tied_arrows" ["web","places"] Jgw:=by
 have sc:FnScope ["web","places","inside"] ["web","places"] (Jh ZE):=⟨rfl,rfl,rfl,by decide +kernel,rfl,by decide +kernel,by decide +kernel⟩;refine D.kn (N:=["web","places","inside"]) sc (fun vs H Q E h=>?_) (fun f cdv A outer s H vs Q E hr h=>?_)
 ·obtain ⟨a,t,m,us,ars,p,ns,rfl,_⟩:=h;rfl
 ·obtain ⟨a,t,m,us,ars,p,ns,rfl,W,hp,hz,k⟩:=h;have hu:=YI hr;have nd:(["arrow","inside"]:VJ).Nodup:=by decide +kernel
  refine ⟨_,Jd (Jr (i:=2) sc.nd rfl (Or.inr rfl) (Jl km hr (Ja (pv 1) Jb)))
   (Je (Ji (Yb (N:=["arrow","inside"]) (src:=[none,some 2]) rfl ⟨rfl,rfl,rfl,rfl,⟨⟨rfl,rfl⟩,trivial⟩,rfl,rfl,rfl⟩ (Js (i:=0) rfl) (Wl (Jv Jz (pv 0) Jf (fun _ _=>rfl)))
    (fun C s H fp=>⟨Jp (i:=0) nd rfl (Or.inl rfl),JW (PW.pt (Wi (UG (Qx hu (Jv (r:=rIxT K) Jz (pv 0) Jf (fun _ _=>rfl)) (pv 1))) (Zl (UG (Qx hu (Jv (r:=rIxT K) Jz (pv 0) Jf (fun _ _=>rfl)) (pv 1)))))),pv 0⟩)))),?_⟩
  refine⟨_,rfl,p,ns,rfl,hp,hz,fun d kvs H1 s1 hd hd1 mk hl=>?_⟩;have W1:=W.mono s1;have lu:=Yx W.ars;refine⟨_,rfl,a,_,_,_,rfl,rfl,SqT.of W1.top,rfl,t,rfl,⟨_,SqT.of W1.arr⟩,Jon (xs:=us) (fun i zs H'=>Same H1 H'/\Ars H1 zs ((ars.take i).filter (both ns))) ⟨Same.refl _,.nil⟩ ?_ ?_ ?_⟩
  ·rintro i zs H' hi ⟨s2,hz'⟩;refine⟨SqT.of (s2 _ _ W1.arr),?_⟩;have:=Yx hz';have h2:((ars.take i).filter (both ns)).length<=(ars.take i).length:=SU _ _;rw[List.length_take]at h2;have h3:=W.len;exact SZ (Jk (by omega))
  ·rintro zs H' ⟨s2,hz'⟩ l hl';rw[lu,List.take_of_length_le (Nat.le_refl _)]at hz';exact k l zs _ ((s1.trans s2).trans (Same.upd hl')) Jc (hz'.mono (s2.trans (Same.upd hl')))
  ·rintro i x zs H' h1 hi ⟨s2,hz'⟩;obtain⟨q,e1,r,rfl,hr'⟩:=Paired.get' W1.ars h1;have g1:DGet H' d (.int q.1) (valV kvs (Sum.inl q.1)):=DGet.k (k:=Sum.inl q.1) (s2 _ _ hd1);have g2:DGet H' d (.int q.2) (valV kvs (Sum.inl q.2)):=DGet.k (k:=Sum.inl q.2) (s2 _ _ hd1);refine⟨_,rfl,r,_,_,_,rfl,rfl,SqT.of (s2 _ _ hr'),rfl,_,rfl,d,_,rfl,g1,_,rfl,?_⟩;rw[mk q.1];have fin:∀b:Bool,both ns q=b->if b=true then ∃m',m'<us.length-i/\Wn us.length (fun i zs H'=>Same H1 H'/\Ars H1 zs ((ars.take i).filter (both ns))) (i+1) m' (zs++[.ref r]) H' else ∃m',m'<us.length-i/\Wn us.length (fun i zs H'=>Same H1 H'/\Ars H1 zs ((ars.take i).filter (both ns))) (i+1) m' zs H':=by
    intro b hb;cases b with
    | true =>
     refine iteT (nx hi ⟨s2,?_⟩);rw[JJ _ _ _ _ e1,if_pos hb];exact Paired.snoc hz' ⟨r,rfl,hr'⟩
    | false =>
     refine iteF (nx hi ⟨s2,?_⟩);rw[JJ _ _ _ _ e1,if_neg (by rw[hb];decide),List.append_nil];exact hz'
   refine ite2 (fun h2=>?_) (fun h2=>?_)
   ·refine ⟨_,rfl,r,_,_,_,rfl,rfl,SqT.of (s2 _ _ hr'),rfl,_,rfl,d,_,rfl,g2,_,rfl,?_⟩;rw[mk q.2];have:=fin (decide (q.2∈ns)) (by unfold both;rw[h2];rfl);refine ite2 (fun h3=>?_) (fun h3=>?_)
    ·rw [if_pos h3] at this;exact⟨_,rfl,this⟩
    ·rw [if_neg h3] at this;exact this
   ·have:=fin false (by unfold both; rw [Bool.eq_false_iff.mpr h2]; rfl);exact this
def Yl(ars:VX)(ns:VY)(k:Int):Bool:=decide (k∈ns)||ars.any fun q=>decide (q.1=k)&&decide (q.2∈ns)
def Jq(m:Int)(ars:VX)(ns:VY):VY:=((List.range m.toNat).map fun(k:Nat)=>(k:Int)).filter fun k=>!Yl ars ns k
def HK(kvs:List (Key×V))(ars:VX)(ns:VY):Prop:=∀n:Int,(valV kvs (Sum.inl n)).isSome=Yl ars ns n
def Jnb:Sp:=fun vs H Q _=>∃(a t:VB)(m:Int)(us:VS)(ars:VX)(p:VB)(ns:VY),vs=[.ref a,.ref p]/\Web H a t m us ars/\H p=some (.tup (ns.map V.int))/\ns.length<=1000 /\
 ∀(l:VB)(H':Hp),Same H H'->H' l=some (.lst ((Jq m ars ns).map V.int))->Q (.ref l) H'
theorem Jbj(ars:VX)(ns:VY)(q:Int×Int)(k:Int):Yl (ars++[q]) ns k=(Yl ars ns k||(decide (q.1=k)&&decide (q.2∈ns))):=by unfold Yl;rw[List.any_append,Bool.or_assoc];simp
theorem Jse(D:DefAt K mg "lost_places" ZH ["web","places"])(fr:Free mg ["dict","range"])(km:Kn P w K mg base 1 "marked" ["places"] Jak):Kn P w K mg base 2 "lost_places" ["web","places"] Jnb:=by
 have sc:FnScope ["web","places","inside","held","a","b"] ["web","places"] (Jh ZH):=⟨rfl,rfl,rfl,by decide +kernel,rfl,by decide +kernel,by decide +kernel⟩;refine D.kn (N:=["web","places","inside","held","a","b"]) sc (fun vs H Q E h=>?_) (fun f cdv A outer s H vs Q E hr h=>?_)
 ·obtain ⟨a,t,m,us,ars,p,ns,rfl,_⟩:=h;rfl
 ·obtain ⟨a,t,m,us,ars,p,ns,rfl,W,hp,hz,k⟩:=h;have hu:=YI hr;have m1:=fr "dict" (by simp);have m2:=fr "range" (by simp);have nd:(["place","held"]:VJ).Nodup:=by decide +kernel
  refine ⟨_,Jd (Jr (i:=2) sc.nd rfl (Or.inl rfl) (Jl km hr (Ja (pv 1) Jb)))
   (Jd (Jr (i:=3) sc.nd rfl (Or.inr rfl) (JN Jek rfl m1 Jhz (Ja (pv 2) Jb)))
   (Jd (YL PassesOwn.never rfl (Wl (Jv Jz (pv 0) Jf (fun _ _=>rfl))) (Qw (n:=2) rfl (Yf (Jp (i:=4) sc.nd rfl (Or.inl rfl)) (Yf (Jp (i:=5) sc.nd rfl (Or.inl rfl)) Ub)))
    (Je (JA (UG (Qx hu (pv 5) (pv 2))) (Je (Zx hu (pv 3) (pv 4) JG rfl)) Jt)))
   (Je (Ji (Yb (N:=["place","held"]) (src:=[none,some 3]) rfl ⟨rfl,rfl,rfl,rfl,⟨⟨rfl,rfl⟩,trivial⟩,rfl,rfl,rfl⟩ (Js (i:=0) rfl) (JV rfl m2 (Ja (Jv Jz (pv 0) Jf (fun _ _=>rfl)) Jb))
    (fun C s H fp=>⟨Jp (i:=0) nd rfl (Or.inl rfl),JW (UG (Uc hu (pv 0) (pv 1))),pv 0⟩)))))),?_⟩
  refine⟨_,rfl,p,ns,rfl,hp,hz,fun d kvs H1 s1 hd hd1 mk hl=>?_⟩;refine⟨_,rfl,d,kvs,rfl,hd1,fun e he=>?_⟩;have s1':Same H1 (upd H1 e (.dK kvs)):=Same.upd he;have s0:=s1.trans s1';have W1:=W.mono s0;have lu:=Yx W.ars;have ned:e≠d:=fun z=>by rw[z,hd1]at he;cases he
  refine ⟨_,rfl,a,_,_,_,rfl,rfl,SqT.of W1.top,rfl,t,rfl,⟨_,SqT.of W1.arr⟩,Qh (K:=K) (xs:=us) (fun i σ H2=>∃ (kv2:List (Key×V)) (v1 v2:Option V),σ=[some (.ref a),some (.ref p),some (.ref d),some (.ref e),v1,v2]/\Same H1 H2/\H2 e=some (.dK kv2)/\HK kv2 (ars.take i) ns/\kv2.length<=1000 + i)
   ⟨kvs,none,none,rfl,s1',Jc,fun n=>?_,?_⟩ (fun i σ H2 _ ⟨_,_,_,_,s2,_⟩=>SqT.of (s2 _ _ (s1 _ _ W.arr))) ?_ ?_⟩
  ·rw [mk n];unfold Yl;simp
  ·omega
  ·rintro i y σ H2 hi ⟨kv2,v1,v2,rfl,s2,he2,hk,hl2⟩;obtain⟨q,e1,r,rfl,hr'⟩:=Paired.get' W1.ars hi;have hr2:H2 r=some (.tup [.int q.1,.int q.2]):=by
    obtain⟨q',e1',r',er,hr''⟩:=Paired.get' (W.mono s1).ars hi;cases er;rw[e1]at e1';cases e1';exact s2 _ _ hr''
   have hil:i<us.length:=(SY.mp hi).1;have hlu:=W.len;refine⟨r,_,rfl,SqT.of hr2,rfl,_,_,rfl,_,_,rfl,rfl,?_⟩;have g1:DGet H2 d (.int q.2) (valV kvs (Sum.inl q.2)):=DGet.k (k:=Sum.inl q.2) (s2 _ _ hd1);refine⟨_,rfl,_,rfl,d,_,rfl,g1,_,rfl,?_⟩;rw[mk q.2];refine ite2 (fun h2=>?_) (fun h2=>?_)
   ·refine ⟨_,rfl,_,rfl,e,_,rfl,DPut.k (k:=Sum.inl q.1) he2 (Yp (by omega)),?_⟩;refine⟨_,_,_,rfl,fun b o eb=>?_,Jc,fun n=>?_,LQ (YH _ _ _) (by omega)⟩
    ·rw [Jj (Jg eb he)];exact s2 _ _ eb
    ·rw [UK,Jx _ _ _ e1,Jbj,h2];by_cases en:n=q.1
     ·subst en;simp
     ·have en':¬ (Sum.inl n:Key)=Sum.inl q.1:=fun z=>en (Sum.inl.inj z);rw[if_neg en',hk n];simp[Ne.symm en]
   ·refine ⟨kv2,_,_,rfl,s2,he2,fun n=>?_,by omega⟩;rw[Jx _ _ _ e1,Jbj,Bool.eq_false_iff.mpr h2,hk n];simp
  ·rintro σ H2 ⟨kv2,v1,v2,rfl,s2,he2,hk,hl2⟩;rw[lu,List.take_of_length_le (Nat.le_refl _)]at hk;have hm:=W.mb;refine⟨_,rfl,a,_,_,_,rfl,rfl,SqT.of (s2 _ _ (s1 _ _ W.top)),rfl,m,rfl,by omega,by omega,ZX (fun i zs H'=>Same H2 H'/\zs=((((List.range m.toNat).map fun(k:Nat)=>(k:Int)).take i).filter fun k=>!Yl ars ns k).map V.int) ⟨Same.refl _,rfl⟩ ?_ ?_ ?_⟩
   ·rintro i zs H' hi ⟨s3,rfl⟩;have h2:=SU (fun k=>!Yl ars ns k) (((List.range m.toNat).map fun(k:Nat)=>(k:Int)).take i);rw[List.length_take,List.length_map,List.length_range]at h2;rw[List.length_map];exact SZ (Jk (by omega))
   ·rintro zs H' ⟨s3,rfl⟩ l hl';rw[List.take_of_length_le (by simp)];exact k l _ (((s1.trans s2).trans s3).trans (Same.upd hl')) Jc
   ·rintro i zs H' hi ⟨s3,rfl⟩;have e1:((List.range m.toNat).map fun(k:Nat)=>(k:Int))[i]?=some (0+(i:Int)):=by simp[hi]
    have g1:DGet H' e (.int (0+(i:Int))) (valV kv2 (Sum.inl (0+(i:Int)))):=DGet.k (k:=Sum.inl (0+(i:Int))) (s3 _ _ he2);refine⟨_,rfl,_,rfl,e,_,rfl,g1,_,rfl,?_⟩;rw[hk];refine ite2 (fun h2=>?_) (fun h2=>?_)
    ·refine ⟨_,rfl,nx hi ⟨s3,?_⟩⟩;rw[JJ _ _ _ _ e1,if_pos h2,List.map_append];rfl
    ·refine nx hi ⟨s3,?_⟩;rw[JJ _ _ _ _ e1,if_neg h2,List.append_nil]
def hgM(m:Int)(ars:VX)(o:Option (VS)):Bool:=plsG m o&&match o with
 | none=>false
 | some ys=>(ars.filter (both (JO ys))).isEmpty && (Jq m ars (JO ys)).isEmpty
def Jgx:Sp:=fun vs H Q _=>∃(a t:VB)(m:Int)(us:VS)(ars:VX)(x:V)(o:Option (VS)),vs=[.ref a,x]/\Web H a t m us ars/\Thing H x o/\(∀ys,o=some ys->ys.length<=1000)/\∀H',Same H H'->Q (.bl (hgM m ars o)) H'
theorem Jsf(D:DefAt K mg "hold_good" WE ["web","thing"])(kp:Kn P w K mg base 3 "places_good" ["web","thing"] Jeu)(kt:Kn P w K mg base 2 "tied_arrows" ["web","places"] Jgw)(kl:Kn P w K mg base 2 "lost_places" ["web","places"] Jnb) :
  Kn P w K mg base 4 "hold_good" ["web","thing"] Jgx:=by
 have sc:FnScope ["web","thing"] ["web","thing"] (Jh WE):=⟨rfl,rfl,rfl,by decide +kernel,rfl,by decide +kernel,by decide +kernel⟩;refine D.kn (N:=["web","thing"]) sc (fun vs H Q E h=>?_) (fun f cdv A outer s H vs Q E hr h=>?_)
 ·obtain ⟨a,t,m,us,ars,x,o,rfl,_⟩:=h;rfl
 ·obtain ⟨a,t,m,us,ars,x,o,rfl,W,th,hz,k⟩:=h;have hu:_<cLine:=hr.units0;refine ⟨_,Je (Ji (Yw (Jl kp hr (Ja (pv 0) (Ja (pv 1) Jb))) (Yw (JK (WO hu) (Jl kt (hr.mono (by decide)) (Ja (pv 0) (Ja (pv 1) Jb))) (JP Jb) (Jn _))
   (YN (JK (WO hu) (Jl kl (hr.mono (by decide)) (Ja (pv 0) (Ja (pv 1) Jb))) (JP Jb) (Jn _)))))),?_⟩
  refine⟨_,rfl,_,rfl,a,m,_,x,o,rfl,W.top,th,fun H1 s1=>⟨_,rfl,ite2 (fun h1=>?_) (fun h1=>?_)⟩⟩
  ·cases th with
   | oth d n=>exact absurd h1 (by simp [plsG])
   | tup hp ty z =>
    rename_i p ys;have h1':(ys.all (plG m)&&Zj (JO ys))=true:=h1;rw[Bool.and_eq_true]at h1';have e:=WS h1'.1;have hz1:=hz ys rfl;have hzz:(JO ys).length<=1000:=by rw[e,List.length_map]at hz1;exact hz1
    rw[e]at hp;have hg:hgM m ars (some ys)=((ars.filter (both (JO ys))).isEmpty&&(Jq m ars (JO ys)).isEmpty):=by unfold hgM;rw[h1];rfl
    refine⟨_,rfl,_,rfl,a,t,m,us,ars,p,JO ys,rfl,W.mono s1,s1 _ _ hp,hzz,fun l ws H2 s2 hl ha=>?_⟩;refine⟨LX _,fun l0 hl0=>?_⟩;have n0:l≠l0:=Jg hl hl0;have ew:ws.isEmpty=(ars.filter (both (JO ys))).isEmpty:=by
     have:=Yx ha;cases ws with
     | nil=>cases q:ars.filter (both (JO ys)) with
      | nil=>rfl
      | cons _ _=>rw [q] at this; cases this
     | cons _ _=>cases q:ars.filter (both (JO ys)) with
      | nil=>rw [q] at this; cases this
      | cons _ _=>rfl
    refine⟨l,l0,ws,rfl,rfl,SqL.of (by rw[Jj n0];exact hl),SqL.of Jc,_,rfl,?_⟩;rw[ew];have s3:=(s1.trans s2).trans (Same.upd (o:=HO.lst []) hl0);refine ite2 (fun h2=>?_) (fun h2=>?_)
    ·refine ⟨_,rfl,_,rfl,a,t,m,us,ars,p,JO ys,rfl,W.mono s3,s3 _ _ hp,hzz,fun l' H3 s4 hl'=>?_⟩;refine⟨LX _,fun l1 hl1=>?_⟩;have n1:l'≠l1:=Jg hl' hl1;refine⟨l',l1,_,rfl,rfl,SqL.of (by rw[Jj n1];exact hl'),SqL.of Jc,?_⟩;have e3:hgM m ars (some ys)=((Jq m ars (JO ys)).map V.int).isEmpty:=by
      rw[hg,h2];simp
     rw[<- e3];exact k _ ((s3.trans s4).trans (Same.upd hl1))
    ·have e3:hgM m ars (some ys)=false:=by
      rw[hg,Bool.eq_false_iff.mpr h2];rfl
     rw[<- e3];exact k _ s3
  ·have e3:hgM m ars o=false:=by
    unfold hgM;rw[Bool.eq_false_iff.mpr h1];rfl
   rw[<- e3];exact k _ s1
def Jnc(K:VG):Sp:=fun vs H Q _=>∃(a:VB)(ns:VY)(k:Nat),vs=[.ref a,.int k]/\SqL K H a (ns.map V.int)/\∀n:Int,Q (.int n) H
theorem Jsh(D:DefAt K mg "_law_cell_at" ZI ["script","k"])(fr:Free mg ["len"]):Kn P w K mg base 1 "_law_cell_at" ["script","k"] (Jnc K):=by
 have sc:FnScope ["script","k"] ["script","k"] (Jh ZI):=⟨rfl,rfl,rfl,by decide +kernel,rfl,by decide +kernel,by decide +kernel⟩;refine D.kn (N:=["script","k"]) sc (fun vs H Q E h=>?_) (fun f cdv A outer s H vs Q E hr h=>?_)
 ·obtain ⟨a,ns,k,rfl,_⟩:=h;rfl
 ·obtain ⟨a,ns,k,rfl,hq,kk⟩:=h;have m1:=fr "len" (by simp);refine⟨_,Jd (JA (Jo QU (pv 1) (Jm Ju rfl m1 PySem.boot_len (Ja (pv 0) Jb)) (Jn _)) (Je (Ji (Jv JB (pv 0) (pv 1) (fun _ _=>rfl)))) Jt) (Je (Ji Jf)),?_⟩;refine⟨_,rfl,_,rfl,a,_,rfl,.inl hq,_,_,rfl,rfl,_,rfl,ite2 (fun h1=>?_) (fun h1=>?_)⟩
  ·have h2:k < ns.length:=by
    have:=of_decide_eq_true h1;rw[List.length_map]at this;omega
   exact⟨_,rfl,_,rfl,a,_,_,V.int ns[k],rfl,rfl,hq,JS (by simp[h2]),kk _⟩
  ·exact kk 0
def Jmz:Sp:=fun vs H Q _=>∃n:Int,vs=[.int n]/\∀r:Int,Q (.int r) H
theorem Jsd(D:DefAt K mg "_law_next" UD ["seed"]):Kn P w K mg base 1 "_law_next" ["seed"] Jmz:=by
 have sc:FnScope ["seed"] ["seed"] (Jh UD):=⟨rfl,rfl,rfl,by decide +kernel,rfl,by decide +kernel,by decide +kernel⟩;refine D.kn (N:=["seed"]) sc (fun vs H Q E h=>?_) (fun f cdv A outer s H vs Q E hr h=>?_)
 ·obtain ⟨n,rfl,_⟩:=h;rfl
 ·obtain ⟨n,rfl,kk⟩:=h;refine ⟨_,Jd (Jr (i:=0) sc.nd rfl (Or.inl rfl) (JD Wo (JD YV (pv 0) Jf) Jf))
   (Je (Ji (JD Wo (JD YV (JD YV (JD Jau (pv 0) (pv 0)) (JD Jau Jf (pv 0))) Jf) Jf))),?_⟩
  refine⟨_,rfl,_,_,rfl,rfl,_,_,rfl,rfl,(by show(0:Int)<2147483647;decide),?_⟩;have b1:0<=(n+7919)%2147483647:=Int.emod_nonneg _ (by decide);have b2:(n+7919)%2147483647<2147483647:=Int.emod_lt_of_pos _ (by decide);refine⟨_,rfl,_,rfl,_,_,rfl,rfl,.inl ⟨by omega,by omega⟩,_,rfl,_,_,rfl,rfl,.inl ⟨by decide,by decide⟩,_,_,rfl,rfl,_,_,rfl,rfl,_,_,rfl,rfl,(by show(0:Int)<2147483629;decide),kk _⟩
def PenAt(H:Hp)(p:VB):Prop:=∃a b c:Int,H p=some (.lst [.int a,.int b,.int c])
def Jtb:Sp:=fun vs H Q _=>∃n:Int,vs=[.int n]/\∀(p:VB)(H':Hp),Same H H'->H p=none->PenAt H' p->Q (.ref p) H'
theorem Jvq(D:DefAt K mg "_law_pen_of" Wf ["cell"])(fr:Free mg ["max","int"]):Kn P w K mg base 1 "_law_pen_of" ["cell"] Jtb:=by
 have sc:FnScope ["cell","left"] ["cell"] (Jh Wf):=⟨rfl,rfl,rfl,by decide +kernel,rfl,by decide +kernel,by decide +kernel⟩;refine D.kn (N:=["cell","left"]) sc (fun vs H Q E h=>?_) (fun f cdv A outer s H vs Q E hr h=>?_)
 ·obtain ⟨n,rfl,_⟩:=h;rfl
 ·obtain ⟨n,rfl,kk⟩:=h;have m1:=fr "max" (by simp);have m2:=fr "int" (by simp);refine ⟨_,Jd (Jr (i:=1) sc.nd rfl (Or.inl rfl) (Jm (Jmg rfl) rfl m1 Jmn (Ja (pv 0) (Ja (JD Jhg Jf (pv 0)) Jb))))
   (Je (Ji (JP (Ja (pv 1) (Ja (JN QJ rfl m2 Uj (Ja (JK Jtk (pv 1) (JD Jup Jf Jf) (Jn _)) Jb)) (Ja (JD Wo (pv 1) Jf) Jb)))))),?_⟩
  refine⟨_,rfl,_,rfl,_,_,rfl,rfl,_,_,rfl,?_⟩;refine⟨_,rfl,_,rfl,_,_,rfl,rfl,⟨by decide,by decide,by decide⟩,_,_,rfl,rfl,.inr ⟨_,rfl,?_⟩⟩;refine⟨_,rfl,_,_,rfl,rfl,(by show(0:Int)<1000003;decide),?_,fun p hp=>?_⟩
  ·show 3<=sizeLine;decide
  ·exact kk p _ (Same.upd hp) hp ⟨_,_,_,Jc⟩
theorem Jlk{m:Int}(h0:0<m)(h1:m<=1000000000000000000000000000000000000000000000000000000000000):m.natAbs.log2<9000:=by
 have h2:m.natAbs<2^200:=by
  have:(2:Nat)^200=1606938044258990275541962092341162602522202993782792835301376:=by decide +kernel
  rw[this];omega
 have:=(Nat.log2_lt (n:=m.natAbs) (k:=200) (by omega)).mpr h2;omega
def Jdl:Sp:=fun vs H Q _=>∃(p:VB)(m:Int),vs=[.ref p,.int m]/\PenAt H p/\0<m/\m<=1000000000000000000000000000000000000000000000000000000000000/\∀(r:Int)(H':Hp),0<=r->r<m->SameBut p H H'->PenAt H' p->Q (.int r) H'
theorem Jsg(D:DefAt K mg "_law_draw" UE ["pen","many"])(kx:Kn P w K mg base 1 "_law_next" ["seed"] Jmz):Kn P w K mg base 2 "_law_draw" ["pen","many"] Jdl:=by
 have sc:FnScope ["pen","many","found"] ["pen","many"] (Jh UE):=⟨rfl,rfl,rfl,by decide +kernel,rfl,by decide +kernel,by decide +kernel⟩;refine D.kn (N:=["pen","many","found"]) sc (fun vs H Q E h=>?_) (fun f cdv A outer s H vs Q E hr h=>?_)
 ·obtain ⟨p,m,rfl,_⟩:=h;rfl
 ·obtain ⟨p,m,rfl,⟨a,b,c,hp⟩,h0,h1,kk⟩:=h;have lg:=Jlk h0 h1;refine ⟨_,Jd (JA (Jo Yz (Jv JB (pv 0) Jf (fun _ _=>rfl)) Jf (Jn _))
    (Jd (Jr (i:=2) sc.nd rfl (Or.inl rfl) (JD Wo (Jv JB (pv 0) Jf (fun _ _=>rfl)) (pv 1)))
    (Jd (Jnn (JD Joa (Jv JB (pv 0) Jf (fun _ _=>rfl)) (pv 1)) (Jns (pv 0) Jf Jfb)) (Je (Ji (pv 2))))) Jt)
   (Jd (Jnn (Jl kx hr (Ja (JD YV (Jl kx hr (Ja (Jv JB (pv 0) Jf (fun _ _=>rfl)) Jb)) Jf) Jb)) (Jns (pv 0) Jf Jfb))
   (Je (Ji (JD Wo (JD Jjc (Jv JB (pv 0) Jf (fun _ _=>rfl)) Jf) (pv 1))))),?_⟩
  refine⟨_,rfl,p,_,_,_,rfl,rfl,SqL.of hp,rfl,rfl,_,rfl,ite2 (fun h2=>?_) (fun h2=>?_)⟩
  ·refine ⟨_,rfl,p,_,_,_,rfl,rfl,SqL.of hp,rfl,_,rfl,_,_,rfl,rfl,h0,?_⟩;refine⟨_,rfl,p,_,_,_,rfl,rfl,SqL.of hp,rfl,_,rfl,_,_,rfl,rfl,⟨h0,lg⟩,?_⟩;refine⟨_,rfl,p,_,_,0,rfl,rfl,hp,rfl,?_⟩;refine⟨_,rfl,kk _ _ (Int.emod_nonneg _ (by omega)) (Int.emod_lt_of_pos _ h0) SameBut.upd ⟨_,_,_,Jc⟩⟩
  ·refine ⟨_,rfl,p,_,_,_,rfl,rfl,SqL.of hp,rfl,_,rfl,fun r1=>?_⟩;refine⟨_,_,rfl,rfl,_,rfl,fun r2=>?_⟩;refine⟨_,rfl,p,_,_,2,rfl,rfl,hp,rfl,?_⟩;refine⟨_,rfl,p,_,_,_,rfl,rfl,SqL.of Jc,rfl,_,_,rfl,rfl,⟨by decide,by decide⟩,_,rfl,_,_,rfl,rfl,h0,?_⟩;exact kk _ _ (Int.emod_nonneg _ (by omega)) (Int.emod_lt_of_pos _ h0) SameBut.upd ⟨_,_,_,Jc⟩
theorem PenAt.mono{H H':Hp}{p:VB}(s:Same H H')(h:PenAt H p):PenAt H' p:=by obtain⟨x,y,z,e⟩:=h;exact⟨x,y,z,s _ _ e⟩
theorem Wm{H:Hp}{p q:VB}{xs:VS}(hp:PenAt H p)(hq:H q=some (.tup xs)):q≠p:=by obtain⟨a,b,c,e⟩:=hp;exact Wt hq e (by intro z;cases z)
theorem Web.but{H H':Hp}{a t p:VB}{m:Int}{vs:VS}{ars:VX}(h:Web H a t m vs ars)(hp:PenAt H p)(s:SameBut p H H'):Web H' a t m vs ars :=
 ⟨s _ _ (Wm hp h.top) h.top,s _ _ (Wm hp h.arr) h.arr,Paired.mapP h.ars fun _ _ ⟨q,e,z⟩=>⟨q,e,s _ _ (Wm hp z) z⟩,h.len,h.mb⟩
def Jy(m:Int)(prs:VX):Prop:=∀q∈prs,0<=q.1/\q.1<m/\0<=q.2/\q.2<m/\q.1≠q.2
def DT(H:Hp)(d:VB)(m:Int)(n:Nat):Prop:=∃(kvs:List (List Key×V))(prs:VX),H d=some (.dT kvs)/\kvs.map (·.1)=prs.map JF/\Jy m prs/\kvs.length<=n
theorem DT.put{H:Hp}{d b:VB}{m:Int}{n:Nat}{x y:Int}(h:DT H d m n)(hb:H b=none)(hn:n<=1000)(g:0<=x/\x<m/\0<=y/\y<m/\x≠y)(v:V) :
  ∃H4,DPut (upd H b (.tup [.int x,.int y])) d (.ref b) v H4/\DT H4 d m (n+1)/\∀c o,c≠d->H c=some o->H4 c=some o:=by
 obtain⟨kvs,prs,e1,e2,e3,e4⟩:=h;have ne:d≠b:=Jg e1 hb;have ed:(upd H b (.tup [.int x,.int y])) d=some (.dT kvs):=by rw[Jj ne];exact e1
 have eb:(upd H b (.tup [.int x,.int y])) b=some (.tup ((JF (x,y)).map kV)):=Jc;refine⟨_,DPut.t (k:=JF (x,y)) ed eb (Jk (by omega)),?_,fun c o hc e=>?_⟩
 ·by_cases hv:valV kvs (JF (x,y))=none
  ·refine ⟨_,prs++[(x,y)],Jc,?_,fun q hq=>?_,?_⟩
   ·rw [WL v hv,List.map_append,List.map_append,e2];rfl
   ·rcases SS.mp hq with h | h
    ·exact e3 q h
    ·rw [List.mem_singleton] at h;subst h;exact g
   ·exact LQ (YH _ _ _) (Nat.succ_le_succ e4)
  ·refine ⟨_,prs,Jc,?_,e3,LQ (YH _ _ _) (Nat.succ_le_succ e4)⟩;have ha:(kvs.any fun kv=>decide (kv.1=JF (x,y)))=true:=by
    rw[ZQ];cases q:valV kvs (JF (x,y)) with
    | none=>exact absurd q hv
    | some _=>rfl
   unfold putK;rw[if_pos ha,List.map_map,<- e2];refine List.map_congr_left fun kv _=>?_;show(if kv.1=JF (x,y) then(kv.1,v)else kv).1=kv.1;split<;>rfl
 ·rw [Jj hc,Jj (Jg e hb)];exact e
theorem DT.keep{H H':Hp}{d p:VB}{m:Int}{n:Nat}(h:DT H d m n)(hp:PenAt H p)(s:SameBut p H H'):DT H' d m n:=by obtain⟨kvs,prs,e1,r⟩:=h;obtain⟨a,b,c,e⟩:=hp;exact⟨kvs,prs,s _ _ (Wt e1 e (by intro z;cases z)) e1,r⟩
theorem DT.mono{H:Hp}{d:VB}{m:Int}{n k:Nat}(h:DT H d m n)(hk:n<=k):DT H d m k:=by obtain⟨kvs,prs,e1,e2,e3,e4⟩:=h;exact⟨kvs,prs,e1,e2,e3,LQ e4 hk⟩
def Jii:Sp:=fun vs H Q _=>∃(p:VB)(most:Int),vs=[.ref p,.int most]/\PenAt H p/\1<=most/\most<=12 /\
 ∀(a t:VB)(m:Int)(us:VS)(ars:VX)(H':Hp),SameBut p H H'->PenAt H' p->Web H' a t m us ars->1<=m->m<=most->Jy m ars->Q (.ref a) H'
theorem Jwl{xs:VS}(h:xs.length<=200):cutV xs none (some 200)=xs:=by unfold cutV;show(xs.drop 0).take (min 200 xs.length-0)=xs;rw[List.drop_zero];exact List.take_of_length_le (by omega)
theorem Jw{i:Nat}{v:V}{σ:St}{H:Hp}{Q:St->Hp->Prop}(h:Q (σ.set i (some v)) H):Wu i v σ H Q:=h
theorem Jaa{a R:TS}{D:Ends}{σ:St}{H:Hp}(Inv:St->Hp->Prop)(h:∀D':Ends,(∀σ H,Inv σ H->D'.nx σ H)->a D' σ H)(hk:∀σ H,Inv σ H->R D σ H):tSeq a R D σ H:=h _ hk
end
theorem newp{H:Hp}{p q:VB}(hp:PenAt H p)(hq:H q=none):q≠p:=fun e=>by obtain⟨_,_,_,z⟩:=hp;rw[e,z]at hq;cases hq
structure GlobI(mg:VZ)(x:Str)(n:Int):Prop where
 ex:∃t,mg x=some (.int n t)
section
variable{P:VC}{w:VF}{K:VG}{mg:VZ}{base:Heap}
def plw(bs:List Bool)(b:Bool)(i:Nat):VY:=((List.range i).filter fun j=>decide (bs[j]?=some b)).map fun(j:Nat)=>(j:Int)
theorem Jfi(bs:List Bool)(b:Bool)(i:Nat):plw bs b (i+1)=plw bs b i++(if bs[i]?=some b then[(i:Int)] else[]):=by
 unfold plw;rw[List.range_succ,List.filter_append,List.map_append];by_cases h:bs[i]?=some b
 ·simp [h]
 ·simp [h]
theorem YY{bs:List Bool}{b:Bool}{i:Nat}{n:Int}:n∈plw bs b i↔∃j:Nat,j<i/\bs[j]?=some b/\n=(j:Int):=by
 unfold plw;rw[List.mem_map];constructor
 ·rintro ⟨j,hj,rfl⟩;rw[List.mem_filter,List.mem_range]at hj;exact⟨j,hj.1,of_decide_eq_true hj.2,rfl⟩
 ·rintro ⟨j,hj,hb,rfl⟩;exact⟨j,SR.mpr ⟨LZ.mpr hj,decide_eq_true hb⟩,rfl⟩
theorem Jdq(bs:List Bool)(b:Bool)(i:Nat):(plw bs b i).length<=i:=by unfold plw;rw[List.length_map];refine LQ (SU _ _) ?_;rw[List.length_range];exact SJ _
theorem Jhc(bs:List Bool)(b:Bool)(i:Nat):(plw bs b i).Pairwise (·<·):=by unfold plw;rw[List.pairwise_map];exact(List.Pairwise.filter _ List.pairwise_lt_range).imp fun h=>by omega
def Jin:Sp:=fun vs H Q _=>∃(p:VB)(bs:List Bool)(b:Bool),vs=[.ref p,.bl b]/\H p=some (.tup (bs.map V.bl))/\bs.length<=1000/\∀(q:VB)(H':Hp),Same H H'->H' q=some (.tup ((plw bs b bs.length).map V.int))->Q (.ref q) H'
theorem Jvl(D:DefAt K mg "places_with" ZF ["truths","wanted"])(fr:Free mg ["tuple","enumerate"]):Kn P w K mg base 1 "places_with" ["truths","wanted"] Jin:=by
 have sc:FnScope ["truths","wanted"] ["truths","wanted"] (Jh ZF):=⟨rfl,rfl,rfl,by decide +kernel,rfl,by decide +kernel,by decide +kernel⟩;refine D.kn (N:=["truths","wanted"]) sc (fun vs H Q E h=>?_) (fun f cdv A outer s H vs Q E hr h=>?_)
 ·obtain ⟨p,bs,b,rfl,_⟩:=h;rfl
 ·obtain ⟨p,bs,b,rfl,hp,hz,k⟩:=h;have m1:=fr "tuple" (by simp);have m2:=fr "enumerate" (by simp);have nd:(["place","truth","wanted"]:VJ).Nodup:=by decide +kernel
  refine ⟨_,Je (Ji (JN JT rfl m1 JE (Ja (Yb (N:=["place","truth","wanted"]) (src:=[none,none,some 1]) rfl ⟨rfl,rfl,rfl,rfl,⟨⟨rfl,rfl⟩,trivial⟩,rfl,rfl,rfl⟩ (Jcq (i:=0) (j:=1) rfl rfl)
   (Jrh rfl m2 (Ja (pv 0) Jb))
   (fun C s H fp=>⟨Qw (n:=2) rfl (Yf (Jp (i:=0) nd rfl (Or.inl rfl)) (Yf (Jp (i:=1) nd rfl (Or.inl rfl)) Ub)),JW (Jo Yz (pv 1) (pv 2) (Jn _)),pv 0⟩)) Jb))),?_⟩
  refine⟨_,rfl,p,_,rfl,hp,Jrx (xs:=bs.map V.bl) (fun i zs H'=>Same H H'/\zs=(plw bs b i).map V.int) ⟨Same.refl _,rfl⟩ ?_ ?_ ?_⟩
  ·rintro i zs H' hi ⟨s2,rfl⟩;refine⟨s2 _ _ hp,?_⟩;rw[List.length_map]at hi;rw[List.length_map];have:=Jdq bs b i;exact SZ (Jk (by omega))
  ·rintro zs H' ⟨s2,rfl⟩ l hl;rw[List.length_map];refine⟨l,_,rfl,.inl ⟨SqL.of Jc,fun t ht=>k t _ ((s2.trans (Same.upd hl)).trans (Same.upd ht)) Jc⟩⟩
  ·rintro i v zs H' q h1 hi ⟨s2,rfl⟩ hq;rw[List.getElem?_map]at h1;obtain⟨x,e1,rfl⟩:=SX.mp h1;refine⟨q,_,rfl,SqT.of Jc,rfl,_,_,rfl,_,_,rfl,rfl,?_⟩;refine⟨_,rfl,_,rfl,rfl,_,rfl,?_⟩;have hx:decide (V.bl x=V.bl b)=decide (bs[i]?=some b):=by
    rw[e1];simp
   rw[hx];refine ite2 (fun h2=>?_) (fun h2=>?_)
   ·refine ⟨_,rfl,nx hi ⟨s2.trans (Same.upd hq),?_⟩⟩;rw[Jfi,if_pos (of_decide_eq_true h2),List.map_append];rfl
   ·refine nx hi ⟨s2.trans (Same.upd hq),?_⟩;rw[Jfi,if_neg (fun z=>h2 (decide_eq_true z)),List.append_nil]
def ldI(ars:VX)(p:Int):VY:=(ars.filter fun q=>decide (q.1=p)).map (·.2)
theorem Qe(ars:VX)(p:Int):(ldI ars p).length<=ars.length:=by unfold ldI;rw[List.length_map];exact SU _ _
structure LL(H:Hp)(l:VB)(rows:List VB)(f:Nat->VY):Prop where
 top:H l=some (.lst (rows.map V.ref))
 row:∀i r,rows[i]?=some r->H r=some (.lst ((f i).map V.int))
theorem LL.mono{H H':Hp}{l:VB}{rows:List VB}{f:Nat->VY}(h:LL H l rows f)(s:Same H H'):LL H' l rows f:=⟨s _ _ h.top,fun i r e=>s _ _ (h.row i r e)⟩
def YS:Sp:=fun vs H Q _=>∃(a t:VB)(m:Int)(us:VS)(ars:VX),vs=[.ref a]/\Web H a t m us ars/\Jy m ars /\
 ∀(l:VB)(rows:List VB)(H':Hp),Same H H'->rows.length=m.toNat->LL H' l rows (fun i=>ldI ars i)->Q (.ref l) H'
theorem Jfx(D:DefAt K mg "all_leads" WI ["web"])(fr:Free mg ["range"]):Kn P w K mg base 1 "all_leads" ["web"] YS:=by
 have sc:FnScope ["web","leads","a","b"] ["web"] (Jh WI):=⟨rfl,rfl,rfl,by decide +kernel,rfl,by decide +kernel,by decide +kernel⟩;refine D.kn (N:=["web","leads","a","b"]) sc (fun vs H Q E h=>?_) (fun f cdv A outer s H vs Q E hr h=>?_)
 ·obtain ⟨a,t,m,us,ars,rfl,_⟩:=h;rfl
 ·obtain ⟨a,t,m,us,ars,rfl,W,ga,kk⟩:=h;have m1:=fr "range" (by simp);have nd:(["place"]:VJ).Nodup:=by decide +kernel
  refine ⟨_,Jd (YK (i:=1) (N:=["place"]) (src:=[none]) sc.nd rfl rfl rfl rfl ⟨rfl,rfl,rfl,rfl,trivial,rfl,rfl,rfl⟩ (Js (i:=0) rfl) (JV rfl m1 (Ja (Jv Jz (pv 0) Jf (fun _ _=>rfl)) Jb)) (fun C s H fp=>⟨Jp (i:=0) nd rfl (Or.inl rfl),JC,JP Jb⟩))
   (Jd (YL PassesOwn.never rfl (Wl (Jv Jz (pv 0) Jf (fun _ _=>rfl))) (Qw (n:=2) rfl (Yf (Jp (i:=2) sc.nd rfl (Or.inl rfl)) (Yf (Jp (i:=3) sc.nd rfl (Or.inl rfl)) Ub)))
    (Je (YE (QQ PySem.F.plainAttrs_list PySem.F.slot_list_append PySem.F.type_list_append ZW (Jv JB (pv 1) (pv 2) (fun _ _=>rfl)) (Ja (pv 3) Jb)))))
   (Je (Ji (pv 1)))),?_⟩
  have hm:=W.mb;have c0:0<=sizeLine:=by decide
  refine⟨_,rfl,a,_,_,_,rfl,rfl,SqT.of W.top,rfl,m,rfl,by omega,by omega,Ug (fun i zs H'=>∃rows:List VB,zs=rows.map V.ref/\rows.length=i/\Same H H'/\(∀r∈rows,H r=none/\H' r=some (.lst []))/\rows.Nodup) ⟨[],rfl,rfl,Same.refl _,fun r hr=>(nomatch hr),List.nodup_nil⟩ ?_ ?_ ?_⟩
  ·rintro i zs H' hi ⟨rows,rfl,rfl,_⟩;rw[List.length_map];exact SZ (Jk (by omega))
  ·rintro zs H' ⟨rows,rfl,hl,s1,fresh,nodup⟩ l hl1;have s2:=s1.trans (Same.upd (o:=.lst (rows.map V.ref)) hl1);have fresh2:∀r∈rows,H r=none/\(upd H' l (.lst (rows.map V.ref))) r=some (.lst []):=fun r hr=>⟨(fresh r hr).1,Same.upd hl1 _ _ (fresh r hr).2⟩;have hl2:(upd H' l (.lst (rows.map V.ref))) l=some (.lst (rows.map V.ref)):=Jc;have lr:∀r∈rows,r≠l:=fun r hr=>Jg (fresh r hr).2 hl1;have hl0:H l=none:=by
    cases e:H l with
    | none=>rfl
    | some o=>rw [s1 _ _ e] at hl1; cases hl1
   generalize upd H' l (.lst (rows.map V.ref))=H2 at s2 fresh2 hl2;have W2:=W.mono s2;refine ⟨_,rfl,a,_,_,_,rfl,rfl,SqT.of W2.top,rfl,t,rfl,⟨_,SqT.of W2.arr⟩,Qh (K:=K) (xs:=us) (fun k σ H3=>∃ (v2 v3:Option V),σ=[some (.ref a),some (.ref l),v2,v3]/\Same H H3/\LL H3 l rows (fun i=>ldI (ars.take k) i))
    ⟨none,none,rfl,s2,hl2,fun i r e=>(fresh2 r (SK e)).2⟩ (fun i σ H3 _ ⟨_,_,_,s3,_⟩=>SqT.of (s3 _ _ W.arr)) ?_ ?_⟩
   ·rintro k y σ H3 hk ⟨v2,v3,rfl,s3,L⟩;obtain⟨q,e1,r,rfl,hr'⟩:=Paired.get' (W.mono s3).ars hk;have g:=ga q (SK e1);have hkl:k<us.length:=(SY.mp hk).1;have hlu:=W.len;obtain⟨x,b⟩:=q;obtain⟨j,rfl⟩:∃j:Nat,x=(j:Int):=⟨x.toNat,by have:=g.1;omega⟩;have hj:j<rows.length:=by have:=g.2.1;show j<rows.length;rw[hl];omega
    have er:rows[j]?=some rows[j]:=by simp[hj]
    have lj:=Qe (ars.take k) j;rw[List.length_take]at lj;refine⟨r,_,rfl,SqT.of hr',rfl,_,_,rfl,_,_,rfl,rfl,?_⟩;refine⟨_,rfl,_,rfl,l,_,_,V.ref rows[j],rfl,rfl,SqL.of L.top,JS (by rw[List.getElem?_map,er];rfl),.inl ⟨rfl,_,SqL.of (L.row j _ er)⟩,_,rfl,rows[j],_,_,rfl,rfl,L.row j _ er,?_,?_⟩
    ·rw [List.length_map];exact Jk (by omega)
    ·refine ⟨_,_,rfl,fun c o e=>?_,?_,fun i r' e'=>?_⟩
     ·rw [Jj (Jg e (fresh _ (List.mem_of_getElem? er)).1)];exact s3 _ _ e
     ·rw [Jj (Ne.symm (lr _ (List.mem_of_getElem? er)))];exact L.top
     ·have ee:=Jx ars k _ e1;by_cases hij:i=j
      ·subst hij;rw[er]at e';cases e';rw[Jc];unfold ldI;rw[ee,List.filter_append,List.map_append,List.map_append];simp
      ·have ne:r'≠rows[j]:=by
        intro z;have hi:i<rows.length:=(SY.mp e').1;have:rows[i]=rows[j]:=by have:=(SY.mp e').2;rw[this,z]
        have pw:=List.pairwise_iff_getElem.mp nodup;rcases Nat.lt_or_gt_of_ne hij with lt|lt
        ·exact pw i j hi hj lt this
        ·exact pw j i hj hi lt this.symm
       rw[Jj ne,L.row i r' e'];unfold ldI;rw[ee,List.filter_append,List.map_append];have:¬ ((j:Int)=(i:Int)):=by omega
       simp[this]
   ·rintro σ H3 ⟨v2,v3,rfl,s3,L⟩;refine⟨_,rfl,kk l rows H3 s3 hl ?_⟩;rw[Yx W.ars,List.take_of_length_le (Nat.le_refl _)]at L;exact L
  ·rintro i zs H' hi ⟨rows,rfl,hl,s1,fresh,nodup⟩;refine⟨c0,fun q hq=>nx hi ⟨rows++[q],?_,?_,s1.trans (Same.upd hq),fun r hr=>?_,?_⟩⟩
   ·rw [List.map_append];rfl
   ·rw [List.length_append];show rows.length+1=i+1;omega
   ·rcases SS.mp hr with z | z
    ·exact ⟨(fresh r z).1,Same.upd hq _ _ (fresh r z).2⟩
    ·rw [List.mem_singleton] at z;subst z;refine⟨?_,Jc⟩;cases e:H r with
     | none=>rfl
     | some o=>rw [s1 _ _ e] at hq; cases hq
   ·rw [List.nodup_append];refine⟨nodup,by simp,fun x hx y hy=>?_⟩;rw[List.mem_singleton]at hy;subst hy;exact Jg (fresh x hx).2 hq
end
structure Rise(ns:VY)(m:Int):Prop where
 bd:∀n∈ns,0<=n/\n<m
 up:ns.Pairwise (·<·)
theorem Jfc:∀{ns:VY},ns.Pairwise (·<·)->Zj ns=true
 | [],_=>rfl
 | [_],_=>rfl
 | a::b::r,h=>by rw[List.pairwise_cons]at h;show(decide (a<b)&&Zj (b::r))=true;rw[decide_eq_true (h.1 b (by simp)),Jfc h.2];rfl
theorem Jms{m:Int}:∀{ns:VY}{lo:Int},(∀n∈ns,lo<=n/\n<m)->ns.Pairwise (·<·)->ns.length<=(m-lo).toNat
 | [],_,_,_=>LX _
 | a::r,lo,hb,hp=>by rw[List.pairwise_cons]at hp;have h1:=hb a (by simp);have h2:=Jms (m:=m) (ns:=r) (lo:=a+1) (fun n hn=>⟨hp.1 n hn,(hb n (by simp[hn])).2⟩) hp.2;rw[List.length_cons];omega
theorem Rise.len{ns:VY}{m:Int}(h:Rise ns m):ns.length<=m.toNat:=by have:=Jms h.bd h.up;omega
theorem Rise.pls{ns:VY}{m:Int}(h:Rise ns m):plsG m (some (ns.map V.int))=true:=by show((ns.map V.int).all (plG m)&&Zj (JO (ns.map V.int)))=true;rw[UI,Jfc h.up,Bool.and_true,List.all_map];refine SM.mpr fun n hn=>?_;have:=h.bd n hn;show(decide (0<=n)&&decide (n<m))=true;rw[decide_eq_true this.1,decide_eq_true this.2];rfl
section
variable{P:VC}{w:VF}{K:VG}{mg:VZ}{base:Heap}
theorem Wr(k:Int)(ns:VY):inV (.int k) (ns.map V.int)=decide (k∈ns):=by
 unfold inV;induction ns with
 | nil=>simp
 | cons n r ih =>
  rw[List.map_cons,List.any_cons,ih];have:eqV (V.int n) (V.int k)=decide (k=n):=by
   show(n==k)=_;by_cases h:k=n
   ·subst h; simp
   ·simp [h,Ne.symm h]
  rw[this];simp
theorem QC(ns:VY):(ns.map V.int).all YB=true:=by rw[List.all_map];exact SM.mpr fun _ _=>rfl
def JR(m:Int)(ars:VX)(ns:VY):Bool:=ars.any (both ns)||((List.range m.toNat).map fun(k:Nat)=>(k:Int)).any fun k=>!Yl ars ns k
end
end Hk
namespace Hk
open PySem L2 PySem.W
def mkv(ns:VY):List (Key×V):=ns.map fun n=>(Sum.inl n,V.bl true)
theorem Jad(ns:VY)(x:Int):valV (mkv ns) (Sum.inl x)=if x∈ns then some (.bl true)else none:=by
 induction ns with
 | nil=>simp [mkv,valV]
 | cons n r ih =>
  show valV ((Sum.inl n,V.bl true)::mkv r) (Sum.inl x)=_;unfold valV at ih ⊢;rw[List.find?_cons];by_cases e:n=x
  ·subst e;simp
  ·rw [decide_eq_false (show ¬ (Sum.inl n:Key)=Sum.inl x from fun z=>e (Sum.inl.inj z)),ih];by_cases z:x∈r
   ·rw [if_pos z,if_pos (List.mem_cons_of_mem _ z)]
   ·rw [if_neg z,if_neg (fun w=>(List.mem_cons.mp w).elim (fun h=>e h.symm) z)]
def outs(bs:List Bool):VY:=plw bs false bs.length
def lbL(ars:VX)(bs:List Bool):VY:=(outs bs).filter fun p=>(ldI ars p).all fun b=>decide (b∈outs bs)
def tbL(ars:VX)(bs:List Bool):VX:=ars.filter (both (plw bs true bs.length))
def ffV:VX->VY->Option (VS)
 | (a,b)::_,_=>some [.str "tied",.int a,.int b]
 | [],p::_=>some [.str "lost",.int p]
 | [],[]=>none
def fbV(ars:VX)(bs:List Bool):Option (VS):=ffV (tbL ars bs) (lbL ars bs)
def noF(ars:VX)(bs:List Bool):Bool:=(fbV ars bs).isNone
def Bks(H:Hp):VS->List (List Bool)->Prop:=Paired fun(v:V) (bs:List Bool)=>∃p,v=.ref p/\H p=some (.tup (bs.map V.bl))
theorem Bks.mono{H H':Hp}{ws:VS}{bss:List (List Bool)}(h:Bks H ws bss)(s:Same H H'):Bks H' ws bss:=Paired.mapP h fun _ _ ⟨p,e,z⟩=>⟨p,e,s _ _ z⟩
theorem Bks.app{H:Hp}:∀{ws zs:VS}{l r:List (List Bool)},Bks H ws l->Bks H zs r->Bks H (ws++zs) (l++r)
 | _,_,_,_,.nil,g=>g
 | _,_,_,_,.cons h t,g=>.cons h (Bks.app t g)
def AMk(ars:VX):Nat->List (List Bool)
 | 0=>[[]]
 | k + 1=>((AMk ars k).map (fun bs=>bs++[false])++(AMk ars k).map fun bs=>bs++[true]).filter (noF ars)
theorem Jaf(ars:VX):∀k,(AMk ars k).length<=2^k
 | 0=>SJ _
 | k + 1=>by show(List.filter _ _).length<=_;refine LQ (SU _ _) ?_;rw[List.length_append,List.length_map,List.length_map,Nat.pow_succ];have:=Jaf ars k;omega
theorem Zw(ars:VX):∀k,∀bs∈AMk ars k,bs.length=k
 | 0,bs,h=>by rw[List.mem_singleton.mp h];rfl
 | k + 1,bs,h=>by
  rcases SS.mp (SR.mp (show bs∈List.filter _ _ from h)).1 with z|z
  ·obtain ⟨c,hc,rfl⟩:=SL.mp z;rw[List.length_append,Zw ars k c hc];rfl
  ·obtain ⟨c,hc,rfl⟩:=SL.mp z;rw[List.length_append,Zw ars k c hc];rfl
section
variable{P:VC}{w:VF}{K:Frag}{mg:VZ}{base:Heap}
def Jce:Sp:=fun vs H Q _=>∃(p:VB)(ns:VY),vs=[.ref p]/\H p=some (.tup (ns.map V.int))/\ns.length<=1000/\ns.Nodup/\∀(d:VB)(H':Hp),Same H H'->H d=none->H' d=some (.dK (mkv ns))->Q (.ref d) H'
theorem Jhp(D:DefAt K mg "marked" WD ["places"]):Kn P w K mg base 1 "marked" ["places"] Jce:=by
 have sc:FnScope ["places","marks","place"] ["places"] (Jh WD):=⟨rfl,rfl,rfl,by decide +kernel,rfl,by decide +kernel,by decide +kernel⟩;refine D.kn (N:=["places","marks","place"]) sc (fun vs H Q E h=>?_) (fun f cdv A outer s H vs Q E hr h=>?_)
 ·obtain ⟨p,ns,rfl,_⟩:=h;rfl
 ·obtain ⟨p,ns,rfl,hp,hz,nd,k⟩:=h;have hu:=YI hr;refine⟨_,Jd (Jr (i:=1) sc.nd rfl (Or.inl rfl) UT) (Jd (YL PassesOwn.never rfl (Wl (pv 0)) (Jp (i:=2) sc.nd rfl (Or.inl rfl)) (Je (Zx hu (pv 1) (pv 2) JG rfl))) (Je (Ji (pv 1)))),?_⟩;intro d hd;have hp1:(upd H d (.dK [])) p=some (.tup (ns.map V.int)):=by rw[Jj (Jg hp hd)];exact hp
  refine ⟨_,rfl,p,rfl,⟨_,SqT.of hp1⟩,Qh (K:=K) (xs:=ns.map V.int) (fun i σ H2=>∃ (v:Option V),σ=[some (.ref p),some (.ref d),v]/\Same H H2/\H2 d=some (.dK (mkv (ns.take i))))
   ⟨none,rfl,Same.upd hd,Jc⟩ (fun i σ H2 _ ⟨_,_,s2,_⟩=>SqT.of (s2 _ _ hp)) ?_ ?_⟩
  ·rintro i y σ H2 hi ⟨v,rfl,s2,hd2⟩;rw[List.getElem?_map]at hi;obtain⟨x,e1,rfl⟩:=SX.mp hi;have hil:i<ns.length:=(SY.mp e1).1;have hnew:x∉ns.take i:=fun hx=>by
    have:=nd;rw[<- List.take_append_drop i ns]at this;have h3:=(List.nodup_append.mp this).2.2 x hx x (by
     have:ns.drop i=x::ns.drop (i+1):=by rw[List.drop_eq_getElem_cons hil];rw[(List.getElem?_eq_some_iff.mp e1).2]
     rw[this]
     exact SG)
    exact h3 rfl
   refine⟨_,rfl,_,rfl,d,_,rfl,DPut.k (k:=Sum.inl x) hd2 (Jk (by unfold mkv;rw[List.length_map,List.length_take];omega)),?_⟩;refine⟨_,rfl,fun b o e=>?_,?_⟩
   ·rw [Jj (Jg e hd)];exact s2 _ _ e
   ·rw [Jc,WL _ (by rw [Jad,if_neg hnew]),Jx _ _ _ e1];unfold mkv;rw[List.map_append];rfl
  ·rintro σ H2 ⟨v,rfl,s2,hd2⟩;rw[List.length_map,List.take_of_length_le (Nat.le_refl _)]at hd2;exact⟨_,rfl,k d H2 s2 hd hd2⟩
def Jew:Sp:=fun vs H Q _=>∃(x:V)(p:VB)(bs:List Bool),vs=[x,.ref p]/\H p=some (.tup (bs.map V.bl))/\bs.length<=1000/\∀(q:VB)(H':Hp),Same H H'->H' q=some (.tup ((plw bs true bs.length).map V.int))->Q (.ref q) H'
theorem Jls(D:DefAt K mg "hold_of" Qv ["web","marks"])(kp:Kn P w K mg base 1 "places_with" ["truths","wanted"] Jin):Kn P w K mg base 2 "hold_of" ["web","marks"] Jew:=by
 have sc:FnScope ["web","marks"] ["web","marks"] (Jh Qv):=⟨rfl,rfl,rfl,by decide +kernel,rfl,by decide +kernel,by decide +kernel⟩;refine D.kn (N:=["web","marks"]) sc (fun vs H Q E h=>?_) (fun f cdv A outer s H vs Q E hr h=>?_)
 ·obtain ⟨x,p,bs,rfl,_⟩:=h;rfl
 ·obtain ⟨x,p,bs,rfl,hp,hz,k⟩:=h;refine⟨_,Je (Ji (Jl kp hr (Ja (pv 1) (Ja JG Jb)))),?_⟩;exact⟨_,rfl,p,bs,true,rfl,hp,hz,k⟩
structure WB(H:Hp)(a t c:VB)(m:Int)(us:VS)(ars:VX)(bs:List Bool):Prop where
 web:Web H a t m us ars
 good:Jy m ars
 at_:H c=some (.tup (bs.map V.bl))
 len:(bs.length:Int)<=m
theorem WB.mono{H H':Hp}{a t c:VB}{m:Int}{us:VS}{ars:VX}{bs:List Bool}(h:WB H a t c m us ars bs)(s:Same H H'):WB H' a t c m us ars bs:=⟨h.web.mono s,h.good,s _ _ h.at_,h.len⟩
def spTB:Sp:=fun vs H Q _=>∃(a t c:VB)(m:Int)(us:VS)(ars:VX)(bs:List Bool),vs=[.ref a,.ref c]/\WB H a t c m us ars bs/\∀(l:VB)(ws:VS)(H':Hp),Same H H'->H' l=some (.lst ws)->Ars H' ws (tbL ars bs)->Q (.ref l) H'
theorem kn_tb(D:DefAt K mg "tied_begun" ZZ ["web","begun"])(kt:Kn P w K mg base 2 "tied_arrows" ["web","places"] Jgw)(kp:Kn P w K mg base 1 "places_with" ["truths","wanted"] Jin):Kn P w K mg base 3 "tied_begun" ["web","begun"] spTB:=by
 have sc:FnScope ["web","begun"] ["web","begun"] (Jh ZZ):=⟨rfl,rfl,rfl,by decide +kernel,rfl,by decide +kernel,by decide +kernel⟩;refine D.kn (N:=["web","begun"]) sc (fun vs H Q E h=>?_) (fun f cdv A outer s H vs Q E hr h=>?_)
 ·obtain ⟨a,t,c,m,us,ars,bs,rfl,_⟩:=h;rfl
 ·obtain ⟨a,t,c,m,us,ars,bs,rfl,W,k⟩:=h;have r1:=hr.mono (j:=1) (by decide);have hm:=W.web.mb;have hl:=W.len;have lp:=Jdq bs true bs.length;refine⟨_,(Je (Ji (Jl kt hr (Ja (pv 0) (Ja (Jl kp r1 (Ja (pv 1) (Ja JG Jb))) Jb))))),?_⟩;refine⟨_,rfl,_,rfl,c,bs,true,rfl,W.at_,by omega,fun q H1 s1 hq=>?_⟩;exact⟨a,t,m,us,ars,q,plw bs true bs.length,rfl,W.web.mono s1,hq,by omega,fun l ws H' s' hl' ar=>k l ws H' (s1.trans s') hl' ar⟩
def spLB:Sp:=fun vs H Q _=>∃(a t c:VB)(m:Int)(us:VS)(ars:VX)(bs:List Bool),vs=[.ref a,.ref c]/\WB H a t c m us ars bs/\∀(l:VB)(H':Hp),Same H H'->H' l=some (.lst ((lbL ars bs).map V.int))->Q (.ref l) H'
theorem kn_lb(D:DefAt K mg "lost_begun" Wd ["web","begun"])(fr:Free mg ["all"])(ka:Kn P w K mg base 1 "all_leads" ["web"] YS)(km:Kn P w K mg base 1 "marked" ["places"] Jce)(kp:Kn P w K mg base 1 "places_with" ["truths","wanted"] Jin):Kn P w K mg base 2 "lost_begun" ["web","begun"] spLB:=by
 have sc:FnScope ["web","begun","leads","out"] ["web","begun"] (Jh Wd):=⟨rfl,rfl,rfl,by decide +kernel,rfl,by decide +kernel,by decide +kernel⟩;refine D.kn (N:=["web","begun","leads","out"]) sc (fun vs H Q E h=>?_) (fun f cdv A outer s H vs Q E hr h=>?_)
 ·obtain ⟨a,t,c,m,us,ars,bs,rfl,_⟩:=h;rfl
 ·obtain ⟨a,t,c,m,us,ars,bs,rfl,W,k⟩:=h;have hu:=YI hr;have m1:=fr "all" (by simp);have hm:=W.web.mb;have hl:=W.len;have nd:(["place","out","leads"]:VJ).Nodup:=by decide +kernel
  have nd2:(["b","out"]:VJ).Nodup:=by decide +kernel
  refine⟨_,(Jd (Jr (i:=2) sc.nd rfl (Or.inr rfl) (Jl ka hr (Ja (pv 0) Jb))) (Jd (Jr (i:=3) sc.nd rfl (Or.inr rfl) (Jl km hr (Ja (Jl kp hr (Ja (pv 1) (Ja JG Jb))) Jb))) (Je (Ji (Yb (N:=["place","out","leads"]) (src:=[none,some 3,some 2]) rfl ⟨rfl,rfl,rfl,rfl,⟨⟨rfl,rfl⟩,⟨⟨rfl,rfl⟩,trivial⟩⟩,rfl,rfl,rfl⟩ (Js (i:=0) rfl) (Jri (pv 3)) (fun C s H fp=>⟨(Jp (i:=0) nd rfl (Or.inl rfl)),(JW (JM (Jm (QK K rfl) rfl m1 Yh (Ja (Yb (N:=["b","out"]) (src:=[none,some 1]) rfl ⟨rfl,rfl,rfl,rfl,⟨⟨rfl,rfl⟩,trivial⟩,rfl,rfl,rfl⟩ (Js (i:=0) rfl) (US K (Jv (r:=rIxL K) JB (pv 2) (pv 0) (fun _ _=>rfl))) (fun C s H fp=>⟨(Jp (i:=0) nd2 rfl (Or.inl rfl)),JC,(Jhf (Qx hu (pv 0) (pv 1)))⟩)) Jb)))),(pv 0)⟩)))))),?_⟩;refine⟨_,rfl,a,t,m,us,ars,rfl,W.web,W.good,fun ll rows H1 s1 lr LR=>?_⟩;refine Jw ?_;dsimp only;refine⟨_,rfl,c,bs,false,rfl,s1 _ _ W.at_,by omega,fun q H2 s2 hq=>?_⟩;have lo:=Jdq bs false bs.length;refine⟨q,outs bs,rfl,hq,by show(plw bs false bs.length).length<=1000;omega,(Jhc bs false bs.length).imp (fun {x y} h=>by omega),fun d H3 s3 hd2 hd3=>?_⟩;refine Jw ?_;dsimp only;have s13:=s1.trans (s2.trans s3);have hdN:H d=none:=by
   cases e:H d with
   | none=>rfl
   | some o=>rw [(s1.trans s2) _ _ e] at hd2; cases hd2
  refine⟨_,rfl,d,_,rfl,hd3,fun o=>?_⟩;have s4:Same H (upd H3 d (.frz o (.dK (mkv (outs bs))))):=fun b u e=>by rw[Jj (Jg e hdN)];exact s13 _ _ e
  have LR4:LL (upd H3 d (.frz o (.dK (mkv (outs bs))))) ll rows (fun i=>ldI ars i):=by have L3:=LR.mono (s2.trans s3);have nl:∀b u,H1 b=some u->b≠d:=fun b u e=>Jg (s2 _ _ e) hd2;exact⟨by rw[Jj (nl _ _ LR.top)];exact L3.top,fun i r e=>by rw[Jj (nl _ _ (LR.row i r e))];exact L3.row i r e⟩
  have hd4:(upd H3 d (.frz o (.dK (mkv (outs bs))))) d=some (.frz o (.dK (mkv (outs bs)))):=Jc;generalize upd H3 d (.frz o (.dK (mkv (outs bs))))=H4 at s4 LR4 hd4;have lmk:(mkv (outs bs)).length=(outs bs).length:=by unfold mkv;rw[List.length_map]
  have lou:(outs bs).length<=bs.length:=lo;refine Jry (o:=o) (fun i zs H'=>Same H4 H'/\zs=(((outs bs).take i).filter fun p=>(ldI ars p).all fun b=>decide (b∈outs bs)).map V.int) ⟨Same.refl _,rfl⟩ ?_ ?_ ?_
  ·rintro i zs H' hi ⟨s5,rfl⟩;refine⟨s5 _ _ hd4,?_⟩;rw[List.length_map];have:=SU (fun p=>(ldI ars p).all fun b=>decide (b∈outs bs)) ((outs bs).take i);rw[List.length_take]at this;exact SZ (Jk (by omega))
  ·rintro zs H' ⟨s5,rfl⟩ l hl';rw[lmk,List.take_of_length_le (Nat.le_refl _)];exact k l _ (s4.trans (s5.trans (Same.upd hl'))) Jc
  ·rintro i kk v zs H' hx hi ⟨s5,rfl⟩;rw[lmk]at hi;have hx':(mkv (outs bs))[i]?=some (Sum.inl (outs bs)[i],V.bl true):=by
    unfold mkv;rw[List.getElem?_map,List.getElem?_eq_getElem hi];rfl
   rw[hx']at hx;cases hx;have e1:(outs bs)[i]?=some (outs bs)[i]:=SN hi;generalize (outs bs)[i]=p at e1;have fs:=JJ (fun p=>(ldI ars p).all fun b=>decide (b∈outs bs)) (outs bs) i p e1;obtain⟨j,hj,hb,rfl⟩:=YY.mp (SK e1);have hjr:j<rows.length:=by omega
   have er:rows[j]?=some rows[j]:=SN hjr;generalize rows[j]=r at er;have LR5:=LR4.mono s5;have hrow:=LR5.row j r er;have hd5:=s5 _ _ hd4;have rl:(rows.map V.ref).length<=1000:=by rw[List.length_map];omega
   have la:=Qe ars (j:Int);have la2:=Yx W.web.ars;have la3:=W.web.len;refine⟨_,rfl,_,rfl,ll,_,_,.ref r,rfl,rfl,SqL.of LR5.top,JS (by rw[List.getElem?_map,er];rfl),r,rfl,⟨_,SqL.of hrow⟩,Ya (xs:=(ldI ars (j:Int)).map V.int) (fun n ys H6=>Same H' H6/\ys=(((ldI ars (j:Int)).take n).map fun b=>decide (b∈outs bs)).map V.bl) ⟨Same.refl _,rfl⟩ ?_ ?_ ?_⟩
   ·rintro n ys H6 hn ⟨s6,rfl⟩;refine⟨SqL.of (s6 _ _ hrow),?_⟩;rw[List.length_map,List.length_map,List.length_take];exact SZ (Jk (by omega))
   ·rintro ys H6 ⟨s6,rfl⟩ y hy;rw[List.length_map,List.take_of_length_le (Nat.le_refl _)];refine⟨y,_,rfl,SqL.of Jc,_,rfl,?_⟩;have ea:(((ldI ars (j:Int)).map fun b=>decide (b∈outs bs)).all id)=(ldI ars (j:Int)).all fun b=>decide (b∈outs bs):=by rw[List.all_map];rfl
    rw[ea];have s56:=s5.trans (s6.trans (Same.upd (o:=.lst (((ldI ars (j:Int)).map fun b=>decide (b∈outs bs)).map V.bl)) hy));refine ite2 (fun c=>?_) (fun c=>?_)
    ·rw [if_pos c] at fs;refine⟨_,rfl,nx (by rw[lmk];exact hi) ⟨s6.trans (Same.upd hy) |> s5.trans,?_⟩⟩;rw[fs,List.map_append];rfl
    ·rw [if_neg c,List.append_nil] at fs;refine nx (by rw[lmk];exact hi) ⟨s6.trans (Same.upd hy) |> s5.trans,?_⟩;rw[fs]
   ·rintro n x ys H6 hx2 hn ⟨s6,rfl⟩;rw[List.getElem?_map]at hx2;obtain⟨b,e2,rfl⟩:=SX.mp hx2;refine⟨_,rfl,_,rfl,d,_,rfl,.inl ⟨_,Sum.inl b,.inr ⟨o,s6 _ _ hd5⟩,rfl,rfl⟩,nx hn ⟨s6,?_⟩⟩;rw[Jx _ _ _ e2,List.map_append,List.map_append,Jad];by_cases z:b∈outs bs
    ·rw [if_pos z];simp[z]
    ·rw [if_neg z];simp[z]
end
section
variable{P:VC}{w:VF}{K:Frag}{mg:VZ}{base:Heap}
def tellsF(H:Hp)(Q:VK):Option (VS)->Prop
 | some xs=>∀ (z:VB) (H':Hp),Same H H'->H' z=some (.tup xs)->Q (.ref z) H'
 | none=>∀ H',Same H H'->Q .non H'
theorem tellsF.mono{H H1:Hp}{Q:VK}{o:Option (VS)}(h:tellsF H Q o)(s:Same H H1):tellsF H1 Q o:=by
 cases o with
 | some xs=>exact fun z H' s' e=>h z H' (s.trans s') e
 | none=>exact fun H' s'=>h H' (s.trans s')
def spFF:Sp:=fun vs H Q _=>∃(l1 l2:VB)(ws:VS)(tl:VX)(ll:VY),vs=[.ref l1,.ref l2]/\H l1=some (.lst ws)/\Ars H ws tl/\H l2=some (.lst (ll.map V.int))/\tellsF H Q (ffV tl ll)
theorem kn_ff(D:DefAt K mg "first_fault" ZL ["tied","lost"]):Kn P w K mg base 1 "first_fault" ["tied","lost"] spFF:=by
 have sc:FnScope ["tied","lost"] ["tied","lost"] (Jh ZL):=⟨rfl,rfl,rfl,by decide +kernel,rfl,by decide +kernel,by decide +kernel⟩;refine D.kn (N:=["tied","lost"]) sc (fun vs H Q E h=>?_) (fun f cdv A outer s H vs Q E hr h=>?_)
 ·obtain ⟨l1,l2,ws,tl,ll,rfl,_⟩:=h;rfl
 ·obtain ⟨l1,l2,ws,tl,ll,rfl,h1,ar,h2,k⟩:=h;have hu1:=Nat.lt_of_succ_lt (YI hr);have c0:0<=sizeLine:=by decide
  have c2:2<=sizeLine:=by decide
  have c3:3<=sizeLine:=by decide
  refine⟨_,(Jd (JA (Jo (UX hu1) (pv 0) (JP Jb) (Jn _)) (Je (Ji (JI (Ja ZN (Ja (Jv Jz (Jv JB (pv 0) Jf (fun _ _=>rfl)) Jf (fun _ _=>rfl)) (Ja (Jv Jz (Jv JB (pv 0) Jf (fun _ _=>rfl)) Jf (fun _ _=>rfl)) Jb)))))) Jt) (Jd (JA (Jo (UX hu1) (pv 1) (JP Jb) (Jn _)) (Je (Ji (JI (Ja ZN (Ja (Jv JB (pv 1) Jf (fun _ _=>rfl)) Jb))))) Jt) (Je (Ji Yr)))),?_⟩;refine⟨_,rfl,c0,fun z hz=>?_⟩;have s1:=Same.upd (o:=.lst []) hz;rcases tl with _|⟨⟨x,y⟩,tl'⟩
  ·cases ar;refine⟨l1,z,[],rfl,rfl,SqL.of (s1 _ _ h1),SqL.of Jc,_,rfl,iteF ?_⟩;refine⟨_,rfl,c0,fun y hy=>?_⟩;have s2:=s1.trans (Same.upd (o:=.lst []) hy);cases ll with
   | nil =>
    refine⟨l2,y,[],rfl,rfl,SqL.of (s2 _ _ h2),SqL.of Jc,_,rfl,iteF ?_⟩;exact k _ s2
   | cons p r =>
    refine⟨l2,y,_,rfl,rfl,SqL.of (s2 _ _ h2),SqL.of Jc,_,rfl,iteT ?_⟩;exact⟨_,rfl,l2,_,_,.int p,rfl,rfl,SqL.of (s2 _ _ h2),JS (j:=0) rfl,c2,fun b hb=>k b _ (s2.trans (Same.upd hb)) Jc⟩
  ·rcases ws with _ | ⟨v,ws'⟩
   ·cases ar
   ·cases ar with
    | cons q r =>
     obtain⟨g,rfl,hg⟩:=q;refine⟨l1,z,_,rfl,rfl,SqL.of (s1 _ _ h1),SqL.of Jc,_,rfl,iteT ?_⟩;refine⟨_,rfl,l1,_,_,.ref g,rfl,rfl,SqL.of (s1 _ _ h1),JS (j:=0) rfl,g,_,_,.int x,rfl,rfl,SqT.of (s1 _ _ hg),rfl,?_⟩;exact⟨_,rfl,l1,_,_,.ref g,rfl,rfl,SqL.of (s1 _ _ h1),JS (j:=0) rfl,g,_,_,.int y,rfl,rfl,SqT.of (s1 _ _ hg),rfl,c3,fun b hb=>k b _ (s1.trans (Same.upd hb)) Jc⟩
def spFB:Sp:=fun vs H Q _=>∃(a t c:VB)(m:Int)(us:VS)(ars:VX)(bs:List Bool),vs=[.ref a,.ref c]/\WB H a t c m us ars bs/\tellsF H Q (fbV ars bs)
theorem kn_fb(D:DefAt K mg "fault_begun" ZM ["web","begun"])(kf:Kn P w K mg base 1 "first_fault" ["tied","lost"] spFF)(kt:Kn P w K mg base 3 "tied_begun" ["web","begun"] spTB)(kl:Kn P w K mg base 2 "lost_begun" ["web","begun"] spLB):Kn P w K mg base 4 "fault_begun" ["web","begun"] spFB:=by
 have sc:FnScope ["web","begun"] ["web","begun"] (Jh ZM):=⟨rfl,rfl,rfl,by decide +kernel,rfl,by decide +kernel,by decide +kernel⟩;refine D.kn (N:=["web","begun"]) sc (fun vs H Q E h=>?_) (fun f cdv A outer s H vs Q E hr h=>?_)
 ·obtain ⟨a,t,c,m,us,ars,bs,rfl,_⟩:=h;rfl
 ·obtain ⟨a,t,c,m,us,ars,bs,rfl,W,k⟩:=h;have r1:=hr.mono (j:=1) (by decide);have r2:=hr.mono (j:=2) (by decide);refine⟨_,(Je (Ji (Jl kf r1 (Ja (Jl kt hr (Ja (pv 0) (Ja (pv 1) Jb))) (Ja (Jl kl r2 (Ja (pv 0) (Ja (pv 1) Jb))) Jb))))),?_⟩;refine⟨_,rfl,_,rfl,a,t,c,m,us,ars,bs,rfl,W,fun l1 ws H1 s1 h1 ar=>?_⟩;refine⟨_,rfl,_,rfl,a,t,c,m,us,ars,bs,rfl,W.mono s1,fun l2 H2 s2 h2=>?_⟩;exact⟨l1,l2,ws,tbL ars bs,lbL ars bs,rfl,s2 _ _ h1,ar.mono s2,h2,k.mono (s1.trans s2)⟩
def Jnd:Sp:=fun vs H Q _=>∃(a t:VB)(m:Int)(us:VS)(ars:VX),vs=[.ref a]/\Web H a t m us ars/\Jy m ars/\m<=11/\∀(l:VB)(ws:VS)(H':Hp),Same H H'->H' l=some (.lst ws)->Bks H' ws (AMk ars m.toNat)->Q (.ref l) H'
theorem Jvz(D:DefAt K mg "all_marks" WH ["web"])(fr:Free mg ["range"])(kf:Kn P w K mg base 4 "fault_begun" ["web","begun"] spFB):Kn P w K mg base 5 "all_marks" ["web"] Jnd:=by
 have sc:FnScope ["web","beginnings","place","longer"] ["web"] (Jh WH):=⟨rfl,rfl,rfl,by decide +kernel,rfl,by decide +kernel,by decide +kernel⟩;refine D.kn (N:=["web","beginnings","place","longer"]) sc (fun vs H Q E h=>?_) (fun f cdv A outer s H vs Q E hr h=>?_)
 ·obtain ⟨a,t,m,us,ars,rfl,_⟩:=h;rfl
 ·obtain ⟨a,t,m,us,ars,rfl,W,ga,m12,k⟩:=h;have m1:=fr "range" (by simp);have hm:=W.mb;have nd:(["begun"]:VJ).Nodup:=by decide +kernel
  have nd2:(["begun","web"]:VJ).Nodup:=by decide +kernel
  have c0:0<=sizeLine:=by decide
  have c1:1<=sizeLine:=by decide
  refine⟨_,(Jd (Jr (i:=1) sc.nd rfl (Or.inl rfl) (JP (Ja (JI Jb) Jb))) (Jd (YL PassesOwn.never rfl (JV rfl m1 (Ja (Jv Jz (pv 0) Jf (fun _ _=>rfl)) Jb)) (Jp (i:=2) sc.nd rfl (Or.inl rfl)) (Jd (Jr (i:=3) sc.nd rfl (Or.inl rfl) (JD Jhh (Yb (N:=["begun"]) (src:=[none]) (cl:=[]) rfl ⟨rfl,rfl,rfl,rfl,trivial,rfl,rfl,rfl⟩ (Js (i:=0) rfl) (JQ (pv 1)) (fun C s H fp=>⟨(Jp (i:=0) nd rfl (Or.inl rfl)),JC,(JD YZ (pv 0) (JI (Ja JG Jb)))⟩)) (Yb (N:=["begun"]) (src:=[none]) (cl:=[]) rfl ⟨rfl,rfl,rfl,rfl,trivial,rfl,rfl,rfl⟩ (Js (i:=0) rfl) (JQ (pv 1)) (fun C s H fp=>⟨(Jp (i:=0) nd rfl (Or.inl rfl)),JC,(JD YZ (pv 0) (JI (Ja JG Jb)))⟩)))) (Je (YK (i:=1) (N:=["begun","web"]) (src:=[none,some 0]) sc.nd rfl rfl rfl rfl ⟨rfl,rfl,rfl,rfl,⟨⟨rfl,rfl⟩,trivial⟩,rfl,rfl,rfl⟩ (Js (i:=0) rfl) (JQ (pv 3)) (fun C s H fp=>⟨(Jp (i:=0) nd2 rfl (Or.inl rfl)),(JW (Jo Jdt (Jl kf hr (Ja (pv 1) (Ja (pv 0) Jb))) Yr (Jn _))),(pv 0)⟩))))) (Je (Ji (pv 1))))),?_⟩;refine⟨c0,fun e he=>⟨c1,fun l hl=>?_⟩⟩;have s1:=(Same.upd (o:=.tup []) he).trans (Same.upd (o:=.lst [.ref e]) hl);refine⟨_,rfl,a,_,_,_,rfl,rfl,SqT.of (s1 _ _ W.top),rfl,m,rfl,by omega,by omega,Ui (fun i σ H2=>∃(lb:VB)(ws:VS)(v2 v3:Option V),σ=[some (.ref a),some (.ref lb),v2,v3]/\Same H H2/\H2 lb=some (.lst ws)/\Bks H2 ws (AMk ars i)) ⟨l,_,_,_,rfl,s1,Jc,.cons ⟨e,rfl,Same.upd hl _ _ Jc⟩ .nil⟩ ?_ ?_⟩
  ·rintro i σ H2 hi ⟨lb,ws,v2,v3,rfl,s2,hlb,bk⟩;have hi:i<12:=by omega
   have lw:ws.length=(AMk ars i).length:=Paired.length bk;have l2:ws.length<=4096:=by have:=Jaf ars i;have:2^i<=2^12:=Nat.pow_le_pow_right (by decide) (by omega);omega
   refine⟨_,rfl,lb,rfl,⟨_,SqL.of hlb⟩,Ya (xs:=ws) (fun j zs H3=>Same H2 H3/\Bks H3 zs (((AMk ars i).take j).map fun bs=>bs++[false])) ⟨Same.refl _,.nil⟩ ?_ ?_ ?_⟩
   ·rintro j zs H3 hj ⟨s3,bz⟩;have:=Paired.length bz;rw[List.length_map,List.length_take]at this;exact⟨SqL.of (s3 _ _ hlb),SZ (Yp (by omega))⟩
   ·rintro zs H3 ⟨s3,bz⟩ l1 hl1;rw[lw,List.take_of_length_le (Nat.le_refl _)]at bz;have s3':=s3.trans (Same.upd (o:=.lst zs) hl1);have bz':=bz.mono (Same.upd (o:=.lst zs) hl1);have h1:(upd H3 l1 (.lst zs)) l1=some (.lst zs):=Jc;generalize upd H3 l1 (.lst zs)=H3' at s3' bz' h1;have lz:zs.length=ws.length:=by have:=Paired.length bz';rw[List.length_map]at this;omega
    have bk3:=bk.mono s3';have hlb3:=s3' _ _ hlb;refine⟨_,rfl,lb,rfl,⟨_,SqL.of hlb3⟩,Ya (xs:=ws) (fun j ys H4=>Same H3' H4/\Bks H4 ys (((AMk ars i).take j).map fun bs=>bs++[true])) ⟨Same.refl _,.nil⟩ ?_ ?_ ?_⟩
    ·rintro j ys H4 hj ⟨s4,by_⟩;have:=Paired.length by_;rw[List.length_map,List.length_take]at this;exact⟨SqL.of (s4 _ _ hlb3),SZ (Yp (by omega))⟩
    ·rintro ys H4 ⟨s4,by_⟩ l2' hl2';rw[lw,List.take_of_length_le (Nat.le_refl _)]at by_;have ly:ys.length=ws.length:=by have:=Paired.length by_;rw[List.length_map]at this;omega
     have s5:=s4.trans (Same.upd (o:=.lst ys) hl2');refine⟨l1,l2',zs,ys,rfl,rfl,s5 _ _ h1,Jc,SZ (Yp (by omega)),fun l3 hl3=>?_⟩;have s6:=s5.trans (Same.upd (o:=.lst (zs++ys)) hl3);have bb:Bks (upd (upd H4 l2' (.lst ys)) l3 (.lst (zs++ys))) (zs++ys) ((AMk ars i).map (fun bs=>bs++[false])++(AMk ars i).map fun bs=>bs++[true]):=Bks.app (bz'.mono s6) (by_.mono ((Same.upd hl2').trans (Same.upd hl3)));have h3:(upd (upd H4 l2' (.lst ys)) l3 (.lst (zs++ys))) l3=some (.lst (zs++ys)):=Jc;generalize upd (upd H4 l2' (.lst ys)) l3 (.lst (zs++ys))=H6 at s6 bb h3;have s26:=s2.trans (s3'.trans s6);have each:∀bs∈(AMk ars i).map (fun bs=>bs++[false])++(AMk ars i).map (fun bs=>bs++[true]),bs.length=i+1:=fun bs hb=>by
      rcases SS.mp hb with z|z
      ·obtain ⟨c,hc,rfl⟩:=SL.mp z;rw[List.length_append,Zw ars i c hc];rfl
      ·obtain ⟨c,hc,rfl⟩:=SL.mp z;rw[List.length_append,Zw ars i c hc];rfl
     have eA:AMk ars (i+1)=((AMk ars i).map (fun bs=>bs++[false])++(AMk ars i).map fun bs=>bs++[true]).filter (noF ars):=rfl;generalize (AMk ars i).map (fun bs=>bs++[false])++(AMk ars i).map (fun bs=>bs++[true])=LL at bb each eA;have lL:(zs++ys).length=LL.length:=Paired.length bb;have lzy:(zs++ys).length<=8192:=by rw[List.length_append];omega
     refine Jw ?_;dsimp only;refine⟨_,rfl,l3,rfl,⟨_,SqL.of h3⟩,ZB (xs:=zs++ys) (fun j xs H7=>Same H6 H7/\Bks H7 xs ((LL.take j).filter (noF ars))) ⟨Same.refl _,.nil⟩ ?_ ?_ ?_⟩
     ·rintro j xs H7 hj ⟨s7,bx⟩;have e1:=Paired.length bx;have e2:=SU (noF ars) (LL.take j);rw[List.length_take]at e2;exact⟨SqL.of (s7 _ _ h3),SZ (Yp (by omega))⟩
     ·rintro xs H7 ⟨s7,bx⟩ ln hln;rw[lL,List.take_of_length_le (Nat.le_refl _),<- eA]at bx;refine Jw ?_;dsimp only;exact⟨ln,xs,_,_,rfl,s26.trans (s7.trans (Same.upd hln)),Jc,bx.mono (Same.upd hln)⟩
     ·rintro j x xs H7 hx hj ⟨s7,bx⟩;obtain⟨bs,e1,p,rfl,hp⟩:=Paired.get' bb hx;have fs:=JJ (noF ars) LL j bs e1;have lb':=each bs (SK e1);have W7:WB H7 a t p m us ars bs:=⟨W.mono (s26.trans s7),ga,s7 _ _ hp,by omega⟩;refine⟨_,rfl,_,rfl,a,t,p,m,us,ars,bs,rfl,W7,?_⟩;unfold noF at fs;generalize hf:fbV ars bs=fo;cases fo with
      | none =>
       intro H8 s8;refine⟨rfl,_,rfl,iteT ⟨_,rfl,nx hj ⟨s7.trans s8,?_⟩⟩⟩;rw[if_pos (show(fbV ars bs).isNone=true by rw[hf];rfl)]at fs;show Bks H8 _ ((LL.take (j+1)).filter fun bs=>(fbV ars bs).isNone);rw[fs];exact Paired.snoc (bx.mono s8) ⟨p,rfl,(s7.trans s8) _ _ hp⟩
      | some xs' =>
       intro z H8 s8 hz';refine⟨rfl,_,rfl,iteF (nx hj ⟨s7.trans s8,?_⟩)⟩;rw[if_neg (show ¬ (fbV ars bs).isNone=true by rw[hf];exact Bool.false_ne_true),List.append_nil]at fs;show Bks H8 _ ((LL.take (j+1)).filter fun bs=>(fbV ars bs).isNone);rw[fs];exact bx.mono s8
    ·rintro j x ys H4 hx hj ⟨s4,by_⟩;obtain⟨bs,e1,p,rfl,hp⟩:=Paired.get' bk3 hx;have lb':=Zw ars i bs (SK e1);refine⟨_,rfl,c1,fun q hq=>⟨p,q,_,_,rfl,rfl,Same.upd hq _ _ (s4 _ _ hp),Jc,?_,fun r H5 s5 hr5=>nx hj ⟨(s4.trans (Same.upd hq)).trans s5,?_⟩⟩⟩
     ·rw [List.length_map];exact SZ (Yp (by show bs.length+1<=_;omega))
     ·rw [Jx _ _ _ e1,List.map_append];exact Paired.snoc (by_.mono ((Same.upd hq).trans s5)) ⟨r,rfl,by rw[hr5,List.map_append];rfl⟩
   ·rintro j x zs H3 hx hj ⟨s3,bz⟩;obtain⟨bs,e1,p,rfl,hp⟩:=Paired.get' bk hx;have lb':=Zw ars i bs (SK e1);refine⟨_,rfl,c1,fun q hq=>⟨p,q,_,_,rfl,rfl,Same.upd hq _ _ (s3 _ _ hp),Jc,?_,fun r H5 s5 hr5=>nx hj ⟨(s3.trans (Same.upd hq)).trans s5,?_⟩⟩⟩
    ·rw [List.length_map];exact SZ (Yp (by show bs.length+1<=_;omega))
    ·rw [Jx _ _ _ e1,List.map_append];exact Paired.snoc (bz.mono ((Same.upd hq).trans s5)) ⟨r,rfl,by rw[hr5,List.map_append];rfl⟩
  ·rintro σ H2 ⟨lb,ws,v2,v3,rfl,s2,hlb,bk⟩;exact⟨_,rfl,k lb ws H2 s2 hlb bk⟩
end
end Hk
namespace Hk
open PySem L2
theorem Ze{α β:Type}{R:α->β->Prop}{x:α}{y:β}:∀{xs:List α}{ys:List β},Paired R xs ys->R x y->Paired R (xs++[x]) (ys++[y])
 | _,_,.nil,h=>.cons h .nil
 | _,_,.cons a r,h=>.cons a (Ze r h)
section
variable{P:VC}{w:VF}{K:VG}{mg:VZ}{base:Heap}
end
def ZO(m:Int)(ns:VY):List Bool:=(List.range m.toNat).map fun(k:Nat)=>decide ((k:Int)∈ns)
theorem Wp(m:Int)(ns:VY):(ZO m ns).length=m.toNat:=by unfold ZO;rw[List.length_map,List.length_range]
theorem Jgp:∀{a b:VY},a.Pairwise (·<·)->b.Pairwise (·<·)->(∀n,n∈a↔n∈b)->a=b
 | [],[],_,_,_=>rfl
 | [],y::_,_,_,h=>by simp at h; exact absurd rfl (h y).1
 | x::_,[],_,_,h=>by simp at h; exact absurd rfl (h x).1
 | x::r,y::q,ha,hb,h=>by
  rw[List.pairwise_cons]at ha hb;have e:x=y:=by
   have h1:=(h x).mp (by simp);have h2:=(h y).mpr (by simp);rcases List.mem_cons.mp h1 with z|z
   ·exact z
   ·rcases List.mem_cons.mp h2 with u | u
    ·exact u.symm
    ·have:=ha.1 _ u;have:=hb.1 _ z;omega
  subst e;congr 1;refine Jgp ha.2 hb.2 fun n=>?_;constructor
  ·intro hn;rcases List.mem_cons.mp ((h n).mp (SD _ hn))with z|z
   ·exact absurd (ha.1 _ hn) (by omega)
   ·exact z
  ·intro hn;rcases List.mem_cons.mp ((h n).mpr (SD _ hn))with z|z
   ·exact absurd (hb.1 _ hn) (by omega)
   ·exact z
theorem Ua{m:Int}{ns:VY}(R:Rise ns m):plw (ZO m ns) true (ZO m ns).length=ns:=by
 refine Jgp (Jhc _ _ _) R.up fun n=>?_;rw[YY];constructor
 ·rintro ⟨j,hj,hb,rfl⟩;rw[Wp]at hj;unfold ZO at hb;have:decide ((j:Int)∈ns)=true:=by simpa [hj]using hb
  exact of_decide_eq_true this
 ·intro hn;have hb:=R.bd n hn;have hj:n.toNat<m.toNat:=by omega
  have en:((n.toNat:Nat):Int)=n:=by omega
  refine⟨n.toNat,by rw[Wp];exact hj,?_,en.symm⟩;unfold ZO;rw[List.getElem?_map,List.getElem?_range hj];show some (decide (((n.toNat:Nat):Int)∈ns))=some true;rw[en,decide_eq_true hn]
theorem Jlc{bs:List Bool}{b:Bool}{m:Int}(h:(bs.length:Int)=m):Rise (plw bs b bs.length) m:=by refine⟨fun n hn=>?_,Jhc _ _ _⟩;obtain⟨j,hj,_,rfl⟩:=YY.mp hn;omega
theorem Jdv{ars:VX}{bs:List Bool}:noF ars bs=true↔(∀q∈ars,¬ (q.1∈plw bs true bs.length/\q.2∈plw bs true bs.length))/\∀p∈outs bs,∃b∈ldI ars p,b∉outs bs:=by
 have h1:noF ars bs=true↔tbL ars bs=[]/\lbL ars bs=[]:=by
  unfold noF fbV;cases tbL ars bs with
  | cons q r=>obtain ⟨x,y⟩:=q; simp [ffV]
  | nil =>
   cases lbL ars bs with
   | nil=>simp [ffV]
   | cons p r=>simp [ffV]
 rw[h1];unfold tbL lbL;rw[List.filter_eq_nil_iff,List.filter_eq_nil_iff];constructor
 ·rintro ⟨a,b⟩;refine⟨fun q hq z=>a q hq (by unfold both;rw[decide_eq_true z.1,decide_eq_true z.2];rfl),fun p hp=>?_⟩;have:=b p hp;rw[List.all_eq_true]at this;simp only[decide_eq_true_eq]at this;simpa using this
 ·rintro ⟨a,b⟩;refine⟨fun q hq z=>a q hq ?_,fun p hp z=>?_⟩
  ·unfold both at z;simpa using z
  ·obtain ⟨c,hc,hn⟩:=b p hp;rw[List.all_eq_true]at z;exact hn (of_decide_eq_true (z c hc))
theorem JY{ars:VX}{p b:Int}:b∈ldI ars p↔(p,b)∈ars:=by
 unfold ldI;rw[List.mem_map];constructor
 ·rintro ⟨⟨x,y⟩,hq,rfl⟩;rw[List.mem_filter]at hq;have:x=p:=of_decide_eq_true hq.2;subst this;exact hq.1
 ·intro h;exact⟨(p,b),SR.mpr ⟨h,decide_eq_true rfl⟩,rfl⟩
theorem Qb{bs:List Bool}{n:Int}:n∈outs bs↔∃j:Nat,j<bs.length/\bs[j]?=some false/\n=(j:Int):=YY
theorem Uh{bs:List Bool}{n:Int}(h0:0<=n)(h1:n<(bs.length:Int)):n∉outs bs↔n∈plw bs true bs.length:=by
 have hl:n.toNat<bs.length:=by omega
 have en:((n.toNat:Nat):Int)=n:=by omega
 rw[Qb,YY];have e1:bs[n.toNat]?=some bs[n.toNat]:=SN hl;constructor
 ·intro h;refine⟨n.toNat,hl,?_,en.symm⟩;rw[e1];cases e:bs[n.toNat] with
  | true=>rfl
  | false=>exact absurd ⟨n.toNat,hl,by rw [e1,e],en.symm⟩ h
 ·rintro ⟨j,hj,hb,e⟩ ⟨i,hi,hc,e'⟩;have:i=j:=by omega
  subst this;rw[hb]at hc;cases hc
theorem Jcj{m:Int}{ars:VX}{bs:List Bool}(hl:(bs.length:Int)=m)(ga:Jy m ars):noF ars bs=true↔JR m ars (plw bs true bs.length)=false:=by
 rw[Jdv];have hF:JR m ars (plw bs true bs.length)=false↔(∀q∈ars,¬ (q.1∈plw bs true bs.length/\q.2∈plw bs true bs.length))/\∀k:Nat,k<m.toNat->Yl ars (plw bs true bs.length) (k:Int)=true:=by
  unfold JR;rw[Bool.or_eq_false_iff];refine and_congr ?_ ?_
  ·rw [List.any_eq_false];refine forall_congr' fun q=>forall_congr' fun hq=>?_;unfold both;simp
  ·rw [List.any_eq_false];constructor
   ·intro h k hk;have:=h (k:Int) (SL.mpr ⟨k,LZ.mpr hk,rfl⟩);simpa using this
   ·intro h x hx;obtain⟨k,hk,rfl⟩:=SL.mp hx;rw[h k (List.mem_range.mp hk)];decide
 rw[hF];refine and_congr Iff.rfl ?_;constructor
 ·intro h k hk;unfold Yl;by_cases z:(k:Int)∈plw bs true bs.length
  ·rw [decide_eq_true z];rfl
  ·have zo:(k:Int)∈outs bs:=Classical.byContradiction fun y=>z ((Uh (by omega) (by omega)).mp y);obtain⟨b,hb,hn⟩:=h _ zo;have ha:=JY.mp hb;have g:=ga _ ha;have hi:=(Uh (by omega) (by omega)).mp hn;rw[Bool.or_eq_true];refine .inr (List.any_eq_true.mpr ⟨((k:Int),b),ha,?_⟩);rw[decide_eq_true rfl,decide_eq_true hi];rfl
 ·intro h p hp;obtain⟨j,hj,hb,rfl⟩:=Qb.mp hp;have hk:=h j (by omega);unfold Yl at hk;rcases Bool.or_eq_true_iff.mp hk with z|z
  ·exact absurd hp ((Uh (by omega) (by omega)).mpr (of_decide_eq_true z))
  ·obtain ⟨⟨x,b⟩,ha,hc⟩:=List.any_eq_true.mp z;rw[Bool.and_eq_true]at hc;have e:x=(j:Int):=of_decide_eq_true hc.1;subst e;have g:=ga _ ha;exact⟨b,JY.mpr ha,(Uh (by omega) (by omega)).mpr (of_decide_eq_true hc.2)⟩
theorem Jab{bs:List Bool}{b x:Bool}{n:Int}(h:n∈plw bs b bs.length):n∈plw (bs++[x]) b (bs++[x]).length:=by obtain⟨j,hj,hb,rfl⟩:=YY.mp h;exact YY.mpr ⟨j,by rw[List.length_append];omega,by rw[List.getElem?_append_left hj];exact hb,rfl⟩
theorem Jjd{ars:VX}{bs:List Bool}{x:Bool}(h:noF ars (bs++[x])=true):noF ars bs=true:=by rw[Jdv]at h ⊢;refine⟨fun q hq z=>h.1 q hq ⟨Jab z.1,Jab z.2⟩,fun p hp=>?_⟩;obtain⟨b,hb,hn⟩:=h.2 p (Jab hp);exact⟨b,hb,fun z=>hn (Jab z)⟩
theorem Jrv (ars:VX):noF ars []=true:=Jdv.mpr ⟨fun q _ z=>by
 obtain⟨j,hj,_⟩:=YY.mp z.1;exact absurd hj (by simp),fun p hp=>by
 obtain⟨j,hj,_⟩:=Qb.mp hp
 exact absurd hj (by simp)⟩
theorem YO{ars:VX}:∀{k:Nat}{bs:List Bool},bs∈AMk ars k↔bs.length=k/\noF ars bs=true
 | 0,bs=>by
  show bs∈[[]]↔_;rw[List.mem_singleton];constructor
  ·rintro rfl;exact⟨rfl,Jrv ars⟩
  ·rintro ⟨h,_⟩;exact List.eq_nil_of_length_eq_zero h
 | k + 1,bs=>by
  show bs∈List.filter (noF ars) _↔_;rw[List.mem_filter,List.mem_append,List.mem_map,List.mem_map];constructor
  ·rintro ⟨⟨c,hc,rfl⟩ | ⟨c,hc,rfl⟩,hn⟩
   ·exact ⟨by rw [List.length_append,(YO.mp hc).1]; rfl,hn⟩
   ·exact ⟨by rw [List.length_append,(YO.mp hc).1]; rfl,hn⟩
  ·rintro ⟨hl,hn⟩;refine⟨?_,hn⟩;rcases List.eq_nil_or_concat bs with rfl|⟨r,x,rfl⟩
   ·cases hl
   ·rw [List.concat_eq_append] at hl hn ⊢;have hr:r∈AMk ars k:=YO.mpr ⟨by rw[List.length_append]at hl;simpa using hl,Jjd hn⟩;cases x with
    | false=>exact .inl ⟨r,hr,rfl⟩
    | true=>exact .inr ⟨r,hr,rfl⟩
theorem QN(ars:VX):∀k,(AMk ars k).Nodup
 | 0=>SV _ _
 | k + 1=>by
  show(List.filter _ _).Nodup;refine List.Pairwise.filter _ ?_;have ih:=QN ars k;refine List.nodup_append.mpr ⟨?_,?_,?_⟩
  ·exact List.Pairwise.map _ (fun a b h e=>h (List.append_cancel_right e)) ih
  ·exact List.Pairwise.map _ (fun a b h e=>h (List.append_cancel_right e)) ih
  ·intro a ha b hb e;obtain⟨c,_,rfl⟩:=SL.mp ha;obtain⟨d,_,rfl⟩:=SL.mp hb;have:=congrArg List.getLast? e;simp at this
theorem Jre{bs cs:List Bool}(hl:bs.length=cs.length)(h:plw bs true bs.length=plw cs true cs.length):bs=cs:=by
 apply List.ext_getElem hl;intro i h1 h2;have a:(i:Int)∈plw bs true bs.length↔bs[i]=true:=by
  rw[YY];constructor
  ·rintro ⟨j,hj,hb,e⟩;have:i=j:=by omega
   subst this;exact(SY.mp hb).2
  ·intro e;exact⟨i,h1,by rw[List.getElem?_eq_getElem h1,e],rfl⟩
 have b:(i:Int)∈plw cs true cs.length↔cs[i]=true:=by
  rw[YY];constructor
  ·rintro ⟨j,hj,hb,e⟩;have:i=j:=by omega
   subst this;exact(SY.mp hb).2
  ·intro e;exact⟨i,h2,by rw[List.getElem?_eq_getElem h2,e],rfl⟩
 rw[h]at a;have:=a.symm.trans b;cases x:bs[i] with
 | true=>exact (this.mp x).symm
 | false =>
  cases y:cs[i] with
  | false=>rfl
  | true =>
   rw[this.mpr y]at x;cases x
def ZP(ars:VX)(k:Nat):List (VY):=(AMk ars k).map fun bs=>plw bs true bs.length
theorem Zs{m:Int}{ars:VX}(hm:0<=m)(ga:Jy m ars){ns:VY}:ns∈ZP ars m.toNat↔Rise ns m/\JR m ars ns=false:=by
 unfold ZP;rw[List.mem_map];constructor
 ·rintro ⟨bs,hb,rfl⟩;obtain⟨hl,hn⟩:=YO.mp hb;exact⟨Jlc (by omega),(Jcj (by omega) ga).mp hn⟩
 ·rintro ⟨R,hf⟩;refine⟨ZO m ns,YO.mpr ⟨Wp m ns,?_⟩,Ua R⟩;refine(Jcj (by rw[Wp];omega) ga).mpr ?_;rw[Ua R];exact hf
theorem Qg(ars:VX)(k:Nat):(ZP ars k).Nodup:=by unfold ZP;refine List.pairwise_map.mpr (List.Pairwise.imp_of_mem (fun {a b} ha hb h e=>h (Jre ?_ e)) (QN ars k));rw[(YO.mp ha).1,(YO.mp hb).1]
theorem Jod{m:Int}{ars:VX}(hm:1<=m){ns:VY}(h:JR m ars ns=false):ns≠[]:=by
 rintro rfl;unfold JR at h;rw[Bool.or_eq_false_iff]at h;have h2:=List.any_eq_false.mp h.2;have:=h2 0 (SL.mpr ⟨0,LZ.mpr (by omega),rfl⟩);apply this;unfold Yl;have:(ars.any fun q=>decide (q.1=0)&&decide (q.2∈([]:VY)))=false:=by rw[List.any_eq_false];intro q _;simp
 rw[this];rfl
structure HoldsUp(m:Int)(ars:VX)(T:List (VY)):Prop where
 st:StcL T
 mem:∀ns,ns∈T↔Rise ns m/\JR m ars ns=false
theorem HoldsUp.uniq{m:Int}{ars:VX}{T U:List (VY)}(x:HoldsUp m ars T)(y:HoldsUp m ars U):T=U:=x.st.uniq y.st fun ns=>(x.mem ns).trans (y.mem ns).symm
theorem HoldsUp.of_marks{m:Int}{ars:VX}{T:List (VY)}(hm:0<=m)(ga:Jy m ars)(hp:T.Perm (ZP ars m.toNat))(r:RisL T):HoldsUp m ars T :=
 ⟨QP r (hp.symm.nodup (Qg ars _)),fun ns=>hp.mem_iff.trans (Zs hm ga)⟩
end Hk
namespace Hk
structure KerOn(ar:Int->Int->Bool)(S:VY)(f:Int->Bool):Prop where
 free:∀x∈S,f x=true->∀y∈S,ar x y=true->f y=false
 led:∀x∈S,f x=false->∃y∈S,ar x y=true/\f y=true
def mmG:Nat->Nat
 | 0=>1 | 1=>1 | 2=>2 | 3=>3 | 4=>4 | 5=>6 | 6=>9 | 7=>12 | 8=>18 | 9=>27 | 10=>36 | _=>54
theorem Joh:∀n<12,∀d<n,(d+1)*mmG (n-1-d)<=mmG n:=by decide +kernel
theorem Joi:∀n<12,∀k≤n,mmG k<=mmG n:=by decide +kernel
def Zz(ar:Int->Int->Bool)(S:VY)(v:Int):VY:=S.filter fun y=>ar v y
theorem Jjg(ar:Int->Int->Bool)(S:VY):∀l:VY,l≠[]->∃v∈l,∀u∈l,(Zz ar S v).length<=(Zz ar S u).length
 | [],h=>absurd rfl h
 | [a],_=>⟨a,by simp,fun u hu=>by rw [List.mem_singleton.mp hu]; exact SJ _⟩
 | a::b::r,_=>by
  obtain⟨v,hv,hm⟩:=Jjg ar S (b::r) (by simp);by_cases h:(Zz ar S a).length<=(Zz ar S v).length
  ·refine ⟨a,by simp,fun u hu=>?_⟩;rcases List.mem_cons.mp hu with rfl|hu
   ·exact SJ _
   ·exact LQ h (hm u hu)
  ·refine ⟨v,SD _ hv,fun u hu=>?_⟩;rcases List.mem_cons.mp hu with rfl|hu
   ·omega
   ·exact hm u hu
theorem Jct{α:Type}:∀(C:VY)(p:α->Int->Bool)(L:List α)(b:Nat),(∀f∈L,∃u∈C,p f u=true)->(∀u∈C,(L.filter fun f=>p f u).length<=b)->L.length<=C.length*b
 | [],p,L,b,h,_=>by
  cases L with
  | nil=>simp
  | cons f r=>obtain ⟨u,hu,_⟩:=h f (by simp); cases hu
 | c::C,p,L,b,h,hb=>by
  have h1:=hb c (by simp);have h2:=Jct C p (L.filter fun f=>!p f c) b (fun f hf=>by
   obtain⟨hf1,hf2⟩:=SR.mp hf;obtain⟨u,hu,pu⟩:=h f hf1;rcases List.mem_cons.mp hu with rfl|hu
   ·rw [pu] at hf2; cases hf2
   ·exact ⟨u,hu,pu⟩) (fun u hu=>by
   refine LQ ?_ (hb u (SD _ hu));rw[List.filter_filter,<- List.countP_eq_length_filter,<- List.countP_eq_length_filter];exact List.countP_mono_left fun a _ ha=>by
    rw[Bool.and_eq_true]at ha
    exact ha.1)
  have e:(L.filter fun f=>p f c).length+(L.filter fun f=>!p f c).length=L.length:=by
   rw[<- List.countP_eq_length_filter,<- List.countP_eq_length_filter];have:=List.length_eq_countP_add_countP (fun f=>p f c) (l:=L);have e2:L.countP (fun f=>!p f c)=L.countP (fun f=>decide ¬ (p f c=true)):=by congr 1;funext f;cases p f c<;>rfl
   omega
  rw[List.length_cons,Nat.add_mul];omega
theorem Jmc(ar:Int->Int->Bool)(hs:∀x,ar x x=false):∀(n:Nat),n<12->∀(S:VY)(L:List (Int->Bool)),S.length<=n->(∀f∈L,KerOn ar S f)->L.Pairwise (fun f g=>∃x∈S,f x≠g x)->L.length<=mmG n:=by
 intro n;induction n using Nat.strongRecOn with
 | ind n ih =>
  intro hn S L hS hK hP;by_cases hne:S=[]
  ·subst hne;have:L.length<=1:=by
    match L,hP with
    | [],_=>simp
    | [_],_=>simp
    | f::g::r,hP =>
     obtain⟨x,hx,_⟩:=(List.pairwise_cons.mp hP).1 g (by simp);cases hx
   exact LQ this (Joi n hn 0 (LX _))
  obtain⟨v,hv,hmin⟩:=Jjg ar S S hne;have hd:(Zz ar S v).length<n:=by refine SC ?_ hS;unfold Zz;refine List.length_filter_lt_length_iff_exists.mpr ⟨v,hv,?_⟩;rw[hs];simp
  refine LQ (Jct (v::Zz ar S v) (fun f u=>f u) L (mmG (n-1-(Zz ar S v).length)) (fun f hf=>?_) (fun u hu=>?_)) (by rw[List.length_cons];exact Joh n hn _ hd)
  ·cases e:f v with
   | true=>exact ⟨v,by simp,e⟩
   | false =>
    obtain⟨y,hy,a,b⟩:=(hK f hf).led v hv e;exact⟨y,SD _ (SR.mpr ⟨hy,a⟩),b⟩
  ·have huS:u∈S:=by
    rcases List.mem_cons.mp hu with rfl|hu
    ·exact hv
    ·exact (SR.mp hu).1
   have hS':(S.filter fun y=>!decide (y=u)&&!ar u y&&!ar y u).length<=n-1-(Zz ar S v).length:=by
    have h1:=hmin u huS;have h2:(S.filter fun y=>!decide (y=u)&&!ar u y&&!ar y u).length+(Zz ar S u).length+1<=S.length:=by
     have hc:∀l:VY,(l.filter fun y=>!decide (y=u)&&!ar u y&&!ar y u).length+(Zz ar l u).length+(l.filter fun y=>decide (y=u)).length<=l.length:=by
      intro l;induction l with
      | nil=>simp [Zz]
      | cons a r ihr =>
       unfold Zz at ihr ⊢;rw[List.filter_cons,List.filter_cons,List.filter_cons,List.length_cons];by_cases e:a=u
       ·subst e;rw[hs];simp;omega
       ·have e':(decide (a=u))=false:=decide_eq_false e;rw[e'];cases h3:ar u a with
        | true=>simp; omega
        | false =>
         split<;>simp<;>omega
     have hc':=hc S;have h3:1<=(S.filter fun y=>decide (y=u)).length:=List.length_pos_iff.mpr (List.ne_nil_of_mem (SR.mpr ⟨huS,by simp⟩));omega
    omega
   have hlt:n-1-(Zz ar S v).length<n:=by omega
   refine ih _ hlt (by omega) (S.filter fun y=>!decide (y=u)&&!ar u y&&!ar y u) _ hS' (fun f hf=>?_) ?_
   ·obtain ⟨hf1,hf2⟩:=SR.mp hf;have hk:=hK f hf1;refine⟨fun x hx fx y hy a=>hk.free x (SR.mp hx).1 fx y (SR.mp hy).1 a,fun x hx fx=>?_⟩;obtain⟨hx1,hx2⟩:=SR.mp hx;rw[Bool.and_eq_true,Bool.and_eq_true,Bool.not_eq_true',Bool.not_eq_true',Bool.not_eq_true',decide_eq_false_iff_not]at hx2;obtain⟨y,hy,a,b⟩:=hk.led x hx1 fx;refine⟨y,SR.mpr ⟨hy,?_⟩,a,b⟩;rw[Bool.and_eq_true,Bool.and_eq_true,Bool.not_eq_true',Bool.not_eq_true',Bool.not_eq_true',decide_eq_false_iff_not];refine⟨⟨fun z=>?_,?_⟩,?_⟩
    ·rw [z,hx2.2] at a;cases a
    ·cases e:ar u y with
     | false=>rfl
     | true =>
      have:=hk.free u huS hf2 y hy e;rw[b]at this;cases this
    ·cases e:ar y u with
     | false=>rfl
     | true =>
      have:=hk.free y hy b u huS e;rw[hf2]at this;cases this
   ·refine List.Pairwise.imp_of_mem (fun {f g} hf hg h=>?_) (hP.filter _);obtain⟨hf1,hf2⟩:=SR.mp hf;obtain⟨hg1,hg2⟩:=SR.mp hg;obtain⟨x,hx,ne⟩:=h;refine⟨x,SR.mpr ⟨hx,?_⟩,ne⟩;rw[Bool.and_eq_true,Bool.and_eq_true,Bool.not_eq_true',Bool.not_eq_true',Bool.not_eq_true',decide_eq_false_iff_not];have both:∀h:Int->Bool,h∈L->h u=true->(ar u x=true\/ar x u=true)->h x=false:=fun h hh hu' c=>by
     cases e:h x with
     | false=>rfl
     | true =>
      rcases c with c|c
      ·rw [(hK h hh).free u huS hu' x hx c] at e; cases e
      ·have:=(hK h hh).free x hx e u huS c;rw[hu']at this;cases this
    refine⟨⟨fun z=>ne (by rw[z,hf2,hg2]),?_⟩,?_⟩
    ·cases e:ar u x with
     | false=>rfl
     | true=>exact absurd ((both f hf1 hf2 (.inl e)).trans (both g hg1 hg2 (.inl e)).symm) ne
    ·cases e:ar x u with
     | false=>rfl
     | true=>exact absurd ((both f hf1 hf2 (.inr e)).trans (both g hg1 hg2 (.inr e)).symm) ne
end Hk
namespace Hk
open PySem L2
theorem Jly{m:Int}{ars:VX}(hm:0<=m)(m11:m<=11)(ga:Jy m ars):(ZP ars m.toNat).length<64:=by
 have hS:∀{x:Int},x∈(List.range m.toNat).map (fun(k:Nat)=>(k:Int))->0<=x/\x<m:=fun {x} hx=>by obtain⟨k,hk,rfl⟩:=SL.mp hx;have:=LZ.mp hk;omega
 have:=Jmc (fun x y=>decide ((x,y)∈ars)) (fun x=>decide_eq_false fun h=>(ga _ h).2.2.2.2 rfl) m.toNat (by omega) ((List.range m.toNat).map fun(k:Nat)=>(k:Int)) ((ZP ars m.toNat).map fun ns x=>decide (x∈ns)) (by rw[List.length_map,List.length_range];exact SJ _) ?_ ?_
 ·rw [List.length_map] at this;have h54:∀n<12,mmG n<64:=by decide
  exact Nat.lt_of_le_of_lt this (h54 _ (by omega))
 ·intro f hf;obtain⟨ns,hn,rfl⟩:=SL.mp hf;obtain⟨R,hf⟩:=(Zs hm ga).mp hn;unfold JR at hf;obtain⟨f1,f2⟩:=Bool.or_eq_false_iff.mp hf;rw[List.any_eq_false]at f1 f2;refine⟨fun x hx h1 y hy h2=>decide_eq_false fun h3=>?_,fun x hx h1=>?_⟩
  ·refine f1 _ (of_decide_eq_true h2) ?_;unfold both;rw[Bool.and_eq_true];exact⟨h1,decide_eq_true h3⟩
  ·have h1:=of_decide_eq_false h1;have g:=f2 x hx;have g:Yl ars ns x=true:=by simpa using g
   unfold Yl at g;rcases Bool.or_eq_true_iff.mp g with z|z
   ·exact absurd (of_decide_eq_true z) h1
   ·obtain ⟨q,hq,z⟩:=List.any_eq_true.mp z;obtain⟨z1,z2⟩:=Bool.and_eq_true_iff.mp z;have z1:=of_decide_eq_true z1;have z2:=of_decide_eq_true z2;have b:=R.bd _ z2;refine⟨q.2,SL.mpr ⟨q.2.toNat,LZ.mpr (by omega),by omega⟩,decide_eq_true ?_,decide_eq_true z2⟩;rw[<- z1];exact hq
 ·refine List.pairwise_map.mpr (List.Pairwise.imp_of_mem (fun {a b} ha hb h=>?_) (Qg ars m.toNat));obtain⟨Ra,_⟩:=(Zs hm ga).mp ha;obtain⟨Rb,_⟩:=(Zs hm ga).mp hb;refine Classical.byContradiction fun z=>h ?_;have e:ZO m a=ZO m b:=by
   unfold ZO;refine List.map_congr_left fun k hk=>?_;exact Classical.byContradiction fun n=>z ⟨(k:Int),SL.mpr ⟨k,hk,rfl⟩,n⟩
  rw[<- Ua Ra,<- Ua Rb,e]
end Hk
namespace Hk
open PySem L2 PySem.W
section
variable{P:VC}{w:VF}{K:Frag}{mg:VZ}{base:Heap}
def Jet:Sp:=fun vs H Q _=>∃(a t:VB)(m:Int),vs=[.ref a]/\H a=some (.tup [.int m,.ref t])/\m<=11/\Q .non H
theorem Jvj(D:DefAt K mg "refuse_too_great" YF ["web"])(G:GlobI mg "MOST_TRIED" 12):Kn P w K mg base 1 "refuse_too_great" ["web"] Jet:=by
 have sc:FnScope ["web"] ["web"] (Jh YF):=⟨rfl,rfl,rfl,by decide +kernel,rfl,by decide +kernel,by decide +kernel⟩;refine D.kn (N:=["web"]) sc (fun vs H Q E h=>?_) (fun f cdv A outer s H vs Q E hr h=>?_)
 ·obtain ⟨a,t,m,rfl,_⟩:=h;rfl
 ·obtain ⟨a,t,m,rfl,ha,m12,kk⟩:=h;obtain⟨tg,hg⟩:=G.ex;refine⟨_,(Je (JA (Jo QV (Jv Jz (pv 0) Jf (fun _ _=>rfl)) (Jrk (v:=.int 12) rfl hg ⟨_,rfl⟩) (Jn _)) Jla Jt)),?_⟩;refine⟨_,rfl,a,_,_,_,rfl,rfl,SqT.of ha,rfl,m,12,rfl,rfl,_,rfl,?_⟩;have c:¬ 12<m:=by omega
  show if decide (12<m)=true then _ else _
  rw[decide_eq_false c];exact iteF kk
def spAH:Sp:=fun vs H Q _=>∃(a t:VB)(m:Int)(us:VS)(ars:VX),vs=[.ref a]/\Web H a t m us ars/\Jy m ars/\1<=m/\m<=11 /\
 ∀(D:VB)(ws:VS)(T:List (VY))(H':Hp),Same H H'->H D=none->H' D=some (.lst ws)->Tpi H' ws T->HoldsUp m ars T->ws.length<=4096->Q (.ref D) H'
theorem Zo{H H':Hp}{ws:VS}{nss:List (VY)}(h:Tpi H ws nss)(s:Same H H'):Tpi H' ws nss:=Paired.mapP h fun _ _ ⟨p,e,z⟩=>⟨p,e,s _ _ z⟩
theorem kn_ah(D:DefAt K mg "all_holds" WJ ["web"])(fr:Free mg ["sorted"])(kr:Kn P w K mg base 1 "refuse_too_great" ["web"] Jet)(ka:Kn P w K mg base 5 "all_marks" ["web"] Jnd)(kh:Kn P w K mg base 2 "hold_of" ["web","marks"] Jew):Kn P w K mg base 6 "all_holds" ["web"] spAH:=by
 have sc:FnScope ["web"] ["web"] (Jh WJ):=⟨rfl,rfl,rfl,by decide +kernel,rfl,by decide +kernel,by decide +kernel⟩;refine D.kn (N:=["web"]) sc (fun vs H Q E h=>?_) (fun f cdv A outer s H vs Q E hr h=>?_)
 ·obtain ⟨a,t,m,us,ars,rfl,_⟩:=h;rfl
 ·obtain ⟨a,t,m,us,ars,rfl,W,ga,mm1,m12,kk⟩:=h;have m1:=fr "sorted" (by simp);have r1:=hr.mono (j:=1) (by decide);have r2:=hr.mono (j:=2) (by decide);have nd:(["marks","web"]:VJ).Nodup:=by decide +kernel
  refine⟨_,(Jd (YE (Jl kr r1 (Ja (pv 0) Jb))) (Je (Ji (Jm QG rfl m1 Yu (Ja (Yb (N:=["marks","web"]) (src:=[none,some 0]) rfl ⟨rfl,rfl,rfl,rfl,⟨⟨rfl,rfl⟩,trivial⟩,rfl,rfl,rfl⟩ (Js (i:=0) rfl) (JQ (Jl ka hr (Ja (pv 0) Jb))) (fun C s H fp=>⟨(Jp (i:=0) nd rfl (Or.inl rfl)),JC,(Jl kh r2 (Ja (pv 1) (Ja (pv 0) Jb)))⟩)) Jb))))),?_⟩;refine⟨_,rfl,a,t,m,rfl,W.top,m12,?_⟩;refine⟨_,rfl,a,t,m,us,ars,rfl,W,ga,m12,fun l ws H1 s1 hl bk=>?_⟩;have lw:ws.length=(AMk ars m.toNat).length:=Paired.length bk;have l4:ws.length<=4096:=by have:=Jaf ars m.toNat;have:2^m.toNat<=2^12:=Nat.pow_le_pow_right (by decide) (by omega);omega
  refine⟨l,rfl,⟨_,SqL.of hl⟩,Ya (xs:=ws) (fun j zs H2=>Same H1 H2/\Tpi H2 zs (((AMk ars m.toNat).take j).map fun bs=>plw bs true bs.length)) ⟨Same.refl _,.nil⟩ ?_ ?_ ?_⟩
  ·rintro j zs H2 hj ⟨s2,tz⟩;have:=Paired.length tz;rw[List.length_map,List.length_take]at this;exact⟨SqL.of (s2 _ _ hl),SZ (Yp (by omega))⟩
  ·rintro zs H2 ⟨s2,tz⟩ l2 hl2;rw[lw,List.take_of_length_le (Nat.le_refl _)]at tz;have lz:zs.length<64:=by have:=Paired.length tz;have h6:=Jly (by omega) (by omega) ga;unfold ZP at h6;omega
   have s3:=s1.trans (s2.trans (Same.upd (o:=.lst zs) hl2));refine⟨l2,zs,ZP ars m.toNat,rfl,Jc,Zo tz (Same.upd hl2),fun q hq=>Jod mm1 ((Zs (by omega) ga).mp hq).2,by omega,fun D' ws' T H4 s4 hD0 hD tp pm ris=>?_⟩;have hDn:H D'=none:=s3.free hD0;have lws:ws'.length<=4096:=by have e1:=Paired.length tp;have e2:=pm.length_eq;unfold ZP at e2;rw[List.length_map]at e2;omega
   exact kk D' ws' T H4 (s3.trans s4) hDn hD tp (HoldsUp.of_marks (by omega) ga pm ris) lws
  ·rintro j x zs H2 hx hj ⟨s2,tz⟩;obtain⟨bs,e1,p,rfl,hp⟩:=Paired.get' bk hx;have lb:=Zw ars m.toNat bs (SK e1);refine⟨_,rfl,_,rfl,_,p,bs,rfl,s2 _ _ hp,by omega,fun q H3 s3 hq=>nx hj ⟨s2.trans s3,?_⟩⟩;rw[Jx _ _ _ e1,List.map_append];exact Paired.snoc (Zo tz s3) ⟨q,rfl,hq⟩
def spHC:Sp:=fun vs H Q _=>∃(a t:VB)(m:Int)(us:VS)(ars:VX),vs=[.ref a]/\Web H a t m us ars/\Jy m ars/\1<=m/\m<=11 /\
 ∀(T:List (VY))(H':Hp),Same H H'->HoldsUp m ars T->Q (.int (T.length:Nat)) H'
theorem kn_hc(D:DefAt K mg "holds_count" ZJ ["web"])(fr:Free mg ["len"])(kh:Kn P w K mg base 6 "all_holds" ["web"] spAH):Kn P w K mg base 7 "holds_count" ["web"] spHC:=by
 have sc:FnScope ["web"] ["web"] (Jh ZJ):=⟨rfl,rfl,rfl,by decide +kernel,rfl,by decide +kernel,by decide +kernel⟩;refine D.kn (N:=["web"]) sc (fun vs H Q E h=>?_) (fun f cdv A outer s H vs Q E hr h=>?_)
 ·obtain ⟨a,t,m,us,ars,rfl,_⟩:=h;rfl
 ·obtain ⟨a,t,m,us,ars,rfl,W,ga,mm1,m12,kk⟩:=h;have m1:=fr "len" (by simp);refine⟨_,(Je (Ji (Jm Ju rfl m1 PySem.boot_len (Ja (Jl kh hr (Ja (pv 0) Jb)) Jb)))),?_⟩;refine⟨_,rfl,a,t,m,us,ars,rfl,W,ga,mm1,m12,fun D' ws T H' s' _ hD tp hu _=>⟨D',ws,rfl,.inl (SqL.of hD),?_⟩⟩;rw[show ws.length=T.length from Paired.length tp];exact kk T H' s' hu
end
end Hk
namespace L2
open PySem PySem.Calls PySem.Spec PyProof.Rows
theorem QI {X:Cx} (hc:X.calm=true):Yd X (.builtin "sorted") (fun xs H Q=>∃ (d:VB) (kvs:List (List Key×V)) (prs:VX),xs=[.ref d]/\H d=some (.dT kvs)/\kvs.map (·.1)=prs.map JF/\kvs.length < 64 /\
  ∀ (D:VB) (ws:VS) (prs':VX) (H':Hp),Same H H'->H' D=some (.lst ws)->Ars H' ws prs'->prs'.Perm prs->Q (.ref D) H') :=
 fun pins s σ H xs us Q I r ⟨d,kvs,prs,e1,e2,e3,e4,q⟩=>Ql hc pins s σ H xs us Q I r ⟨d,kvs,prs,e1,e2,e3,e4,fun D ws prs' H' z1 z2 z3 z4 _ _=>q D ws prs' H' z1 z2 z3 z4⟩
end L2
namespace Hk
open PySem L2
section
variable{P:VC}{w:VF}{K:VG}{mg:VZ}{base:Heap}
theorem Jos(D:DefAt K mg "_law_web_by" We ["pen","most"])(fr:Free mg ["range","tuple","sorted"])(kd:Kn P w K mg base 2 "_law_draw" ["pen","many"] Jdl):Kn P w K mg base 3 "_law_web_by" ["pen","most"] Jii:=by
 have sc:FnScope ["pen","most","many","way","arrows","place","turn","a","b"] ["pen","most"] (Jh We):=⟨rfl,rfl,rfl,by decide +kernel,rfl,by decide +kernel,by decide +kernel⟩;refine D.kn (N:=["pen","most","many","way","arrows","place","turn","a","b"]) sc (fun vs H Q E h=>?_) (fun f cdv A outer s H vs Q E hr h=>?_)
 ·obtain ⟨p,m,rfl,_⟩:=h;rfl
 ·obtain ⟨p,most,rfl,hp,h1,h2,kk⟩:=h;have hu:=YI hr;have m1:=fr "range" (by simp);have m2:=fr "tuple" (by simp);have m3:=fr "sorted" (by simp);refine ⟨_,Jd (Jr (i:=2) sc.nd rfl (Or.inl rfl) (JD YV Jf (Jl kd hr (Ja (pv 0) (Ja (pv 1) Jb)))))
   (Jd (Jr (i:=3) sc.nd rfl (Or.inl rfl) (Jl kd hr (Ja (pv 0) (Ja Jf Jb))))
   (Jd (Jr (i:=4) sc.nd rfl (Or.inl rfl) Jnu)
   (Jd (JA (Jo Yz (pv 3) Jf (Jn _)) (Je (YL PassesOwn.never rfl (JV rfl m1 (Ja (pv 2) Jb)) (Jp (i:=5) sc.nd rfl (Or.inl rfl))
     (Je (JA (Jo QV (pv 2) Jf (Jn _)) (Je (Zx hu (pv 4) (JI (Ja (pv 5) (Ja (JD Wo (JD YV (pv 5) Jf) (pv 2)) Jb))) JG rfl)) Jt)))) Jt)
   (Jd (YL PassesOwn.never rfl (JV rfl m1 (Ja (Jv JB (JP (Ja (JD Jjc (pv 2) Jf) (Ja (pv 2) (Ja (pv 2) (Ja (JD Jau Jf (pv 2)) (Ja (JD Jau Jf (pv 2)) (Ja (pv 2) Jb))))))) (pv 3) (fun _ _=>rfl)) Jb)) (Jp (i:=6) sc.nd rfl (Or.inl rfl))
    (Jd (Jr (i:=7) sc.nd rfl (Or.inl rfl) (Jl kd hr (Ja (pv 0) (Ja (pv 2) Jb))))
    (Jd (Jr (i:=8) sc.nd rfl (Or.inl rfl) (Jl kd hr (Ja (pv 0) (Ja (pv 2) Jb))))
    (Jd (JA (PW.pt (Wi (Jo Yz (pv 3) Jf (Jn _)) (Zl (Jo QU (pv 7) (pv 8) (Jn _))))) (Je (Juj (i:=7) (j:=8) rfl sc.nd rfl rfl (by decide) rfl rfl (Ja (pv 8) (Ja (pv 7) Jb)) rfl)) Jt)
    (Je (JA (Jo UY (pv 7) (pv 8) (Jn _)) (Je (Zx hu (pv 4) (JI (Ja (pv 7) (Ja (pv 8) Jb))) JG rfl)) Jt))))))
   (Je (Ji (JI (Ja (pv 2) (Ja (JN JT rfl m2 JE (Ja (Zd Jdn (Jm (QI rfl) rfl m3 Yu (Ja (pv 4) Jb)) Wj (Zm Jf)) Jb)) Jb))))))))),?_⟩
  refine⟨_,rfl,_,rfl,p,most,rfl,hp,by omega,by omega,fun r H1 r0 r1 s1 hp1=>?_⟩;refine⟨_,_,rfl,rfl,?_⟩;refine⟨_,rfl,p,6,rfl,hp1,by decide,by decide,fun way H2 w0 w1 s2 hp2=>?_⟩;intro d hd;have hm1:1<=1+r/\1+r<=12/\1+r<=most:=by omega
  generalize hm:1+r=m at hm1;refine Jw ?_;dsimp only;refine Jaa (a:=tIfS _ _ _) (fun σ H3=>∃(v5:Option V)(n0:Nat),σ=[some (.ref p),some (.int most),some (.int m),some (.int way),some (.ref d),v5,none,none,none]/\SameBut p H2 H3/\PenAt H3 p/\DT H3 d m n0/\n0<=(if way=0 then 12 else 0)) (fun D' hk=>?_) ?_
  ·rw [hm];have z0:SameBut p H2 (upd H2 d (.dT [])):=(Same.upd hd).but;have pd:p≠d:=by
    obtain⟨_,_,_,e⟩:=hp2;exact Jg e hd
   have z1:PenAt (upd H2 d (.dT [])) p:=by obtain⟨a,b,c,e⟩:=hp2;exact⟨a,b,c,by rw[Jj pd];exact e⟩
   have z2:DT (upd H2 d (.dT [])) d m 0:=⟨[],[],Jc,rfl,fun q hq=>(nomatch hq),SJ _⟩;refine⟨_,rfl,rfl,_,rfl,ite2 (fun hw=>?_) (fun hw=>?_)⟩
   ·have hw':way=0:=by
     have:=of_decide_eq_true hw;exact V.int.inj this
    refine⟨_,rfl,m,rfl,by omega,by omega,Ui (fun i σ H3=>∃(v5:Option V),σ=[some (.ref p),some (.int most),some (.int m),some (.int way),some (.ref d),v5,none,none,none]/\SameBut p H2 H3/\PenAt H3 p/\DT H3 d m i) ?_ ?_ ?_⟩
    ·exact ⟨none,rfl,z0,z1,z2⟩
    ·rintro i σ H3 hi ⟨v5,rfl,s3,hp3,hd3⟩;refine⟨_,rfl,_,_,rfl,rfl,_,rfl,ite2 (fun hg=>?_) (fun hg=>?_)⟩
     ·have hg':1 < m:=of_decide_eq_true hg;refine⟨_,rfl,_,rfl,_,rfl,_,_,rfl,rfl,_,rfl,_,_,rfl,rfl,(by show(0:Int)<m;omega),(by show 2<=sizeLine;decide),fun b hb=>?_⟩;have b1:(0+(i:Int)+1)%m<m:=Int.emod_lt_of_pos _ (by omega);have b2:0<=(0+(i:Int)+1)%m:=Int.emod_nonneg _ (by omega);have b3:(0+(i:Int))≠(0+(i:Int)+1)%m:=by
       by_cases h:(i:Int)+1<m
       ·rw [Int.emod_eq_of_lt (by omega) (by omega)];omega
       ·have:(0 + (i:Int) + 1)=m:=by omega
        rw[this,Int.emod_self];omega
      obtain⟨H4,g1,g2,g3⟩:=hd3.put hb (by omega) (x:=0+i) (y:=(0+i+1)%m) ⟨by omega,by omega,b2,b1,b3⟩ (.bl true);refine⟨d,H4,rfl,g1,_,rfl,?_,?_,g2⟩
      ·intro c o hc e;by_cases hcd:c=d
       ·subst hcd;rw[hd]at e;cases e
       ·exact g3 c o hcd (s3 c o hc e)
      ·obtain ⟨x,y,z,e⟩:=hp3;exact⟨x,y,z,g3 _ _ pd e⟩
     ·exact ⟨_,rfl,s3,hp3,hd3.mono (LU _)⟩
    ·rintro σ H3 ⟨v5,rfl,s3,hp3,hd3⟩;exact hk _ _ ⟨v5,m.toNat,rfl,s3,hp3,hd3,by rw[if_pos hw'];omega⟩
   ·exact hk _ _ ⟨none,0,rfl,z0,z1,z2,LX _⟩
  ·rintro σ H3 ⟨v5,n0,rfl,s3,hp3,hd3,hn⟩;have pd:p≠d:=by
    obtain⟨_,_,_,e⟩:=hp2;exact Jg e hd
   refine⟨_,rfl,_,_,rfl,rfl,⟨by decide,by decide⟩,_,rfl,_,rfl,_,rfl,_,_,rfl,rfl,.inl ⟨by decide,by decide⟩,_,rfl,_,_,rfl,rfl,.inl ⟨by decide,by decide⟩,_,rfl,(by show 6<=sizeLine;decide),fun l hl=>?_⟩;have ix:∃k:Int,atI [V.int (m/2),V.int m,V.int m,V.int (2*m),V.int (3*m),V.int m] way=some (V.int k)/\0<=k/\n0+k.toNat<=48:=by
    have hw:way=0\/way=1\/way=2\/way=3\/way=4\/way=5:=by omega
    rcases hw with rfl|rfl|rfl|rfl|rfl|rfl
    ·rw [if_pos rfl] at hn;exact⟨m/2,rfl,by omega,by omega⟩
    all_goals rw[if_neg (by decide)]at hn
    ·exact ⟨m,rfl,by omega,by omega⟩
    ·exact ⟨m,rfl,by omega,by omega⟩
    ·exact ⟨2 * m,rfl,by omega,by omega⟩
    ·exact ⟨3 * m,rfl,by omega,by omega⟩
    ·exact ⟨m,rfl,by omega,by omega⟩
   obtain⟨k,hk1,hk2,hk3⟩:=ix;have z0:SameBut p H2 (upd H3 l (.lst [V.int (m/2),V.int m,V.int m,V.int (2*m),V.int (3*m),V.int m])):=s3.trans (Same.upd hl).but;have z1:PenAt (upd H3 l (.lst [V.int (m/2),V.int m,V.int m,V.int (2*m),V.int (3*m),V.int m])) p:=by obtain⟨a,b,c,e⟩:=hp3;exact⟨a,b,c,Same.upd hl _ _ e⟩
   have z2:DT (upd H3 l (.lst [V.int (m/2),V.int m,V.int m,V.int (2*m),V.int (3*m),V.int m])) d m (n0+0):=hd3.keep hp3 (Same.upd hl).but;refine⟨_,rfl,l,_,way,_,rfl,rfl,SqL.of Jc,hk1,k,rfl,by omega,by omega,Ui (fun i σ H4=>∃v6 v7 v8:Option V,σ=[some (.ref p),some (.int most),some (.int m),some (.int way),some (.ref d),v5,v6,v7,v8]/\SameBut p H2 H4/\PenAt H4 p/\DT H4 d m (n0+i)) ⟨none,none,none,rfl,z0,z1,z2⟩ ?_ ?_⟩
   ·rintro i σ H4 hi ⟨v6,v7,v8,rfl,s4,hp4,hd4⟩;refine⟨_,rfl,_,rfl,p,m,rfl,hp4,by omega,by omega,fun a H5 a0 a1 s5 hp5=>?_⟩;refine⟨_,rfl,_,rfl,p,m,rfl,hp5,by omega,by omega,fun b H6 b0 b1 s6 hp6=>?_⟩;refine Jw ?_;dsimp only;have s46:=s5.trans s6;refine Jaa (a:=tIfS _ _ _) (fun σ H7=>H7=H6/\∃(x y:Int),σ=[some (.ref p),some (.int most),some (.int m),some (.int way),some (.ref d),v5,some (.int (0+i)),some (.int x),some (.int y)]/\0<=x/\x<m/\0<=y/\y<m) (fun D' hk=>?_) ?_
    ·refine ⟨_,rfl,rfl,_,rfl,ite2 (fun hg=>?_) (fun hg=>?_)⟩
     ·refine ⟨_,rfl,_,rfl,_,_,rfl,rfl,_,rfl,ite2 (fun hh=>?_) (fun hh=>?_)⟩
      ·exact ⟨_,rfl,_,rfl,_,_,rfl,hk _ _ ⟨rfl,b,a,rfl,b0,b1,a0,a1⟩⟩
      ·exact hk _ _ ⟨rfl,a,b,rfl,a0,a1,b0,b1⟩
     ·exact hk _ _ ⟨rfl,a,b,rfl,a0,a1,b0,b1⟩
    ·rintro σ H7 ⟨rfl,x,y,rfl,x0,x1,y0,y1⟩;have hd6:=hd4.keep hp4 s46;refine⟨_,rfl,_,rfl,rfl,_,rfl,ite2 (fun hg=>?_) (fun hg=>?_)⟩
     ·have hxy:x≠y:=by
       intro z;subst z;simp at hg
      refine⟨_,rfl,_,rfl,_,rfl,(by show 2<=sizeLine;decide),fun c hc=>?_⟩;obtain⟨H8,g1,g2,g3⟩:=hd6.put hc (by omega) (x:=x) (y:=y) ⟨x0,x1,y0,y1,hxy⟩ (.bl true);refine⟨d,H8,rfl,g1,_,_,_,rfl,?_,?_,g2⟩
      ·intro e o he ee;by_cases hed:e=d
       ·subst hed;rw[hd]at ee;cases ee
       ·exact g3 e o hed ((s4.trans s46) e o he ee)
      ·obtain ⟨x,y,z,e⟩:=hp6;exact⟨x,y,z,g3 _ _ pd e⟩
     ·exact ⟨_,_,_,rfl,s4.trans s46,hp6,hd6.mono (LU _)⟩
   ·rintro σ H4 ⟨v6,v7,v8,rfl,s4,hp4,hd4⟩;obtain⟨kvs,prs,e1,e2,e3,e4⟩:=hd4;refine⟨_,rfl,_,rfl,d,kvs,prs,rfl,e1,e2,by omega,fun L ws prs' H5 s5 hL ha hpm=>?_⟩;have lw:ws.length<=130:=by
     have q1:=Yx ha;have q2:=hpm.length_eq;have q3:kvs.length=prs.length:=by have:=congrArg List.length e2;rwa [List.length_map,List.length_map]at this
     omega
    refine⟨200,rfl,L,ws,rfl,SqL.of hL,fun q hq=>?_⟩;rw[Jwl (by omega)];refine⟨q,_,rfl,.inl ⟨SqL.of Jc,fun t ht=>⟨(by show 2<=sizeLine;decide),fun g hg=>?_⟩⟩⟩;have s6:Same H5 _:=((Same.upd (o:=.lst ws) hq).trans (Same.upd (o:=.tup ws) ht)).trans (Same.upd (o:=.tup [.int m,.ref t]) hg);refine kk g t m ws prs' _ (((s1.trans s2).trans s4).trans (s5.trans s6).but) ?_ ⟨Jc,?_,ha.mono s6,by omega,by omega,by omega⟩ (by omega) (by omega) fun z hz=>e3 z (hpm.mem_iff.mp hz)
    ·obtain ⟨x,y,z,e⟩:=hp4;exact⟨x,y,z,s6 _ _ (s5 _ _ e)⟩
    ·exact Same.upd hg _ _ Jc
end
end Hk
namespace Hk
open PySem L2 PySem.W
section
variable{P:VC}{w:VF}{K:Frag}{mg:VZ}{base:Heap}
def Jij:Sp:=fun vs H Q _=>∃(p:VB),vs=[.ref p]/\PenAt H p/\∀(a t:VB)(m:Int)(us:VS)(ars:VX)(H':Hp),SameBut p H H'->PenAt H' p->Web H' a t m us ars->1<=m->m<=11->Jy m ars->Q (.ref a) H'
structure ArrL(H:Hp)(l:VB)(m:Int)(n:Nat):Prop where
 ex:∃(ws:VS)(ars:VX),H l=some (.lst ws)/\Ars H ws ars/\Jy m ars/\ws.length<=n
theorem ArrL.keep{H H':Hp}{l p:VB}{m:Int}{n:Nat}(h:ArrL H l m n)(hp:PenAt H p)(nl:l≠p)(s:SameBut p H H'):ArrL H' l m n:=by obtain⟨ws,ars,e,ar,g,hl⟩:=h.ex;exact⟨ws,ars,s _ _ nl e,Paired.mapP ar fun _ _ ⟨q,e,z⟩=>⟨q,e,s _ _ (Wm hp z) z⟩,g,hl⟩
theorem Jqk{H:Hp}{ws zs:VS}{l r:VX}(h:Ars H ws l)(g:Ars H zs r):Ars H (ws++zs) (l++r):=by
 induction h with
 | nil=>exact g
 | cons a _ ih=>exact .cons a ih
theorem SameBut.fresh{p l:VB}{H H':Hp}(s:SameBut p H H')(n:l≠p)(h:H' l=none):H l=none:=by
 cases e:H l with
 | none=>rfl
 | some o=>rw [s _ _ n e] at h; cases h
theorem QB{m:Int}{x y:VX}(h:Jy m x)(g:Jy m y):Jy m (x++y):=fun q hq=>(SS.mp hq).elim (h q) (g q)
theorem Jbl{m:Int}{x y:VX}(h:Jy m x)(p:y.Perm x):Jy m y:=fun q hq=>h q (p.mem_iff.mp hq)
theorem Jhs{m k:Int}{x:VX}(h:Jy m x)(hk:m<=k):Jy k x:=fun q hq=>by have:=h q hq;omega
theorem Jcr{m x y:Int}(h:0<=x/\x<m/\0<=y/\y<m/\x≠y):Jy m [(x,y)]:=fun q hq=>by rw[List.mem_singleton.mp hq];exact h
theorem Jot(D:DefAt K mg "_law_small_web" Zi ["pen"])(fr:Free mg ["range","tuple","sorted"])(kd:Kn P w K mg base 2 "_law_draw" ["pen","many"] Jdl)(kb:Kn P w K mg base 3 "_law_web_by" ["pen","most"] Jii):Kn P w K mg base 4 "_law_small_web" ["pen"] Jij:=by
 have sc:FnScope ["pen","way","arrows","many","place","more"] ["pen"] (Jh Zi):=⟨rfl,rfl,rfl,by decide +kernel,rfl,by decide +kernel,by decide +kernel⟩;refine D.kn (N:=["pen","way","arrows","many","place","more"]) sc (fun vs H Q E h=>?_) (fun f cdv A outer s H vs Q E hr h=>?_)
 ·obtain ⟨p,rfl,_⟩:=h;rfl
 ·obtain ⟨p,rfl,hp,kk⟩:=h;have m1:=fr "range" (by simp);have m2:=fr "tuple" (by simp);have m3:=fr "sorted" (by simp);have r2:=hr.mono (j:=2) (by decide);have nd:(["place","many"]:VJ).Nodup:=by decide +kernel
  have c0:0<=sizeLine:=by decide
  have c2:2<=sizeLine:=by decide
  have c3:3<=sizeLine:=by decide
  refine⟨_,(Jd (Jr (i:=1) sc.nd rfl (Or.inl rfl) (Jl kd r2 (Ja (pv 0) (Ja Jf Jb)))) (Jd (JA (Jo Yz (pv 1) Jf (Jn _)) (Jd (Jr (i:=2) sc.nd rfl (Or.inl rfl) (JP Jb)) (Jd (Jr (i:=3) sc.nd rfl (Or.inr rfl) (JD Jau Jf (JD YV Jf (Jl kd r2 (Ja (pv 0) (Ja Jf Jb)))))) (Jd (YL PassesOwn.never rfl (Jlf rfl m1 (Ja Jf (Ja (pv 3) (Ja Jf Jb)))) (Jp (i:=4) sc.nd rfl (Or.inl rfl)) (Jd (Jr (i:=2) sc.nd rfl (Or.inl rfl) (JD Jhh (pv 2) (JP (Ja (JI (Ja (pv 4) (Ja (JD YV (pv 4) Jf) Jb))) (Ja (JI (Ja (JD YV (pv 4) Jf) (Ja (pv 4) Jb))) Jb))))) (Je (JA (PW.pt (Wi (Jo QV (pv 4) Jf (Jn _)) (Zl (Jo Yz (Jl kd r2 (Ja (pv 0) (Ja Jf Jb))) Jf (Jn _))))) (Je (YE (QQ PySem.F.plainAttrs_list PySem.F.slot_list_append PySem.F.type_list_append ZW (pv 2) (Ja (JI (Ja (pv 4) (Ja (Jl kd r2 (Ja (pv 0) (Ja (pv 4) Jb))) Jb))) Jb)))) Jt)))) (Je (Ji (JI (Ja (pv 3) (Ja (JN JT rfl m2 JE (Ja (Jm ZY rfl m3 Yu (Ja (pv 2) Jb)) Jb)) Jb)))))))) Jt) (Jd (JA (Jo Yz (pv 1) Jf (Jn _)) (Jd (Jr (i:=3) sc.nd rfl (Or.inr rfl) (Jv JB (JP (Ja Jf (Ja Jf (Ja Jf Jb)))) (Jl kd r2 (Ja (pv 0) (Ja Jf Jb))) (fun _ _=>rfl))) (Jd (YK (i:=2) (N:=["place","many"]) (src:=[none,some 3]) sc.nd rfl rfl rfl rfl ⟨rfl,rfl,rfl,rfl,⟨⟨rfl,rfl⟩,trivial⟩,rfl,rfl,rfl⟩ (Js (i:=0) rfl) (JV rfl m1 (Ja (pv 3) Jb)) (fun C s H fp=>⟨(Jp (i:=0) nd rfl (Or.inl rfl)),JC,(JI (Ja (pv 0) (Ja (JD Wo (JD YV (pv 0) Jf) (pv 1)) Jb)))⟩)) (Jd (Jr (i:=5) sc.nd rfl (Or.inl rfl) (Jl kd r2 (Ja (pv 0) (Ja Jf Jb)))) (Jd (YL PassesOwn.never rfl (Jlg rfl m1 (Ja (pv 3) (Ja (JD YV (pv 3) (pv 5)) Jb))) (Jp (i:=4) sc.nd rfl (Or.inl rfl)) (Je (YE (QQ PySem.F.plainAttrs_list PySem.F.slot_list_append PySem.F.type_list_append ZW (pv 2) (Ja (JI (Ja (pv 4) (Ja (Jl kd r2 (Ja (pv 0) (Ja (pv 4) Jb))) Jb))) Jb))))) (Je (Ji (JI (Ja (JD YV (pv 3) (pv 5)) (Ja (JN JT rfl m2 JE (Ja (Jm ZY rfl m3 Yu (Ja (pv 2) Jb)) Jb)) Jb))))))))) Jt) (Je (Ji (Jl kb hr (Ja (pv 0) (Ja Jf Jb)))))))),?_⟩
  -- the end: a web of the arrows in a list
  have fin:∀{HE:Hp}{l:VB}{m:Int},SameBut p H HE->PenAt HE p->ArrL HE l m 900->1<=m->m<=11->∀(D':VB)(ws':VS)(prs':VX)(H':Hp),Same HE H'->H' D'=some (.lst ws')->Ars H' ws' prs'->Jy m prs'->ws'.length<=900->∀t',H' t'=none->∀a',upd H' t' (.tup ws') a'=none->Q (.ref a') (upd (upd H' t' (.tup ws')) a' (.tup [.int m,.ref t'])):=fun {HE l m} sE hpE _ mm1 m12 D' ws' prs' H' s' hD ar ga lw t' ht' a' ha'=>by have s5:=(Same.upd (o:=.tup ws') ht').trans (Same.upd (o:=.tup [.int m,.ref t']) ha');exact kk a' t' m ws' prs' _ (sE.trans (s'.trans s5).but) (PenAt.mono (s'.trans s5) hpE) ⟨Jc,Same.upd ha' _ _ Jc,ar.mono s5,by omega,by omega⟩ mm1 m12 ga
  refine⟨_,rfl,p,4,rfl,hp,by decide,by decide,fun way H1 w0 w4 s1 hp1=>?_⟩;refine Jw ?_;dsimp only;refine⟨_,rfl,rfl,_,rfl,ite2 (fun c=>?_) (fun c=>?_)⟩
  ·-- tied both ways
   refine⟨c0,fun l0 hl0=>?_⟩;have t1:=Same.upd (o:=.lst []) hl0;refine Jw ?_;dsimp only;refine⟨_,rfl,p,4,rfl,PenAt.mono t1 hp1,by decide,by decide,fun x H2 x0 x4 s2 hp2=>⟨_,_,rfl,rfl,_,_,rfl,rfl,(.inl ⟨by decide,by decide⟩),?_⟩⟩;have s12:=s1.trans (t1.but.trans s2);have nl0:l0≠p:=newp hp1 hl0;have a0:ArrL H2 l0 (2*(1+x)) 0:=⟨[],[],s2 _ _ nl0 Jc,.nil,fun q hq=>(nomatch hq),SJ _⟩;refine Jw ?_;dsimp only;refine⟨_,rfl,2*(1+x),(1+x).toNat,rfl,by omega,by omega,by omega,Jhv (fun i σ H'=>∃(l:VB)(v4:Option V),σ=[some (.ref p),some (.int way),some (.ref l),some (.int (2*(1+x))),v4,none]/\SameBut p H H'/\PenAt H' p/\l≠p/\H l=none/\ArrL H' l (2*(1+x)) (3*i)) ⟨l0,_,rfl,s12,hp2,nl0,SameBut.fresh s1 nl0 hl0,a0⟩ ?_ ?_⟩
   ·rintro i σ H' hi ⟨l,v4,rfl,s',hp',nl,hln,al⟩;have hm:2*(i:Int)+1<2*(1+x):=by omega
    have i4:i<4:=by omega
    obtain⟨ws,ars,e,ar,ga,lw⟩:=al.ex;refine⟨_,rfl,_,rfl,_,rfl,_,_,rfl,rfl,c2,fun b1 hb1=>⟨_,rfl,_,_,rfl,rfl,_,rfl,c2,fun b2 hb2=>⟨c2,fun l2 hl2=>?_⟩⟩⟩;have q1:=Same.upd (o:=.tup [.int (2*(i:Int)),.int (2*(i:Int)+1)]) hb1;have q2:=Same.upd (o:=.tup [.int (2*(i:Int)+1),.int (2*(i:Int))]) hb2;have q3:=Same.upd (o:=.lst [.ref b1,.ref b2]) hl2;refine⟨l,l2,ws,[.ref b1,.ref b2],rfl,rfl,(q1.trans (q2.trans q3)) _ _ e,Jc,SZ (Yp (by show ws.length+2<=_;omega)),fun l3 hl3=>?_⟩;have q4:=Same.upd (o:=.lst (ws++[.ref b1,.ref b2])) hl3;have qq:=q1.trans (q2.trans (q3.trans q4));have hp4:=PenAt.mono qq hp';have nl3:l3≠p:=newp (PenAt.mono (q1.trans (q2.trans q3)) hp') hl3;have s4:SameBut p H _:=s'.trans qq.but;have hln3:H l3=none:=SameBut.fresh (s'.trans (q1.trans (q2.trans q3)).but) nl3 hl3;have al4:ArrL (upd (upd (upd (upd H' b1 (.tup [.int (2*(i:Int)),.int (2*(i:Int)+1)])) b2 (.tup [.int (2*(i:Int)+1),.int (2*(i:Int))])) l2 (.lst [.ref b1,.ref b2])) l3 (.lst (ws++[.ref b1,.ref b2]))) l3 (2*(1+x)) (3*i+2):=by
     refine⟨ws++[.ref b1,.ref b2],ars++[(2*(i:Int),2*(i:Int)+1),(2*(i:Int)+1,2*(i:Int))],Jc,?_,?_,?_⟩
     ·exact Jqk (ar.mono qq) (.cons ⟨b1,rfl,(q2.trans (q3.trans q4)) _ _ Jc⟩ (.cons ⟨b2,rfl,(q3.trans q4) _ _ Jc⟩ .nil))
     ·refine QB ga fun q hq=>?_;rcases List.mem_cons.mp hq with z|z
      ·rw [z]; dsimp only; omega
      ·rw [List.mem_singleton.mp z]; dsimp only; omega
     ·rw [List.length_append];show ws.length+2<=_;omega
    generalize upd (upd (upd (upd H' b1 (.tup [.int (2*(i:Int)),.int (2*(i:Int)+1)])) b2 (.tup [.int (2*(i:Int)+1),.int (2*(i:Int))])) l2 (.lst [.ref b1,.ref b2])) l3 (.lst (ws++[.ref b1,.ref b2]))=H4 at hp4 s4 al4;refine Jw ?_;dsimp only;have less:∀{HX:Hp},ArrL HX l3 (2*(1+x)) (3*i+2)->ArrL HX l3 (2*(1+x)) (3*(i+1)):=fun h=>by obtain⟨a,b,c,d,e,f⟩:=h.ex;exact⟨a,b,c,d,e,by omega⟩
    refine⟨_,rfl,_,_,rfl,rfl,_,rfl,ite2 (fun c1=>?_) (fun c1=>?_)⟩
    ·have c1:0 < 2 * (i:Int):=of_decide_eq_true c1;refine⟨_,rfl,p,2,rfl,hp4,by decide,by decide,fun y H5 y0 y1 s5 hp5=>⟨rfl,_,rfl,ite2 (fun c2'=>?_) (fun c2'=>?_)⟩⟩
     ·have al5:=al4.keep hp4 nl3 s5;obtain⟨ws5,ars5,e5,ar5,ga5,lw5⟩:=al5.ex;refine⟨_,rfl,.inl ⟨rfl,_,SqL.of e5⟩,_,rfl,_,rfl,_,rfl,p,2*(i:Int),rfl,hp5,c1,by omega,fun z H6 z0 z1 s6 hp6=>⟨c2,fun b hb=>?_⟩⟩;have al6:=al5.keep hp5 nl3 s6;have q6:=Same.upd (o:=.tup [.int (2*(i:Int)),.int z]) hb;have e6:H6 l3=some (.lst ws5):=s6 _ _ nl3 e5;refine⟨l3,ws5,_,rfl,rfl,q6 _ _ e6,Yp (by omega),l3,_,rfl,fun b' o' nb e'=>?_,?_,nl3,hln3,ws5++[.ref b],ars5++[(2*(i:Int),z)],Jc,?_,?_,?_⟩
      ·rw [Jj (Jg e' hln3)];exact q6 _ _ (s6 _ _ nb (s5 _ _ nb (s4 _ _ nb e')))
      ·obtain ⟨x',y',z',e'⟩:=PenAt.mono q6 hp6;exact⟨x',y',z',by rw[Jj (Ne.symm nl3)];exact e'⟩
      ·have up:∀ (b':VB) (ys:VS),H6 b'=some (.tup ys)->(upd (upd H6 b (.tup [.int (2 * (i:Int)),.int z])) l3 (.lst (ws5++[.ref b]))) b'=some (.tup ys):=fun b' ys e'=>by
        rw[Jj (Wt e' e6 (fun z=>nomatch z))];exact q6 _ _ e'
       refine Paired.snoc (Paired.mapP ar5 fun _ _ ⟨r,e,z⟩=>⟨r,e,up _ _ (s6 _ _ (Wm hp5 z) z)⟩) ⟨b,rfl,?_⟩;rw[Jj (fun z=>by rw[z]at hb;rw[e6]at hb;cases hb),Jc]
      ·exact QB ga5 (Jcr ⟨by omega,by omega,z0,by omega,by omega⟩)
      ·rw [List.length_append];show ws5.length+1<=_;omega
     ·exact ⟨l3,_,rfl,s4.trans s5,hp5,nl3,hln3,less (al4.keep hp4 nl3 s5)⟩
    ·exact ⟨l3,_,rfl,s4,hp4,nl3,hln3,less al4⟩
   ·rintro σ H' ⟨l,v4,rfl,s',hp',nl,hln,al⟩;obtain⟨ws,ars,e,ar,ga,lw⟩:=al.ex;refine⟨_,rfl,_,rfl,l,ws,ars,rfl,e,ar,by omega,fun D' ws' T H4 s4 hD ar' pm ris=>⟨D',ws',rfl,.inl ⟨SqL.of hD,fun t' ht'=>⟨c2,fun a' ha'=>?_⟩⟩⟩⟩;have lw':ws'.length<=900:=by have:=Yx ar';have:=Yx ar;have:=pm.length_eq;omega
    exact fin s' hp' ⟨ws,ars,e,ar,ga,by omega⟩ (by omega) (by omega) D' ws' T H4 s4 hD ar' (Jbl ga pm) lw' t' ht' a' ha'
  ·refine ⟨_,rfl,rfl,_,rfl,ite2 (fun c=>?_) (fun c=>?_)⟩
   ·-- an odd ring
    refine⟨c3,fun q hq=>⟨_,rfl,p,3,rfl,PenAt.mono (Same.upd hq) hp1,by decide,by decide,fun r H2 r0 r3 s2 hp2=>?_⟩⟩;have nq:q≠p:=newp hp1 hq;have hq2:H2 q=some (.lst [.int 3,.int 5,.int 7]):=s2 _ _ nq Jc;obtain⟨m,g1,g2,ea⟩:∃m:Int,3<=m/\m<=7/\atI [V.int 3,V.int 5,V.int 7] r=some (.int m):=by
     rcases(show r=0\/r=1\/r=2 by omega)with rfl|rfl|rfl
     ·exact ⟨3,by decide,by decide,rfl⟩
     ·exact ⟨5,by decide,by decide,rfl⟩
     ·exact ⟨7,by decide,by decide,rfl⟩
    have s12:=s1.trans ((Same.upd (o:=.lst [.int 3,.int 5,.int 7]) hq).but.trans s2);refine⟨q,_,r,.int m,rfl,rfl,SqL.of hq2,ea,?_⟩;refine Jw ?_;dsimp only;refine⟨_,rfl,m,rfl,by omega,by omega,Ug (n:=m.toNat) (fun j zs H'=>Same H2 H'/\Ars H' zs ((List.range j).map fun(k:Nat)=>((k:Int),((k:Int)+1)%m))) ⟨Same.refl _,.nil⟩ ?_ ?_ ?_⟩
    ·rintro j zs H' hj ⟨_,az⟩;have:=Yx az;rw[List.length_map,List.length_range]at this;exact SZ (Jk (by omega))
    ·rintro zs H' ⟨s3,az⟩ l hl;have lz:zs.length=m.toNat:=by have:=Yx az;rw[List.length_map,List.length_range]at this;exact this
     have gr:Jy m ((List.range m.toNat).map fun(k:Nat)=>((k:Int),((k:Int)+1)%m)):=fun z hz=>by
      obtain⟨k,hk,rfl⟩:=SL.mp hz;have hk:=LZ.mp hk;have e0:0<=((k:Int)+1)%m:=Int.emod_nonneg _ (by omega);have e1:((k:Int)+1)%m<m:=Int.emod_lt_of_pos _ (by omega);refine⟨by omega,by omega,e0,e1,?_⟩;dsimp only;by_cases z:(k:Int)+1<m
      ·rw [Int.emod_eq_of_lt (by omega) z];omega
      ·have:(k:Int) + 1=m:=by omega
       rw[this,Int.emod_self];omega
     have q3:=Same.upd (o:=.lst zs) hl;have hp3:=PenAt.mono (s3.trans q3) hp2;have nl:l≠p:=newp (PenAt.mono s3 hp2) hl;have hln:H l=none:=SameBut.fresh (s12.trans s3.but) nl hl;have s3':SameBut p H _:=s12.trans (s3.trans q3).but;have al:ArrL (upd H' l (.lst zs)) l m m.toNat:=⟨zs,_,Jc,az.mono q3,gr,by omega⟩;generalize upd H' l (.lst zs)=H3 at hp3 s3' al;refine Jw ?_;dsimp only;refine⟨_,rfl,p,3,rfl,hp3,by decide,by decide,fun x H4 x0 x3 s4 hp4=>?_⟩;have al4:=al.keep hp3 nl s4;refine Jw ?_;dsimp only;refine⟨_,rfl,_,rfl,_,rfl,_,_,rfl,rfl,m,m+x,rfl,⟨by omega,by omega,by omega,by omega⟩,Ui (fun i σ H'=>∃v4:Option V,σ=[some (.ref p),some (.int way),some (.ref l),some (.int m),v4,some (.int x)]/\SameBut p H H'/\PenAt H' p/\ArrL H' l (m+x) (m.toNat+i)) ⟨_,rfl,s3'.trans s4,hp4,?_⟩ ?_ ?_⟩
     ·obtain ⟨a,b,c,d,e,f⟩:=al4.ex;exact⟨a,b,c,d,Jhs e (by omega),by omega⟩
     ·rintro i σ H' hi ⟨v4,rfl,s',hp',al'⟩;have hi:(i:Int)<x:=by omega
      obtain⟨ws5,ars5,e5,ar5,ga5,lw5⟩:=al'.ex;refine⟨_,rfl,.inl ⟨rfl,_,SqL.of e5⟩,_,rfl,_,rfl,_,rfl,p,m+(i:Int),rfl,hp',by omega,by omega,fun z H6 z0 z1 s6 hp6=>⟨c2,fun b hb=>?_⟩⟩;have q6:=Same.upd (o:=.tup [.int (m+(i:Int)),.int z]) hb;have e6:H6 l=some (.lst ws5):=s6 _ _ nl e5;refine⟨l,ws5,_,rfl,rfl,q6 _ _ e6,Yp (by omega),_,rfl,fun b' o' nb e'=>?_,?_,ws5++[.ref b],ars5++[(m+(i:Int),z)],Jc,?_,?_,?_⟩
      ·rw [Jj (Jg e' hln)];exact q6 _ _ (s6 _ _ nb (s' _ _ nb e'))
      ·obtain ⟨x',y',z',e'⟩:=PenAt.mono q6 hp6;exact⟨x',y',z',by rw[Jj (Ne.symm nl)];exact e'⟩
      ·have up:∀ (b':VB) (ys:VS),H6 b'=some (.tup ys)->(upd (upd H6 b (.tup [.int (m + (i:Int)),.int z])) l (.lst (ws5++[.ref b]))) b'=some (.tup ys):=fun b' ys e'=>by
        rw[Jj (Wt e' e6 (fun z=>nomatch z))];exact q6 _ _ e'
       refine Paired.snoc (Paired.mapP ar5 fun _ _ ⟨r,e,z⟩=>⟨r,e,up _ _ (s6 _ _ (Wm hp' z) z)⟩) ⟨b,rfl,?_⟩;rw[Jj (fun z=>by rw[z]at hb;rw[e6]at hb;cases hb),Jc]
      ·exact QB ga5 (Jcr ⟨by omega,by omega,z0,by omega,by omega⟩)
      ·rw [List.length_append];show ws5.length+1<=_;omega
     ·rintro σ H' ⟨v4,rfl,s',hp',al'⟩;obtain⟨ws,ars,e,ar,ga,lw⟩:=al'.ex;refine⟨_,rfl,_,rfl,_,_,rfl,rfl,_,rfl,l,ws,ars,rfl,e,ar,by omega,fun D' ws' T H4' s4' hD ar' pm ris=>⟨D',ws',rfl,.inl ⟨SqL.of hD,fun t' ht'=>⟨c2,fun a' ha'=>?_⟩⟩⟩⟩;have lw':ws'.length<=900:=by have:=Yx ar';have:=Yx ar;have:=pm.length_eq;omega
      exact fin s' hp' ⟨ws,ars,e,ar,ga,by omega⟩ (by omega) (by omega) D' ws' T H4' s4' hD ar' (Jbl ga pm) lw' t' ht' a' ha'
    ·rintro j zs H' hj ⟨s3,az⟩;refine⟨_,rfl,_,rfl,_,_,rfl,rfl,_,rfl,_,_,rfl,rfl,(by show(0:Int)<m;omega),c2,fun g hg=>nx hj ⟨s3.trans (Same.upd hg),?_⟩⟩;rw[List.range_succ,List.map_append];refine Paired.snoc (az.mono (Same.upd hg)) ⟨g,rfl,?_⟩;rw[Jc,Int.zero_add]
   ·refine ⟨_,rfl,p,8,rfl,hp1,by decide,by decide,fun a t m us ars H' s' hp' W mm1 m8 ga=>?_⟩;exact kk a t m us ars H' (s1.trans s') hp' W mm1 (by omega) ga
end
theorem huN{k j:Nat}{A:VD}(hr:Room k A)(h:j<=200):A.units+j<cLine:=by have:=hr.un;omega
theorem UH{H H':Hp}{l:VB}(s:Same H H')(h:H' l=none):H l=none:=by
 cases e:H l with
 | none=>rfl
 | some o=>rw [s _ _ e] at h; cases h
section
variable{P:VC}{w:VF}{K:Frag}{mg:VZ}{base:Heap}
theorem QO{H:Hp}{q:VB}{ns:VY}(hq:H q=some (.tup (ns.map V.int)))(hl:ns.length<=1000):Thing H (.ref q) (some (ns.map V.int)):=by
 refine .tup hq (fun y hy=>?_) ?_
 ·obtain ⟨n,_,rfl⟩:=SL.mp hy;exact⟨_,.int n⟩
 ·rw [List.length_map];exact SZ (Jk hl)
theorem Jbi{ns:VY}{m:Int}{ars:VX}(h:Rise ns m):hgM m ars (some (ns.map V.int))=!JR m ars ns:=by
 show(plsG m (some (ns.map V.int))&&((ars.filter (both (JO (ns.map V.int)))).isEmpty&&(Jq m ars (JO (ns.map V.int))).isEmpty))=_;rw[h.pls,Bool.true_and,UI];unfold JR Jq;rw[Bool.not_or];have e:∀{α:Type}(f:α->Bool)(l:List α),(l.filter f).isEmpty=!l.any f:=fun f l=>by
  induction l with
  | nil=>rfl
  | cons x r ih =>
   rw[List.filter_cons,List.any_cons];by_cases hx:f x=true
   ·rw [if_pos hx,hx];rfl
   ·rw [if_neg hx,ih,Bool.eq_false_iff.mpr hx,Bool.false_or]
 rw[e,e]
end
theorem WT:∀bs:List Bool,(bs.map V.bl).all YB=true
 | []=>rfl
 | b::r=>by show(YB (V.bl b)&&(r.map V.bl).all YB)=true;rw[WT r];rfl
def fltM(bs:List Bool)(L:List (List Bool)):List (List Bool):=L.filter fun c=>decide (c.take bs.length=bs)
def nxB(l:List Bool):List Bool:=[false,true].filter fun b=>decide (b∈l)
theorem Jrt{l r:List Bool}(nd:l.Nodup)(s:l.Pairwise fun a b=>(!b&&a)=false)(mem:∀x,x∈l↔x∈r):l=nxB r:=by
 have e:nxB r=nxB l:=by unfold nxB;exact List.filter_congr fun b _=>by rw[decide_eq_decide];exact(mem b).symm
 rw[e]
 match l,nd,s with
 | [],_,_=>rfl
 | [a],_,_=>cases a <;> rfl
 | [a,b],nd,s =>
  cases a<;>cases b
  ·simp at nd
  ·rfl
  ·simp at s
  ·simp at nd
 | a::b::c::r,nd,_ =>
  simp only[List.nodup_cons,List.mem_cons,not_or]at nd;cases a<;>cases b<;>cases c<;>simp at nd
inductive Pap where
 | tied (a b:Int) | lost (p:Int) | cs (x y:Pap)
def ffP:VX->VY->Option Pap
 | (a,b)::_,_=>some (.tied a b)
 | [],p::_=>some (.lost p)
 | [],[]=>none
def fbP(ars:VX)(bs:List Bool):Option Pap:=ffP (tbL ars bs) (lbL ars bs)
def pF(ars:VX):Nat->List Bool->Option Pap
 | 0,bs=>fbP ars bs
 | k + 1,bs=>match fbP ars bs with
  | some x=>some x
  | none=>match pF ars k (bs++[true]) with
   | none=>none
   | some x=>match pF ars k (bs++[false]) with
    | none=>none
    | some y=>some (.cs x y)
def Jdc(m:Int)(ars:VX):Pap->List Bool->Prop
 | .tied a b,bs=>(a,b)∈ars/\a∈plw bs true bs.length/\b∈plw bs true bs.length
 | .lost p,bs=>p∈outs bs/\∀ b∈ldI ars p,b∈outs bs
 | .cs x y,bs=>(bs.length:Int) < m/\Jdc m ars x (bs++[true])/\Jdc m ars y (bs++[false])
def dP:Pap->Nat
 | .tied _ _=>0
 | .lost _=>0
 | .cs x y=>max (dP x) (dP y) + 1
theorem Jju{ars:VX}{bs:List Bool}:fbP ars bs=none↔noF ars bs=true:=by
 unfold fbP noF fbV;cases tbL ars bs with
 | cons q r =>
  obtain⟨a,b⟩:=q;simp[ffP,ffV]
 | nil =>
  cases lbL ars bs with
  | cons p r=>simp [ffP,ffV]
  | nil=>simp [ffP,ffV]
theorem Jbm{m:Int}{ars:VX}{bs:List Bool}{x:Pap}(h:fbP ars bs=some x):Jdc m ars x bs/\dP x=0:=by
 unfold fbP at h;cases e:tbL ars bs with
 | cons q r =>
  obtain⟨a,b⟩:=q;rw[e]at h;cases h;have hm:(a,b)∈tbL ars bs:=by rw[e];exact SG
  have h2:=SR.mp hm;have h3:=h2.2;unfold both at h3;rw[Bool.and_eq_true]at h3;exact⟨⟨h2.1,of_decide_eq_true h3.1,of_decide_eq_true h3.2⟩,rfl⟩
 | nil =>
  rw[e]at h;cases e2:lbL ars bs with
  | cons p r =>
   rw[e2]at h;cases h;have hm:p∈lbL ars bs:=by rw[e2];exact SG
   have h2:=SR.mp hm;exact⟨⟨h2.1,fun b hb=>of_decide_eq_true (SM.mp h2.2 b hb)⟩,rfl⟩
  | nil =>
   rw[e2]at h;cases h
theorem Jdr{m:Int}{ars:VX}:∀{k:Nat}{bs:List Bool}{x:Pap},pF ars k bs=some x->(bs.length:Int)+k<=m->Jdc m ars x bs/\dP x<=k
 | 0,bs,x,h,_=>by have:=Jbm (m:=m) (show fbP ars bs=some x from h);exact⟨this.1,by omega⟩
 | k + 1,bs,x,h,hl=>by
  unfold pF at h;cases e:fbP ars bs with
  | some y =>
   rw[e]at h;cases h;have:=Jbm (m:=m) e;exact⟨this.1,by omega⟩
  | none =>
   rw[e]at h;dsimp only at h;cases e1:pF ars k (bs++[true]) with
   | none =>
    rw[e1]at h;cases h
   | some y =>
    rw[e1]at h;dsimp only at h;cases e2:pF ars k (bs++[false]) with
    | none =>
     rw[e2]at h;cases h
    | some z =>
     rw[e2]at h;cases h;have h1:=Jdr e1 (by rw[List.length_append];show((bs.length+1:Nat):Int)+k<=m;omega);have h2:=Jdr e2 (by rw[List.length_append];show((bs.length+1:Nat):Int)+k<=m;omega);refine⟨⟨by omega,h1.1,h2.1⟩,?_⟩;show max (dP y) (dP z)+1<=k+1;have:=h1.2;have:=h2.2;omega
theorem Jav{ars:VX}{bs:List Bool}:∀{r:List Bool},noF ars (bs++r)=true->noF ars bs=true:=by
 intro r;induction r generalizing bs with
 | nil=>rw [List.append_nil]; exact id
 | cons x r ih =>
  intro h;rw[show bs++x::r=(bs++[x])++r by simp]at h;exact Jjd (ih h)
theorem UU{ars:VX}:∀{k:Nat}{bs:List Bool},pF ars k bs=none↔∃r:List Bool,r.length=k/\noF ars (bs++r)=true
 | 0,bs=>by
  show fbP ars bs=none↔_;rw[Jju];constructor
  ·intro h;exact⟨[],rfl,by rw[List.append_nil];exact h⟩
  ·rintro ⟨r,hr,h⟩;exact Jav h
 | k + 1,bs=>by
  unfold pF;constructor
  ·intro h;cases e:fbP ars bs with
   | some y =>
    rw[e]at h;cases h
   | none =>
    rw[e]at h;dsimp only at h;cases e1:pF ars k (bs++[true]) with
    | none =>
     obtain⟨r,hr,hn⟩:=UU.mp e1;exact⟨true::r,by rw[List.length_cons,hr],by rw[show bs++true::r=(bs++[true])++r by simp];exact hn⟩
    | some y =>
     rw[e1]at h;dsimp only at h;cases e2:pF ars k (bs++[false]) with
     | none =>
      obtain⟨r,hr,hn⟩:=UU.mp e2;exact⟨false::r,by rw[List.length_cons,hr],by rw[show bs++false::r=(bs++[false])++r by simp];exact hn⟩
     | some z =>
      rw[e2]at h;cases h
  ·rintro ⟨r,hr,hn⟩;rw[Jju.mpr (Jav hn)];dsimp only;cases r with
   | nil=>cases hr
   | cons x r =>
    rw[show bs++x::r=(bs++[x])++r by simp]at hn;have hk:r.length=k:=by simpa using hr
    cases x with
    | true=>rw [UU.mpr ⟨r,hk,hn⟩]
    | false =>
     rw[UU.mpr ⟨r,hk,hn⟩];cases pF ars k (bs++[true])<;>rfl
theorem cut1W(us:VS):cutV us (some 1) none=us.drop 1:=by
 unfold cutV;have:HT.sIx us.length 0 (some 1)=min 1 us.length:=HT.sIx_nat _ _ 1;rw[this,HT.sIx_none];cases us with
 | nil=>rfl
 | cons a r =>
  rw[Nat.min_eq_left (by simp)];exact List.take_of_length_le (by simp)
section
variable{P:VC}{w:VF}{K:Frag}{mg:VZ}{base:Heap}
def isB:V->Bool
 | .bl _=>true
 | _=>false
def trG:Option (VS)->Bool
 | none=>false
 | some ys=>ys.all isB
def Jes:Sp:=fun vs H Q _=>∃x o,vs=[x]/\Thing H x o/\∀H',Same H H'->Q (.bl (trG o)) H'
theorem Jlo(D:DefAt K mg "truths_good" Ur ["thing"])(fr:Free mg ["isinstance","tuple","all","bool"]):Kn P w K mg base 1 "truths_good" ["thing"] Jes:=by
 refine D.kn (N:=["thing"]) ⟨rfl,rfl,rfl,by decide +kernel,rfl,by decide +kernel,by decide +kernel⟩ (fun vs H Q E h=>?_) (fun f cdv A outer s H vs Q E hr h=>?_)
 ·obtain ⟨x,o,rfl,_⟩:=h;rfl
 ·obtain ⟨x,o,rfl,th,k⟩:=h;have m1:=fr "isinstance" (by simp);have m2:=fr "tuple" (by simp);have m3:=fr "all" (by simp);have m4:=fr "bool" (by simp);have nd:(["truth"]:VJ).Nodup:=by decide +kernel
  refine ⟨_,Je (Ji (Yw (Jm Zf rfl m1 YR (Ja (pv 0) (Ja (Zn (v:=.ty "tuple") rfl m2 JE rfl) Jb)))
   (YN (Jm (Yc rfl) rfl m3 Yh (Ja (Yb (N:=["truth"]) (src:=[none]) (cl:=[]) rfl ⟨rfl,rfl,rfl,rfl,trivial,rfl,rfl,rfl⟩ (Js (i:=0) rfl)
    (Wl (pv 0)) (fun C s H fp=>⟨Jp (i:=0) nd rfl (Or.inl rfl),JC,Jm Zf rfl m1 YR (Ja (pv 0) (Ja (Zn (v:=.ty "bool") rfl m4 Jbr rfl) Jb))⟩)) Jb))))),?_⟩
  cases th with
  | oth d n =>
   refine⟨_,rfl,_,"tuple",_,rfl,d,by simp,_,rfl,?_⟩;rename_i T;have e:kitB T "tuple"=false:=by unfold kitB;simp[n]
   rw[e];exact iteF (k H (Same.refl H))
  | tup hp ty z =>
   refine⟨_,rfl,_,"tuple",_,rfl,.tup hp,by simp,_,rfl,iteT ?_⟩;rename_i p ys;refine⟨_,rfl,p,rfl,⟨ys,SqT.of hp⟩,Jdz (xs:=ys) (fun i zs H'=>Same H H'/\zs=(ys.take i).map fun q=>V.bl (isB q)) ⟨Same.refl _,rfl⟩ ?_ ?_ ?_⟩
   ·rintro i zs H' hi ⟨s2,rfl⟩;refine⟨SqT.of (s2 _ _ hp),?_⟩;rw[List.length_map,List.length_take];omega
   ·rintro zs H' ⟨s2,rfl⟩ l hl;refine⟨l,ys.map isB,rfl,SqL.of ?_,?_⟩
    ·rw [Jc,List.take_of_length_le (Nat.le_refl _),List.map_map];rfl
    ·have e:(ys.map isB).all id=trG (some ys):=by
      rw[List.all_map];rfl
     rw[e];exact k _ (s2.trans (Same.upd hl))
   ·rintro i x zs H' h1 hi ⟨s2,rfl⟩;obtain⟨T,d⟩:=ty x (SK h1);refine⟨_,rfl,x,"bool",T,rfl,d.mono s2,by simp,nx hi ⟨s2,?_⟩⟩;have e:kitB T "bool"=isB x:=by
     cases d<;>rfl
    rw[Jx _ _ _ h1,List.map_append,e];rfl
def Jip:Sp:=fun vs H Q _=>∃(a u:VB)(m:Int)(y:V)(i j:Int),vs=[.ref a,.ref u]/\H a=some (.tup [.int m,y])/\H u=some (.tup [.int i,.int j])/\plG m (.int i)=true/\plG m (.int j)=true/\i≠j/\Q (.bl true) H
theorem Jpc(D:DefAt K mg "pair_good" WA ["web","thing"])(fr:Free mg ["isinstance","tuple","len"])(kp:Kn P w K mg base 2 "place_good" ["web","thing"] UO):Kn P w K mg base 3 "pair_good" ["web","thing"] Jip:=by
 have sc:FnScope ["web","thing"] ["web","thing"] (Jh WA):=⟨rfl,rfl,rfl,by decide +kernel,rfl,by decide +kernel,by decide +kernel⟩;refine D.kn (N:=["web","thing"]) sc (fun vs H Q E h=>?_) (fun f cdv A outer s H vs Q E hr h=>?_)
 ·obtain ⟨a,u,m,y,i,j,rfl,_⟩:=h;rfl
 ·obtain ⟨a,q,m,y,i,j,rfl,ha,hq,g1,g2,ne,kk⟩:=h;have m1:=fr "isinstance" (by simp);have m2:=fr "tuple" (by simp);have m3:=fr "len" (by simp);refine ⟨_,Jd (JA (PW.pt (ZS (Yj (JM (Jm Zf rfl m1 YR (Ja (pv 1) (Ja (Zn (v:=.ty "tuple") rfl m2 JE rfl) Jb))))) (Zr (Jo UY (Jm Ju rfl m3 PySem.boot_len (Ja (pv 1) Jb)) Jf (Jn _))))) (Je (Ji JG)) Jt)
   (Je (Ji (Yw (Jl kp hr (Ja (pv 0) (Ja (Jv Jz (pv 1) Jf (fun _ _=>rfl)) Jb))) (Yw (Jl kp hr (Ja (pv 0) (Ja (Jv Jz (pv 1) Jf (fun _ _=>rfl)) Jb))) (YN (JK UY (Jv Jz (pv 1) Jf (fun _ _=>rfl)) (Jv Jz (pv 1) Jf (fun _ _=>rfl)) (Jn _))))))),?_⟩
  refine⟨_,rfl,_,"tuple",_,rfl,.tup hq,by simp,_,rfl,iteF ?_⟩;refine⟨_,rfl,q,_,rfl,.inr (SqT.of hq),rfl,_,rfl,iteF ?_⟩;refine⟨_,rfl,_,rfl,q,_,_,_,rfl,rfl,SqT.of hq,rfl,a,m,y,.int i,_,rfl,ha,.int i,_,rfl,?_⟩;rw[g1];refine iteT ⟨_,rfl,_,rfl,q,_,_,_,rfl,rfl,SqT.of hq,rfl,a,m,y,.int j,_,rfl,ha,.int j,_,rfl,?_⟩;rw[g2];refine iteT ⟨_,rfl,q,_,_,_,rfl,rfl,SqT.of hq,rfl,_,rfl,q,_,_,_,rfl,rfl,SqT.of hq,rfl,rfl,?_⟩;have e:(!decide (V.int i=V.int j))=true:=by simp[ne]
  first
  | (rw [e]; exact kk)
  | (show Q (.bl (decide (V.int i≠V.int j))) H; rw [show decide (V.int i≠V.int j)=true by simp [ne]]; exact kk)
inductive FGk(m:Int)(prs:VX)(ls:VY):VS->Bool->Prop where
 | tied {i j:Int} (h:(i,j)∈prs) (g1:plG m (.int i)=true) (g2:plG m (.int j)=true) (ne:i≠j):FGk m prs ls [.str "tied",.int i,.int j] true
 | lost {i:Int} (h:i∈ls) (g1:plG m (.int i)=true):FGk m prs ls [.str "lost",.int i] true
 | cs (v1 v2:V):FGk m prs ls [.str "cases",v1,v2] false
def Jir:Sp:=fun vs H Q _=>∃(a t:VB)(m:Int)(us:VS)(ars:VX)(l l2:VB)(ws:VS)(prs:VX)(ls:VY)(q:VB)(ys:VS)(b:Bool),vs=[.ref a,.ref l,.ref l2,.ref q]/\Web H a t m us ars/\H l=some (.lst ws)/\Ars H ws prs/\H l2=some (.lst (ls.map V.int))/\H q=some (.tup ys)/\FGk m prs ls ys b /\
 ∀(H':Hp),Same H H'->Q (.bl b) H'
theorem Jvw(D:DefAt K mg "fault_good" Wg ["web","tied","lost","thing"])(fr:Free mg ["isinstance","len","tuple"])(kp:Kn P w K mg base 2 "place_good" ["web","thing"] UO)(kq:Kn P w K mg base 3 "pair_good" ["web","thing"] Jip):Kn P w K mg base 4 "fault_good" ["web","tied","lost","thing"] Jir:=by
 have sc:FnScope ["web","tied","lost","thing","word","ends"] ["web","tied","lost","thing"] (Jh Wg):=⟨rfl,rfl,rfl,by decide +kernel,rfl,by decide +kernel,by decide +kernel⟩;refine D.kn (N:=["web","tied","lost","thing","word","ends"]) sc (fun vs H Q E h=>?_) (fun f cdv A outer s H vs Q E hr h=>?_)
 ·obtain ⟨a,t,m,us,ars,l,l2,ws,prs,ls,q,ys,b,rfl,_⟩:=h;rfl
 ·obtain ⟨a,t,m,us,ars,l,l2,ws,prs,ls,q,ys,b,rfl,W,hl,ar,hl2,hq,fg,kk⟩:=h;have hu:=YI hr;have hu2:=huN (j:=2) hr (by decide);have r2:=hr.mono (j:=2) (by decide);have m_isinstance:=fr "isinstance" (by simp);have m_len:=fr "len" (by simp);have m_tuple:=fr "tuple" (by simp);refine⟨_,(Jd (JA (PW.pt (ZS (Yj (JM (Jm Zf rfl m_isinstance YR (Ja (pv 3) (Ja (Zn (v:=.ty "tuple") rfl m_tuple JE rfl) Jb))))) (Zr (Jo (Jro (Nat.lt_of_succ_lt hu)) (pv 3) (JI Jb) (Jn _))))) (Je (Ji JG)) Jt) (Jd (Jr (i:=4) sc.nd rfl (Or.inl rfl) (Jv Jz (pv 3) Jf (fun _ _=>rfl))) (Jd (Jr (i:=5) sc.nd rfl (Or.inl rfl) (Zd UP (pv 3) (Zm Jf) Wj)) (Jd (JA (Jo Yz (pv 4) ZN (Jn _)) (Je (Ji (Yw (Jl kq (hr.mono (by decide)) (Ja (pv 0) (Ja (pv 5) Jb))) (YN (JK (Jjb 1 hu2) (pv 5) (pv 1) rfl))))) Jt) (Jd (JA (PW.pt (Wi (Jo Yz (pv 4) ZN (Jn _)) (Zl (Jo Yz (Jm Ju rfl m_len PySem.boot_len (Ja (pv 5) Jb)) Jf (Jn _))))) (Je (Ji (Yw (Jl kp r2 (Ja (pv 0) (Ja (Jv Jz (pv 5) Jf (fun _ _=>rfl)) Jb))) (YN (JK Ud (Jv Jz (pv 5) Jf (fun _ _=>rfl)) (pv 2) rfl))))) Jt) (Je (Ji JG))))))),?_⟩;refine⟨_,rfl,_,"tuple",_,rfl,.tup hq,by simp,_,rfl,iteF ?_⟩;refine⟨_,rfl,(by show 0<=sizeLine;decide),fun e he=>?_⟩;have s1:=Same.upd (o:=.tup []) he;refine⟨q,e,ys,rfl,rfl,SqT.of (s1 _ _ hq),SqT.of Jc,_,rfl,?_⟩;have ye:ys.isEmpty=false:=by cases fg<;>rfl
  rw[ye];refine iteF ?_;obtain⟨w0,r,rfl⟩:∃w0 r,ys=w0::r:=by cases fg<;>exact⟨_,_,rfl⟩
  refine⟨_,rfl,q,_,_,w0,rfl,rfl,SqT.of (s1 _ _ hq),JS (j:=0) rfl,?_⟩;refine⟨_,rfl,1,rfl,q,_,rfl,s1 _ _ hq,fun u H2 s2 hu'=>?_⟩;rw[cut1W]at hu';replace hu':H2 u=some (.tup r):=hu';have s12:=s1.trans s2;have W2:=W.mono s12;cases fg with
  | tied h g1 g2 ne =>
   rename_i i j;refine⟨_,rfl,rfl,_,rfl,iteT ?_⟩;refine⟨_,rfl,_,rfl,a,u,m,_,i,j,rfl,W2.top,hu',g1,g2,ne,_,rfl,?_⟩;refine iteT ⟨_,rfl,_,rfl,l,ws,.tup [.int i,.int j],tPrs prs,rfl,.inl (SqL.of (s12 _ _ hl)),Is.tup (SqT.of hu') (.cons (Is.int _) (.cons (Is.int _) .nil)),Jpi (d:=0) (ar.mono s12),fun b hb=>?_⟩;have:b=true:=hb.mpr (SL.mpr ⟨(i,j),h,rfl⟩);rw[this];exact kk _ s12
  | lost h g1 =>
   rename_i i;refine⟨_,rfl,rfl,_,rfl,iteF ?_⟩;refine⟨_,rfl,rfl,_,rfl,iteT ?_⟩;refine⟨_,rfl,u,_,rfl,.inr (SqT.of hu'),rfl,_,rfl,iteT ?_⟩;refine⟨_,rfl,_,rfl,u,_,_,_,rfl,rfl,SqT.of hu',rfl,a,m,_,.int i,_,rfl,W2.top,.int i,_,rfl,?_⟩;rw[g1];refine iteT ⟨_,rfl,u,_,_,_,rfl,rfl,SqT.of hu',rfl,_,rfl,l2,_,rfl,.inl (SqL.of (s12 _ _ hl2)),rfl,QC ls,?_⟩;show Q (.bl (inV (.int i) (ls.map V.int))) H2;rw[Wr,decide_eq_true h];exact kk _ s12
  | cs v1 v2 =>
   refine⟨_,rfl,rfl,_,rfl,iteF ?_⟩;refine⟨_,rfl,rfl,_,rfl,iteF ?_⟩;exact kk _ s12
end
def flV:Pap->VS
 | .tied a b=>[.str "tied",.int a,.int b]
 | .lost p=>[.str "lost",.int p]
 | .cs _ _=>[]
theorem Jwj(ars:VX)(bs:List Bool):fbV ars bs=(fbP ars bs).map flV:=by
 unfold fbV fbP;cases tbL ars bs with
 | cons q r=>rfl
 | nil =>
  cases lbL ars bs with
  | cons p r=>rfl
  | nil=>rfl
def IsP(H:Hp):Pap->V->Prop
 | .tied a b,v=>∃ q,v=.ref q/\H q=some (.tup [.str "tied",.int a,.int b])
 | .lost p,v=>∃ q,v=.ref q/\H q=some (.tup [.str "lost",.int p])
 | .cs x y,v=>∃ q v1 v2,v=.ref q/\H q=some (.tup [.str "cases",v1,v2])/\IsP H x v1/\IsP H y v2
theorem IsP.mono{H H':Hp}(s:Same H H'):∀{x:Pap}{v:V},IsP H x v->IsP H' x v
 | .tied _ _,_,⟨q,e,h⟩=>⟨q,e,s _ _ h⟩
 | .lost _,_,⟨q,e,h⟩=>⟨q,e,s _ _ h⟩
 | .cs _ _,_,⟨q,v1,v2,e,h,h1,h2⟩=>⟨q,v1,v2,e,s _ _ h,IsP.mono s h1,IsP.mono s h2⟩
theorem IsP.ref{H:Hp}:∀{x:Pap}{v:V},IsP H x v->∃q,v=.ref q
 | .tied _ _,_,⟨q,e,_⟩=>⟨q,e⟩
 | .lost _,_,⟨q,e,_⟩=>⟨q,e⟩
 | .cs _ _,_,⟨q,_,_,e,_⟩=>⟨q,e⟩
theorem Jsm{ars:VX}{bs:List Bool}{x:Pap}(h:fbP ars bs=some x){H:Hp}{z:VB}(hz:H z=some (.tup (flV x))):IsP H x (.ref z):=by
 cases x with
 | tied a b=>exact ⟨z,rfl,hz⟩
 | lost p=>exact ⟨z,rfl,hz⟩
 | cs x y =>
  have:=(Jbm (m:=0) h).2;cases this
def tellsP(H:Hp)(Q:VK):Option Pap->Prop
 | some x=>∀ (v:V) (H':Hp),Same H H'->IsP H' x v->Q v H'
 | none=>∀ H',Same H H'->Q .non H'
theorem tellsP.mono{H H1:Hp}{Q:VK}{o:Option Pap}(h:tellsP H Q o)(s:Same H H1):tellsP H1 Q o:=by
 cases o with
 | some x=>exact fun v H' s' e=>h v H' (s.trans s') e
 | none=>exact fun H' s'=>h H' (s.trans s')
theorem WB.app{H H':Hp}{a t c q:VB}{m:Int}{us:VS}{ars:VX}{bs:List Bool}(h:WB H a t c m us ars bs)(s:Same H H'){x:Bool}(hq:H' q=some (.tup (bs.map V.bl++[.bl x])))(lt:(bs.length:Int)<m):WB H' a t q m us ars (bs++[x]) :=
 ⟨h.web.mono s,h.good,by rw[hq,List.map_append];rfl,by rw[List.length_append];show((bs.length+1:Nat):Int)<=m;omega⟩
theorem Jhe{m i:Int}(h0:0<=i)(h1:i<m):plG m (.int i)=true:=by show(decide (0<=i)&&decide (i<m))=true;simp[h0,h1]
theorem Juz{ars:VX}{bs:List Bool}{a b:Int}:(a,b)∈tbL ars bs↔(a,b)∈ars/\a∈plw bs true bs.length/\b∈plw bs true bs.length:=by unfold tbL both;rw[List.mem_filter,Bool.and_eq_true,decide_eq_true_iff,decide_eq_true_iff]
theorem Jva{ars:VX}{bs:List Bool}{p:Int}:p∈lbL ars bs↔p∈outs bs/\∀b∈ldI ars p,b∈outs bs:=by unfold lbL;rw[List.mem_filter,List.all_eq_true];exact and_congr_right fun _=>⟨fun h b hb=>of_decide_eq_true (h b hb),fun h b hb=>decide_eq_true (h b hb)⟩
section
variable{P:VC}{w:VF}{K:Frag}{mg:VZ}{base:Heap}
def spPG(fuel:Nat):Sp:=fun vs H Q _=>∃(a t c:VB)(m:Int)(us:VS)(ars:VX)(bs:List Bool)(v:V)(x:Pap),vs=[.ref a,.ref c,v]/\WB H a t c m us ars bs/\IsP H x v/\Jdc m ars x bs/\dP x<fuel/\∀H',Same H H'->Q (.bl true) H'
theorem Jvn(D:DefAt K mg "paper_good" Ye ["web","begun","thing"]):Kn P w K mg base 5 "paper_good" ["web","begun","thing"] (spPG 0):=by
 have sc:FnScope ["web","begun","thing"] ["web","begun","thing"] (Jh Ye):=⟨rfl,rfl,rfl,by decide +kernel,rfl,by decide +kernel,by decide +kernel⟩;refine D.kn (N:=["web","begun","thing"]) sc (fun vs H Q E h=>?_) (fun f cdv A outer s H vs Q E hr h=>?_)
 ·obtain ⟨a,t,c,m,us,ars,bs,v,x,rfl,_⟩:=h;rfl
 ·obtain ⟨a,t,c,m,us,ars,bs,v,x,rfl,_,_,_,lt,_⟩:=h;exact absurd lt (Nat.not_lt_zero _)
theorem Jvm{fuel:Nat}(D:DefAt K mg "paper_good" Ye ["web","begun","thing"])(fr:Free mg ["isinstance","len","tuple"])(kf:Kn P w K mg base 4 "fault_good" ["web","tied","lost","thing"] Jir)(kt:Kn P w K mg base 3 "tied_begun" ["web","begun"] spTB)(kl:Kn P w K mg base 2 "lost_begun" ["web","begun"] spLB)(kg:Kn P w K mg base (fuel+5) "paper_good" ["web","begun","thing"] (spPG fuel)):Kn P w K mg base (fuel+5+1) "paper_good" ["web","begun","thing"] (spPG (fuel+1)):=by
 have sc:FnScope ["web","begun","thing"] ["web","begun","thing"] (Jh Ye):=⟨rfl,rfl,rfl,by decide +kernel,rfl,by decide +kernel,by decide +kernel⟩;refine D.kn (N:=["web","begun","thing"]) sc (fun vs H Q E h=>?_) (fun f cdv A outer s H vs Q E hr h=>?_)
 ·obtain ⟨a,t,c,m,us,ars,bs,v,x,rfl,_⟩:=h;rfl
 ·obtain ⟨a,t,c,m,us,ars,bs,v,x,rfl,B,ip,gp,lt,kk⟩:=h;have hu:=YI hr;have r4:=hr.mono (j:=4) (by omega);have r3:=hr.mono (j:=3) (by omega);have r2:=hr.mono (j:=2) (by omega);have rw':Room (fuel+5) _:=hr;have m_isinstance:=fr "isinstance" (by simp);have m_len:=fr "len" (by simp);have m_tuple:=fr "tuple" (by simp);refine⟨_,(Jd (JA (JM (Jl kf r4 (Ja (pv 0) (Ja (Jl kt r3 (Ja (pv 0) (Ja (pv 1) Jb))) (Ja (Jl kl r2 (Ja (pv 0) (Ja (pv 1) Jb))) (Ja (pv 2) Jb)))))) (Je (Ji JG)) Jt) (Jd (JA (PW.pt (ZS (Yj (JM (Jm Zf rfl m_isinstance YR (Ja (pv 2) (Ja (Zn (v:=.ty "tuple") rfl m_tuple JE rfl) Jb))))) (ZS (Jo UY (Jm Ju rfl m_len PySem.boot_len (Ja (pv 2) Jb)) Jf (Jn _)) (ZS (Jo UY (Jv Jz (pv 2) Jf (fun _ _=>rfl)) ZN (Jn _)) (Zr (Jo Jtk (Jm Ju rfl m_len PySem.boot_len (Ja (pv 1) Jb)) (Jv Jz (pv 0) Jf (fun _ _=>rfl)) (Jn _))))))) (Je (Ji JG)) Jt) (Je (Ji (Yw (Jl kg rw' (Ja (pv 0) (Ja (JD YZ (pv 1) (JI (Ja JG Jb))) (Ja (Jv Jz (pv 2) Jf (fun _ _=>rfl)) Jb)))) (YN (Jl kg rw' (Ja (pv 0) (Ja (JD YZ (pv 1) (JI (Ja JG Jb))) (Ja (Jv Jz (pv 2) Jf (fun _ _=>rfl)) Jb)))))))))),?_⟩;have c1:1<=sizeLine:=by decide
  refine⟨_,rfl,_,rfl,_,rfl,a,t,c,m,us,ars,bs,rfl,B,fun l1 ws H1 s1 h1 ar=>?_⟩;refine⟨_,rfl,_,rfl,a,t,c,m,us,ars,bs,rfl,B.mono s1,fun l2 H2 s2 h2=>?_⟩;have s12:=s1.trans s2;have B2:=B.mono s12;have ip2:=ip.mono s12;cases x with
  | tied i j =>
   obtain⟨q,rfl,hq⟩:=ip2;obtain⟨g1,g2,g3⟩:=gp;have ga:=B.good _ g1;refine⟨_,rfl,a,t,m,us,ars,l1,l2,ws,tbL ars bs,lbL ars bs,q,_,true,rfl,B2.web,s2 _ _ h1,ar.mono s2,h2,hq,.tied (Juz.mpr ⟨g1,g2,g3⟩) (Jhe ga.1 ga.2.1) (Jhe ga.2.2.1 ga.2.2.2.1) ga.2.2.2.2,fun H3 s3=>⟨_,rfl,iteT ?_⟩⟩;exact kk _ (s12.trans s3)
  | lost i =>
   obtain⟨q,rfl,hq⟩:=ip2;have gl:=B.len;obtain⟨j,hj,_,ej⟩:=Qb.mp gp.1;refine⟨_,rfl,a,t,m,us,ars,l1,l2,ws,tbL ars bs,lbL ars bs,q,_,true,rfl,B2.web,s2 _ _ h1,ar.mono s2,h2,hq,.lost (Jva.mpr gp) (Jhe (by omega) (by omega)),fun H3 s3=>⟨_,rfl,iteT ?_⟩⟩;exact kk _ (s12.trans s3)
  | cs x y =>
   obtain⟨q,v1,v2,rfl,hq,i1,i2⟩:=ip2;obtain⟨g1,g2,g3⟩:=gp;have lt:max (dP x) (dP y)+1<fuel+1:=lt;have gm:=B.web.mb;refine⟨_,rfl,a,t,m,us,ars,l1,l2,ws,tbL ars bs,lbL ars bs,q,_,false,rfl,B2.web,s2 _ _ h1,ar.mono s2,h2,hq,.cs v1 v2,fun H3 s3=>⟨_,rfl,iteF ?_⟩⟩;have hq3:=s3 _ _ hq;have B3:=B2.mono s3;refine⟨_,rfl,_,"tuple",_,rfl,.tup hq3,by simp,_,rfl,iteF ?_⟩;refine⟨_,rfl,q,_,rfl,.inr (SqT.of hq3),rfl,_,rfl,iteF ?_⟩;refine⟨_,rfl,q,_,_,_,rfl,rfl,SqT.of hq3,rfl,rfl,_,rfl,iteF ?_⟩;refine⟨_,rfl,c,_,rfl,.inr (SqT.of B3.at_),_,rfl,a,_,_,_,rfl,rfl,SqT.of B3.web.top,rfl,_,m,rfl,rfl,_,rfl,ite2 (fun z=>?_) (fun _=>?_)⟩
   ·have z:=of_decide_eq_true z;rw[List.length_map]at z;omega
   refine⟨_,rfl,_,rfl,c1,fun p1 hp1=>?_⟩;have s4:=Same.upd (o:=.tup [.bl true]) hp1;refine⟨c,p1,_,_,rfl,rfl,s4 _ _ B3.at_,Jc,?_,fun p2 H5 s5 hp2=>?_⟩
   ·rw [List.length_map];exact SZ (Jk (by show _+1<=_;omega))
   have s45:=s4.trans s5;have hq5:=s45 _ _ hq3;refine⟨_,rfl,q,_,_,v1,rfl,rfl,SqT.of hq5,rfl,a,t,p2,m,us,ars,bs++[true],v1,x,rfl,B3.app s45 hp2 g1,(i1.mono s3).mono s45,g2,by omega,fun H6 s6=>⟨_,rfl,iteT ?_⟩⟩;have s46:=s45.trans s6;have B6:=B3.mono s46;refine⟨_,rfl,_,rfl,c1,fun p3 hp3=>?_⟩;have s7:=Same.upd (o:=.tup [.bl false]) hp3;refine⟨c,p3,_,_,rfl,rfl,s7 _ _ B6.at_,Jc,?_,fun p4 H8 s8 hp4=>?_⟩
   ·rw [List.length_map];exact SZ (Jk (by show _+1<=_;omega))
   have s78:=s7.trans s8;have s48:=s46.trans s78;refine⟨_,rfl,q,_,_,v2,rfl,rfl,SqT.of (s48 _ _ hq3),rfl,a,t,p4,m,us,ars,bs++[false],v2,y,rfl,B6.app s78 hp4 g1,(i2.mono s3).mono s48,g3,by omega,fun H9 s9=>?_⟩;exact kk _ (s12.trans (s3.trans (s48.trans s9)))
theorem Jpa(D:DefAt K mg "paper_good" Ye ["web","begun","thing"])(fr:Free mg ["isinstance","len","tuple"])(kf:Kn P w K mg base 4 "fault_good" ["web","tied","lost","thing"] Jir)(kt:Kn P w K mg base 3 "tied_begun" ["web","begun"] spTB)(kl:Kn P w K mg base 2 "lost_begun" ["web","begun"] spLB):∀fuel:Nat,Kn P w K mg base (fuel+5) "paper_good" ["web","begun","thing"] (spPG fuel)
 | 0=>Jvn D
 | fuel + 1=>Jvm D fr kf kt kl (Jpa D fr kf kt kl fuel)
theorem kn_pg(D:DefAt K mg "paper_good" Ye ["web","begun","thing"])(fr:Free mg ["isinstance","len","tuple"])(kf:Kn P w K mg base 4 "fault_good" ["web","tied","lost","thing"] Jir)(kt:Kn P w K mg base 3 "tied_begun" ["web","begun"] spTB)(kl:Kn P w K mg base 2 "lost_begun" ["web","begun"] spLB):Kn P w K mg base 18 "paper_good" ["web","begun","thing"] (spPG 13):=Jpa D fr kf kt kl 13
end
section
variable{P:VC}{w:VF}{K:Frag}{mg:VZ}{base:Heap}
def spPF(fuel:Nat):Sp:=fun vs H Q _=>∃(a t c:VB)(m:Int)(us:VS)(ars:VX)(bs:List Bool),vs=[.ref a,.ref c]/\WB H a t c m us ars bs/\m.toNat-bs.length<fuel/\tellsP H Q (pF ars (m.toNat-bs.length) bs)
theorem Jvp(D:DefAt K mg "paper_for" Yq ["web","begun"]):Kn P w K mg base 5 "paper_for" ["web","begun"] (spPF 0):=by
 have sc:FnScope ["web","begun","fault","first","second"] ["web","begun"] (Jh Yq):=⟨rfl,rfl,rfl,by decide +kernel,rfl,by decide +kernel,by decide +kernel⟩;refine D.kn (N:=["web","begun","fault","first","second"]) sc (fun vs H Q E h=>?_) (fun f cdv A outer s H vs Q E hr h=>?_)
 ·obtain ⟨a,t,c,m,us,ars,bs,rfl,_⟩:=h;rfl
 ·obtain ⟨a,t,c,m,us,ars,bs,rfl,_,lt,_⟩:=h;exact absurd lt (Nat.not_lt_zero _)
theorem Jvo{fuel:Nat}(D:DefAt K mg "paper_for" Yq ["web","begun"])(fr:Free mg ["len"])(kf:Kn P w K mg base 4 "fault_begun" ["web","begun"] spFB)(kg:Kn P w K mg base (fuel+5) "paper_for" ["web","begun"] (spPF fuel)):Kn P w K mg base (fuel+5+1) "paper_for" ["web","begun"] (spPF (fuel+1)):=by
 have sc:FnScope ["web","begun","fault","first","second"] ["web","begun"] (Jh Yq):=⟨rfl,rfl,rfl,by decide +kernel,rfl,by decide +kernel,by decide +kernel⟩;refine D.kn (N:=["web","begun","fault","first","second"]) sc (fun vs H Q E h=>?_) (fun f cdv A outer s H vs Q E hr h=>?_)
 ·obtain ⟨a,t,c,m,us,ars,bs,rfl,_⟩:=h;rfl
 ·obtain ⟨a,t,c,m,us,ars,bs,rfl,B,lt,kk⟩:=h;have r4:=hr.mono (j:=4) (by omega);have rw':Room (fuel+5) _:=hr;have m_len:=fr "len" (by simp);refine⟨_,(Jd (Jr (i:=2) sc.nd rfl (Or.inl rfl) (Jl kf r4 (Ja (pv 0) (Ja (pv 1) Jb)))) (Jd (JA (PW.pt (ZS (Jo UV (pv 2) Yr (Jn _)) (Zr (Jo Yz (Jm Ju rfl m_len PySem.boot_len (Ja (pv 1) Jb)) (Jv Jz (pv 0) Jf (fun _ _=>rfl)) (Jn _))))) (Je (Ji (pv 2))) Jt) (Jd (Jr (i:=3) sc.nd rfl (Or.inl rfl) (Jl kg rw' (Ja (pv 0) (Ja (JD YZ (pv 1) (JI (Ja JG Jb))) Jb)))) (Jd (JA (Jo Jdt (pv 3) Yr (Jn _)) (Je (Ji Yr)) Jt) (Jd (Jr (i:=4) sc.nd rfl (Or.inl rfl) (Jl kg rw' (Ja (pv 0) (Ja (JD YZ (pv 1) (JI (Ja JG Jb))) Jb)))) (Jd (JA (Jo Jdt (pv 4) Yr (Jn _)) (Je (Ji Yr)) Jt) (Je (Ji (JI (Ja ZN (Ja (pv 3) (Ja (pv 4) Jb)))))))))))),?_⟩;have c1:1<=sizeLine:=by decide
  have c3:3<=sizeLine:=by decide
  have gl:=B.len;have gm:=B.web.mb;refine⟨_,rfl,_,rfl,a,t,c,m,us,ars,bs,rfl,B,?_⟩;rw[Jwj];cases e:fbP ars bs with
  | some x =>
   intro z H1 s1 hz;refine⟨_,rfl,rfl,_,rfl,iteT ⟨_,rfl,?_⟩⟩;have ek:pF ars (m.toNat-bs.length) bs=some x:=by
    cases m.toNat-bs.length with
    | zero=>exact e
    | succ k =>
     unfold pF;rw[e]
   rw[ek]at kk;exact kk (.ref z) H1 s1 (Jsm e hz)
  | none =>
   intro H1 s1;have B1:=B.mono s1;refine⟨_,rfl,rfl,_,rfl,iteF ?_⟩;refine⟨_,rfl,c,_,rfl,.inr (SqT.of B1.at_),_,rfl,a,_,_,_,rfl,rfl,SqT.of B1.web.top,rfl,rfl,_,rfl,ite2 (fun z=>?_) (fun z=>?_)⟩
   ·have z:((bs.map V.bl).length:Int)=m:=by
     have:=of_decide_eq_true z;injection this
    rw[List.length_map]at z;rw[show m.toNat-bs.length=0 by omega]at kk;rw[show pF ars 0 bs=none from e]at kk;exact⟨_,rfl,kk H1 s1⟩
   ·have z:¬ ((bs.map V.bl).length:Int)=m:=fun y=>z (decide_eq_true (by rw [y]));rw[List.length_map]at z;have lt':(bs.length:Int)<m:=by omega
    obtain⟨k,ek⟩:∃k,m.toNat-bs.length=k+1:=⟨m.toNat-bs.length-1,by omega⟩;have ek1:∀x:Bool,m.toNat-(bs++[x]).length=k:=fun x=>by rw[List.length_append];show m.toNat-(bs.length+1)=k;omega
    rw[ek]at kk;unfold pF at kk;rw[e]at kk;dsimp only at kk;refine⟨_,rfl,_,rfl,c1,fun p1 hp1=>?_⟩;have s2:=Same.upd (o:=.tup [.bl true]) hp1;refine⟨c,p1,_,_,rfl,rfl,s2 _ _ B1.at_,Jc,?_,fun p2 H3 s3 hp2=>?_⟩
    ·rw [List.length_map];exact SZ (Jk (by show _+1<=_;omega))
    have s23:=s2.trans s3;refine⟨a,t,p2,m,us,ars,bs++[true],rfl,B1.app s23 hp2 lt',by rw[ek1];omega,?_⟩;rw[ek1];cases e1:pF ars k (bs++[true]) with
    | none =>
     intro H4 s4;rw[e1]at kk;dsimp only at kk;exact⟨_,rfl,rfl,_,rfl,iteT (kk H4 (s1.trans (s23.trans s4)))⟩
    | some x =>
     rw[e1]at kk;dsimp only at kk;intro v H4 s4 ip;obtain⟨q1,rfl⟩:=ip.ref;refine⟨_,rfl,rfl,_,rfl,iteF ?_⟩;have s14:=s23.trans s4;have B4:=B1.mono s14;refine⟨_,rfl,_,rfl,c1,fun p3 hp3=>?_⟩;have s5:=Same.upd (o:=.tup [.bl false]) hp3;refine⟨c,p3,_,_,rfl,rfl,s5 _ _ B4.at_,Jc,?_,fun p4 H6 s6 hp4=>?_⟩
     ·rw [List.length_map];exact SZ (Jk (by show _+1<=_;omega))
     have s56:=s5.trans s6;refine⟨a,t,p4,m,us,ars,bs++[false],rfl,B4.app s56 hp4 lt',by rw[ek1];omega,?_⟩;rw[ek1];cases e2:pF ars k (bs++[false]) with
     | none =>
      intro H7 s7;rw[e2]at kk;dsimp only at kk;exact⟨_,rfl,rfl,_,rfl,iteT (kk H7 (s1.trans (s14.trans (s56.trans s7))))⟩
     | some y =>
      rw[e2]at kk;dsimp only at kk;intro v2 H7 s7 ip2;obtain⟨q2,rfl⟩:=ip2.ref;refine⟨_,rfl,rfl,_,rfl,iteF ?_⟩;refine⟨_,rfl,_,rfl,c3,fun z hz=>?_⟩;have s8:=Same.upd (o:=.tup [.str "cases",.ref q1,.ref q2]) hz;exact kk (.ref z) _ (s1.trans (s14.trans (s56.trans (s7.trans s8)))) ⟨z,.ref q1,.ref q2,rfl,Jc,ip.mono (s56.trans (s7.trans s8)),ip2.mono s8⟩
theorem Jpb(D:DefAt K mg "paper_for" Yq ["web","begun"])(fr:Free mg ["len"])(kf:Kn P w K mg base 4 "fault_begun" ["web","begun"] spFB):∀fuel:Nat,Kn P w K mg base (fuel+5) "paper_for" ["web","begun"] (spPF fuel)
 | 0=>Jvp D
 | fuel + 1=>Jvo D fr kf (Jpb D fr kf fuel)
theorem kn_pf(D:DefAt K mg "paper_for" Yq ["web","begun"])(fr:Free mg ["len"])(kf:Kn P w K mg base 4 "fault_begun" ["web","begun"] spFB):Kn P w K mg base 18 "paper_for" ["web","begun"] (spPF 13):=Jpb D fr kf 13
end
theorem Jqf(l:VS)(k:Nat):cutV l none (some (k:Int))=l.take k:=by
 unfold cutV;show(l.drop 0).take (HT.sIx l.length l.length (some (k:Int))-0)=_;have e:HT.sIx l.length l.length (some (k:Int))=min k l.length:=by
  unfold HT.sIx;simp only
  first|omega|(split<;>omega)|simp
 rw[e,List.drop_zero,Nat.sub_zero];by_cases h:k<=l.length
 ·rw [Nat.min_eq_left h]
 ·rw [Nat.min_eq_right (by omega),List.take_of_length_le (Nat.le_refl _),List.take_of_length_le (by omega)]
theorem Jkt{H:Hp}{q:VB}{bs:List Bool}(hq:H q=some (.tup (bs.map V.bl)))(hl:bs.length<=1000):Thing H (.ref q) (some (bs.map V.bl)):=by
 refine .tup hq (fun y hy=>?_) ?_
 ·obtain ⟨n,_,rfl⟩:=SL.mp hy;exact⟨_,.bl n⟩
 ·rw [List.length_map];exact SZ (Jk hl)
theorem Jki:∀bs:List Bool,(bs.map V.bl).all isB=true
 | []=>rfl
 | b::r=>by show(isB (V.bl b)&&(r.map V.bl).all isB)=true;rw[Jki r];rfl
theorem Jkl(ars:VX){k:Nat}(h:k<=12):(AMk ars k).length<=4096:=LQ (Jaf ars k) (Nat.pow_le_pow_right (by decide) h)
theorem Jax{H H':Hp}{l:VB}(s:Same H H')(h:H' l=none):H l=none:=by
 cases e:H l with
 | none=>rfl
 | some o=>rw [s _ _ e] at h; cases h
section
variable{P:VC}{w:VF}{K:Frag}{mg:VZ}{base:Heap}
def Jdk:Sp:=fun vs H Q _=>∃(a c:VB)(m:Int)(y:V)(bs:List Bool),vs=[.ref a,.ref c]/\H a=some (.tup [.int m,y])/\H c=some (.tup (bs.map V.bl))/\(bs.length:Int)<=m/\m<=1000/\∀H',Same H H'->Q .non H'
theorem Jsa(D:DefAt K mg "refuse_no_beginning" Yi ["web","thing"])(fr:Free mg ["len"])(kt:Kn P w K mg base 1 "truths_good" ["thing"] Jes):Kn P w K mg base 2 "refuse_no_beginning" ["web","thing"] Jdk:=by
 have sc:FnScope ["web","thing"] ["web","thing"] (Jh Yi):=⟨rfl,rfl,rfl,by decide +kernel,rfl,by decide +kernel,by decide +kernel⟩;refine D.kn (N:=["web","thing"]) sc (fun vs H Q E h=>?_) (fun f cdv A outer s H vs Q E hr h=>?_)
 ·obtain ⟨a,c,m,y,bs,rfl,_⟩:=h;rfl
 ·obtain ⟨a,c,m,y,bs,rfl,ha,hc,lb,m1000,kk⟩:=h;have m1:=fr "len" (by simp);have r1:=hr.mono (j:=1) (by decide);refine⟨_,Je (JA (PW.pt (ZS (Yj (JM (Jl kt r1 (Ja (pv 1) Jb)))) (Zr (Jo QV (Jm Ju rfl m1 PySem.boot_len (Ja (pv 1) Jb)) (Jv Jz (pv 0) Jf (fun _ _=>rfl)) (Jn _))))) (Je WN) Jt),?_⟩;refine⟨_,rfl,.ref c,some (bs.map V.bl),rfl,Jkt hc (by omega),fun H1 s1=>⟨_,rfl,?_⟩⟩;rw[show trG (some (bs.map V.bl))=true from Jki bs];refine iteF ?_;refine⟨_,rfl,c,_,rfl,.inr (SqT.of (s1 _ _ hc)),_,rfl,a,_,_,_,rfl,rfl,SqT.of (s1 _ _ ha),rfl,_,m,rfl,rfl,_,rfl,ite2 (fun h2=>?_) (fun _=>kk H1 s1)⟩;have h2:m<(((bs.map V.bl).length:Nat):Int):=of_decide_eq_true h2;rw[List.length_map]at h2;omega
def Jna:Sp:=fun vs H Q _=>∃(a t c:VB)(m:Int)(us:VS)(ars:VX)(bs:List Bool),vs=[.ref a,.ref c]/\Web H a t m us ars/\Jy m ars/\1<=m/\m<=11/\H c=some (.tup (bs.map V.bl))/\(bs.length:Int)<=m/\∀(l:VB)(ws:VS)(H':Hp),Same H H'->H' l=some (.lst ws)->Bks H' ws (fltM bs (AMk ars m.toNat))->Q (.ref l) H'
theorem Jvu(D:DefAt K mg "marks_begun" ZG ["web","begun"])(fr:Free mg ["len"])(kg:Kn P w K mg base 1 "refuse_too_great" ["web"] Jet)(kr:Kn P w K mg base 2 "refuse_no_beginning" ["web","thing"] Jdk)(ka:Kn P w K mg base 5 "all_marks" ["web"] Jnd):Kn P w K mg base 6 "marks_begun" ["web","begun"] Jna:=by
 have sc:FnScope ["web","begun"] ["web","begun"] (Jh ZG):=⟨rfl,rfl,rfl,by decide +kernel,rfl,by decide +kernel,by decide +kernel⟩;refine D.kn (N:=["web","begun"]) sc (fun vs H Q E h=>?_) (fun f cdv A outer s H vs Q E hr h=>?_)
 ·obtain ⟨a,t,c,m,us,ars,bs,rfl,_⟩:=h;rfl
 ·obtain ⟨a,t,c,m,us,ars,bs,rfl,W,ga,m1,m12,hc,lb,kk⟩:=h;have hu:=YI hr;have r1:=hr.mono (j:=1) (by decide);have r2:=hr.mono (j:=2) (by decide);have r5:=hr.mono (j:=5) (by decide);have m_len:=fr "len" (by simp);have nd0:(["marks","begun"]:VJ).Nodup:=by decide +kernel
  refine⟨_,(Jd (YE (Jl kg r1 (Ja (pv 0) Jb))) (Jd (YE (Jl kr r2 (Ja (pv 0) (Ja (pv 1) Jb)))) (Je (Ji (Yb (N:=["marks","begun"]) (src:=[none,some 1]) rfl ⟨rfl,rfl,rfl,rfl,⟨⟨rfl,rfl⟩,trivial⟩,rfl,rfl,rfl⟩ (Js (i:=0) rfl) (JQ (Jl ka r5 (Ja (pv 0) Jb))) (fun C s H fp=>⟨(Jp (i:=0) nd0 rfl (Or.inl rfl)),(JW (Jo (Jus (Nat.lt_of_succ_lt hu)) (Zd UP (pv 0) Wj (Zm (Jm (Jcv K) rfl m_len PySem.boot_len (Ja (pv 1) Jb)))) (pv 1) (Jn _))),(pv 0)⟩)))))),?_⟩;refine⟨_,rfl,a,t,m,rfl,W.top,m12,?_⟩;refine⟨_,rfl,_,rfl,a,c,m,_,bs,rfl,W.top,hc,lb,by omega,fun H1 s1=>?_⟩
  ·have W1:=W.mono s1;have hc1:=s1 _ _ hc;refine⟨_,rfl,a,t,m,us,ars,rfl,W1,ga,m12,fun l ws H2 s2 hl hw=>?_⟩;have lw:ws.length=(AMk ars m.toNat).length:=Paired.length hw;have fw:=Jkl ars (k:=m.toNat) (by omega);have hc2:=s2 _ _ hc1;refine⟨l,rfl,⟨_,SqL.of hl⟩,ZB (xs:=ws) (fun i zs H'=>Same H2 H'/\Bks H' zs (fltM bs ((AMk ars m.toNat).take i))) ⟨Same.refl _,.nil⟩ ?_ ?_ ?_⟩
   ·rintro i zs H' hi ⟨s3,hz⟩;have e1:zs.length=(((AMk ars m.toNat).take i).filter fun c=>decide (c.take bs.length=bs)).length:=Paired.length hz;have e2:=SU (fun c=>decide (c.take bs.length=bs)) ((AMk ars m.toNat).take i);rw[List.length_take]at e2;exact⟨SqL.of (s3 _ _ hl),SZ (Yp (n:=zs.length) (by rw[e1];omega))⟩
   ·rintro zs H' ⟨s3,hz⟩ l2 hl2;rw[List.take_of_length_le (by omega)]at hz;have s4:=Same.upd (o:=.lst zs) hl2;exact kk l2 zs _ (((s1.trans s2).trans s3).trans s4) Jc (Paired.mapP hz fun _ _ ⟨q,e,z⟩=>⟨q,e,s4 _ _ z⟩)
   ·rintro i y zs H' hy hi ⟨s3,hz⟩;obtain⟨ms,e1,p,rfl,hp⟩:=Paired.get' hw hy;have hp3:=s3 _ _ hp;have hc3:=s3 _ _ hc2;have fs:=JJ (fun c=>decide (c.take bs.length=bs)) (AMk ars m.toNat) i ms e1;refine⟨_,rfl,_,rfl,c,_,rfl,.inr (SqT.of hc3),_,rfl,p,_,rfl,hp3,fun q H5 s5 hq5=>?_⟩;have eq5:cutV (ms.map V.bl) none (some (((bs.map V.bl).length:Nat):Int))=(ms.take bs.length).map V.bl:=by
     rw[Jqf,List.length_map,List.map_take]
    rw[eq5]at hq5;refine⟨_,rfl,q,c,_,_,rfl,rfl,hq5,s5 _ _ hc3,WT _,WT _,_,rfl,?_⟩;show if eqVs ((ms.take bs.length).map V.bl) (bs.map V.bl)=true then _ else _
    rw[Jee];have up:Bks H5 zs (fltM bs ((AMk ars m.toNat).take i)):=Paired.mapP hz fun _ _ ⟨q,e,z⟩=>⟨q,e,s5 _ _ z⟩;refine ite2 (fun z=>?_) (fun z=>?_)
    ·refine ⟨_,rfl,nx hi ⟨s3.trans s5,?_⟩⟩;show Bks H5 _ (((AMk ars m.toNat).take (i+1)).filter fun c=>decide (c.take bs.length=bs));rw[fs,if_pos z];exact Ze up ⟨p,rfl,s5 _ _ hp3⟩
    ·refine nx hi ⟨s3.trans s5,?_⟩;show Bks H5 _ (((AMk ars m.toNat).take (i+1)).filter fun c=>decide (c.take bs.length=bs));rw[fs,if_neg z,List.append_nil];exact up
def Jte:Sp:=fun vs H Q _=>∃(a t c:VB)(m:Int)(us:VS)(ars:VX)(bs:List Bool),vs=[.ref a,.ref c]/\Web H a t m us ars/\Jy m ars/\1<=m/\m<=11/\H c=some (.tup (bs.map V.bl))/\(bs.length:Int)<=m/\∀(H':Hp),Same H H'->Q (.int ((fltM bs (AMk ars m.toNat)).length:Nat)) H'
theorem Jvv(D:DefAt K mg "holds_begun" ZK ["web","begun"])(fr:Free mg ["len"])(km:Kn P w K mg base 6 "marks_begun" ["web","begun"] Jna):Kn P w K mg base 7 "holds_begun" ["web","begun"] Jte:=by
 have sc:FnScope ["web","begun"] ["web","begun"] (Jh ZK):=⟨rfl,rfl,rfl,by decide +kernel,rfl,by decide +kernel,by decide +kernel⟩;refine D.kn (N:=["web","begun"]) sc (fun vs H Q E h=>?_) (fun f cdv A outer s H vs Q E hr h=>?_)
 ·obtain ⟨a,t,c,m,us,ars,bs,rfl,_⟩:=h;rfl
 ·obtain ⟨a,t,c,m,us,ars,bs,rfl,W,ga,m1,m12,hc,lb,kk⟩:=h;have r6:=hr.mono (j:=6) (by decide);have m_len:=fr "len" (by simp);refine⟨_,(Je (Ji (Jm Ju rfl m_len PySem.boot_len (Ja (Jl km r6 (Ja (pv 0) (Ja (pv 1) Jb))) Jb)))),?_⟩;refine⟨_,rfl,_,rfl,a,t,c,m,us,ars,bs,rfl,W,ga,m1,m12,hc,lb,fun l ws H1 s1 hl hw=>?_⟩;refine⟨l,_,rfl,.inl (SqL.of hl),?_⟩;rw[show ws.length=(fltM bs (AMk ars m.toNat)).length from Paired.length hw];exact kk H1 s1
def Jtd:Sp:=fun vs H Q _=>∃(a t c:VB)(m:Int)(us:VS)(ars:VX)(bs:List Bool),vs=[.ref a,.ref c]/\Web H a t m us ars/\Jy m ars/\1<=m/\m<=11/\H c=some (.tup (bs.map V.bl))/\(bs.length:Int)<=m/\∀(l:VB)(H':Hp),Same H H'->H l=none->H' l=some (.lst ((if (bs.length:Int)=m then[]else nxB ((fltM bs (AMk ars m.toNat)).map fun c=>c.getD bs.length false)).map V.bl))->Q (.ref l) H'
theorem Jvt(D:DefAt K mg "next_marks" Wc ["web","begun"])(fr:Free mg ["len","set","sorted"])(km:Kn P w K mg base 6 "marks_begun" ["web","begun"] Jna):Kn P w K mg base 7 "next_marks" ["web","begun"] Jtd:=by
 have sc:FnScope ["web","begun","found"] ["web","begun"] (Jh Wc):=⟨rfl,rfl,rfl,by decide +kernel,rfl,by decide +kernel,by decide +kernel⟩;refine D.kn (N:=["web","begun","found"]) sc (fun vs H Q E h=>?_) (fun f cdv A outer s H vs Q E hr h=>?_)
 ·obtain ⟨a,t,c,m,us,ars,bs,rfl,_⟩:=h;rfl
 ·obtain ⟨a,t,c,m,us,ars,bs,rfl,W,ga,m1,m12,hc,lb,kk⟩:=h;have r6:=hr.mono (j:=6) (by decide);have hu:=YI hr;have m_len:=fr "len" (by simp);have m_set:=fr "set" (by simp);have m_sorted:=fr "sorted" (by simp);have nd0:(["marks","begun"]:VJ).Nodup:=by decide +kernel
  refine⟨_,(Jd (Jr (i:=2) sc.nd rfl (Or.inl rfl) (Jl km r6 (Ja (pv 0) (Ja (pv 1) Jb)))) (Jd (JA (Jo Yz (Jm Ju rfl m_len PySem.boot_len (Ja (pv 1) Jb)) (Jv Jz (pv 0) Jf (fun _ _=>rfl)) (Jn _)) (Je (Ji (JP Jb))) Jt) (Je (Ji (Jm (QH rfl) rfl m_sorted Yu (Ja (JN (Jej rfl) rfl m_set Jcw (Ja (Yb (N:=["marks","begun"]) (src:=[none,some 1]) rfl ⟨rfl,rfl,rfl,rfl,⟨⟨rfl,rfl⟩,trivial⟩,rfl,rfl,rfl⟩ (Js (i:=0) rfl) (JQ (pv 2)) (fun C s H fp=>⟨(Jp (i:=0) nd0 rfl (Or.inl rfl)),JC,(Jv (r:=rIxT K) Jz (pv 0) (Jm (Jcv K) rfl m_len PySem.boot_len (Ja (pv 1) Jb)) (fun _ _=>rfl))⟩)) Jb)) Jb)))))),?_⟩;refine⟨_,rfl,_,rfl,a,t,c,m,us,ars,bs,rfl,W,ga,m1,m12,hc,lb,fun l ws H1 s1 hl hw=>?_⟩
  ·refine Jw ?_;dsimp only[List.set];have W1:=W.mono s1;have hc1:=s1 _ _ hc;have lw:ws.length=(fltM bs (AMk ars m.toNat)).length:=Paired.length hw;have fw:=Jkl ars (k:=m.toNat) (by omega);have fl:(fltM bs (AMk ars m.toNat)).length<=(AMk ars m.toNat).length:=SU _ _;refine⟨_,rfl,c,_,rfl,.inr (SqT.of hc1),_,rfl,a,_,_,_,rfl,rfl,SqT.of W1.top,rfl,rfl,_,rfl,?_⟩;show if decide (V.int (((bs.map V.bl).length:Nat):Int)=V.int m)=true then _ else _
   rw[List.length_map];have ed:decide (V.int ((bs.length:Nat):Int)=V.int m)=decide ((bs.length:Int)=m):=by simp
   rw[ed];refine ite2 (fun z=>?_) (fun z=>?_)
   ·have z:=of_decide_eq_true z;refine⟨(by show 0<=sizeLine;decide),fun d hd=>kk d _ (s1.trans (Same.upd hd)) (Jax s1 hd) ?_⟩;rw[if_pos z];exact Jc
   ·have z:¬ (bs.length:Int)=m:=fun h=>z (decide_eq_true h);refine⟨_,rfl,l,rfl,⟨_,SqL.of hl⟩,ZB (xs:=ws) (fun i zs H'=>Same H1 H'/\zs=(((fltM bs (AMk ars m.toNat)).take i).map fun c=>c.getD bs.length false).map V.bl) ⟨Same.refl _,rfl⟩ ?_ ?_ ?_⟩
    ·rintro i zs H' hi ⟨s3,rfl⟩;refine⟨SqL.of (s3 _ _ hl),SZ (Yp ?_)⟩;rw[List.length_map,List.length_map,List.length_take];omega
    ·rintro zs H' ⟨s3,rfl⟩ l2 hl2;rw[List.take_of_length_le (by omega)];have s4:=Same.upd (o:=.lst (((fltM bs (AMk ars m.toNat)).map fun c=>c.getD bs.length false).map V.bl)) hl2;refine⟨l2,_,rfl,SqL.of Jc,fun p ks hp nd mem=>?_⟩;have s5:=Same.upd (o:=SetB P w p ks) hp;refine⟨p,ks,rfl,Jc,fun D bs' H5 s6 hD hD5 pm ri=>?_⟩;have sA:=(s1.trans s3).trans (s4.trans s5);refine kk D H5 (sA.trans s6) (Jax sA hD) ?_;rw[if_neg z,<- Jrt (r:=(fltM bs (AMk ars m.toNat)).map fun c=>c.getD bs.length false) (pm.nodup_iff.mpr nd) ri fun x=>by rw[pm.mem_iff,mem]];exact hD5
    ·rintro i y zs H' hy hi ⟨s3,rfl⟩;obtain⟨ms,e1,p,rfl,hp⟩:=Paired.get' hw hy;have lm:=(YO.mp (SR.mp (SK e1)).1).1;have hlt:bs.length<ms.length:=by omega
     refine⟨_,rfl,_,rfl,c,_,rfl,.inr (SqT.of (s3 _ _ hc1)),p,_,_,V.bl (ms.getD bs.length false),rfl,rfl,SqT.of (s3 _ _ hp),?_,nx hi ⟨s3,?_⟩⟩
     ·refine JS ?_;rw[List.length_map,List.getElem?_map,List.getElem?_eq_getElem hlt,List.getD_eq_getElem?_getD,List.getElem?_eq_getElem hlt];rfl
     ·rw [Jx _ _ _ e1,List.map_append,List.map_append];rfl
def Jtf:Sp:=fun vs H Q _=>∃(a t c:VB)(m:Int)(us:VS)(ars:VX)(bs:List Bool),vs=[.ref a,.ref c]/\WB H a t c m us ars bs/\m<=11/\tellsP H Q (pF ars (m.toNat-bs.length) bs)
theorem Jvy(D:DefAt K mg "cases_for" WF ["web","begun"])(kr:Kn P w K mg base 1 "refuse_too_great" ["web"] Jet)(kb:Kn P w K mg base 2 "refuse_no_beginning" ["web","thing"] Jdk)(kp:Kn P w K mg base 18 "paper_for" ["web","begun"] (spPF 13)):Kn P w K mg base 19 "cases_for" ["web","begun"] Jtf:=by
 have sc:FnScope ["web","begun"] ["web","begun"] (Jh WF):=⟨rfl,rfl,rfl,by decide +kernel,rfl,by decide +kernel,by decide +kernel⟩;refine D.kn (N:=["web","begun"]) sc (fun vs H Q E h=>?_) (fun f cdv A outer s H vs Q E hr h=>?_)
 ·obtain ⟨a,t,c,m,us,ars,bs,rfl,_⟩:=h;rfl
 ·obtain ⟨a,t,c,m,us,ars,bs,rfl,B,m12,kk⟩:=h;have r1:=hr.mono (j:=1) (by decide);have r2:=hr.mono (j:=2) (by decide);refine⟨_,(Jd (YE (Jl kr r1 (Ja (pv 0) Jb))) (Jd (YE (Jl kb r2 (Ja (pv 0) (Ja (pv 1) Jb)))) (Je (Ji (Jl kp hr (Ja (pv 0) (Ja (pv 1) Jb))))))),?_⟩;refine⟨_,rfl,a,t,m,rfl,B.web.top,m12,?_⟩;refine⟨_,rfl,_,rfl,a,c,m,.ref t,bs,rfl,B.web.top,B.at_,B.len,by omega,fun H1 s1=>?_⟩;exact⟨_,rfl,_,rfl,a,t,c,m,us,ars,bs,rfl,B.mono s1,by omega,kk.mono s1⟩
def spCG:Sp:=fun vs H Q _=>∃(a t c:VB)(m:Int)(us:VS)(ars:VX)(bs:List Bool)(v:V)(x:Pap),vs=[.ref a,.ref c,v]/\WB H a t c m us ars bs/\IsP H x v/\Jdc m ars x bs/\dP x<13/\∀H',Same H H'->Q (.bl true) H'
theorem Jvx(D:DefAt K mg "cases_good" Wh ["web","begun","thing"])(kb:Kn P w K mg base 2 "refuse_no_beginning" ["web","thing"] Jdk)(kp:Kn P w K mg base 18 "paper_good" ["web","begun","thing"] (spPG 13)):Kn P w K mg base 19 "cases_good" ["web","begun","thing"] spCG:=by
 have sc:FnScope ["web","begun","thing"] ["web","begun","thing"] (Jh Wh):=⟨rfl,rfl,rfl,by decide +kernel,rfl,by decide +kernel,by decide +kernel⟩;refine D.kn (N:=["web","begun","thing"]) sc (fun vs H Q E h=>?_) (fun f cdv A outer s H vs Q E hr h=>?_)
 ·obtain ⟨a,t,c,m,us,ars,bs,v,x,rfl,_⟩:=h;rfl
 ·obtain ⟨a,t,c,m,us,ars,bs,v,x,rfl,B,ip,gp,dp,kk⟩:=h;have r2:=hr.mono (j:=2) (by decide);refine⟨_,(Jd (YE (Jl kb r2 (Ja (pv 0) (Ja (pv 1) Jb)))) (Je (Ji (Jl kp hr (Ja (pv 0) (Ja (pv 1) (Ja (pv 2) Jb))))))),?_⟩;have gm:=B.web.mb;have gl:=B.len;refine⟨_,rfl,_,rfl,a,c,m,.ref t,bs,rfl,B.web.top,B.at_,gl,by omega,fun H1 s1=>?_⟩;exact⟨_,rfl,_,rfl,_,rfl,a,t,c,m,us,ars,bs,v,x,rfl,B.mono s1,ip.mono s1,gp,dp,fun H2 s2=>kk H2 (s1.trans s2)⟩
structure HW(H:Hp)(a t:VB)(m:Int)(us:VS)(ars:VX)(TL:List (VY)):Prop where
 web:Web H a t m us ars
 good:Jy m ars
 m1:1<=m
 m12:m<=11
 up:HoldsUp m ars TL
theorem HW.mono{H H':Hp}{a t:VB}{m:Int}{us:VS}{ars:VX}{TL:List (VY)}(h:HW H a t m us ars TL)(s:Same H H'):HW H' a t m us ars TL:=⟨h.web.mono s,h.good,h.m1,h.m12,h.up⟩
theorem Jmt{T:List (VY)}(h:StcL T){j k:Nat}{ns:VY}(hj:T[j]?=some ns)(hk:k<j):T[k]?≠some ns:=fun e=>by obtain⟨h1,e1⟩:=SY.mp hj;obtain⟨h2,e2⟩:=SY.mp e;have:=List.pairwise_iff_getElem.mp h k j h2 h1 hk;rw[e1,e2,WQ]at this;cases this
def Jmy:Sp:=fun vs H Q _=>∃(a t:VB)(m:Int)(us:VS)(ars:VX)(TL:List (VY))(n:Nat)(ns:VY),vs=[.ref a,.int (n:Int)]/\HW H a t m us ars TL/\TL[n]?=some ns/\∀(q:VB)(H':Hp),Same H H'->H' q=some (.tup (ns.map V.int))->Q (.ref q) H'
theorem Jsc(D:DefAt K mg "nth_hold" UB ["web","number"])(fr:Free mg ["len"])(ka:Kn P w K mg base 6 "all_holds" ["web"] spAH)(kw:Kn P w K mg base 1 "whole_good" ["thing"] Jdi):Kn P w K mg base 7 "nth_hold" ["web","number"] Jmy:=by
 have sc:FnScope ["web","number","holds"] ["web","number"] (Jh UB):=⟨rfl,rfl,rfl,by decide +kernel,rfl,by decide +kernel,by decide +kernel⟩;refine D.kn (N:=["web","number","holds"]) sc (fun vs H Q E h=>?_) (fun f cdv A outer s H vs Q E hr h=>?_)
 ·obtain ⟨a,t,m,us,ars,TL,n,ns,rfl,_⟩:=h;rfl
 ·obtain ⟨a,t,m,us,ars,TL,n,ns,rfl,hw,hn,kk⟩:=h;have m1:=fr "len" (by simp);have r1:=hr.mono (j:=1) (by decide);have r6:=hr.mono (j:=6) (by decide);refine⟨_,(Jd (Jr (i:=2) sc.nd rfl (Or.inl rfl) (Jl ka r6 (Ja (pv 0) Jb))) (Jd (JA (PW.pt (ZS (Yj (JM (Jl kw r1 (Ja (pv 1) Jb)))) (Zr (Yj (Jnm Jtj QU Jf (pv 1) (Jm Ju rfl m1 PySem.boot_len (Ja (pv 2) Jb))))))) (Je WN) Jt) (Je (Ji (Jv JB (pv 2) (pv 1) (fun _ _=>rfl)))))),?_⟩;refine⟨_,rfl,a,t,m,us,ars,rfl,hw.web,hw.good,hw.m1,hw.m12,fun l ws TT H1 s1 hl0 hl tp hu1 lw=>?_⟩;have eT:=hu1.uniq hw.up;subst eT;have lT:ws.length=TT.length:=Paired.length tp;have hn':n<ws.length:=by
   have:=(SY.mp hn).1;omega
  refine⟨_,rfl,.int (n:Int),"int",rfl,.int _,_,rfl,iteF ?_⟩;refine⟨_,rfl,_,_,rfl,rfl,_,rfl,ite2 (fun h1=>?_) (fun h1=>?_)⟩
  ·refine ⟨_,rfl,l,_,rfl,.inl (SqL.of hl),_,_,rfl,rfl,_,rfl,ite2 (fun h2=>?_) (fun h2=>?_)⟩
   ·have h2:¬ ((n:Nat):Int) < (ws.length:Int):=by simpa using h2
    omega
   ·obtain ⟨ns',e1,q,e2,e3⟩:=Paired.get' (i:=n) (x:=ws[n]) tp (by simp [hn']);rw[hn]at e1;cases e1;refine⟨_,rfl,_,rfl,l,_,_,ws[n],rfl,rfl,SqL.of hl,JS (by simp[hn']),?_⟩;rw[e2];exact kk q H1 s1 e3
  ·have h1:¬ 0<=((n:Nat):Int):=by simpa using h1
   omega
def Jdj:Sp:=fun vs H Q _=>∃(a t c:VB)(m:Int)(us:VS)(ars:VX)(TL:List (VY))(j:Nat)(ns:VY),vs=[.ref a,.ref c]/\HW H a t m us ars TL/\H c=some (.tup (ns.map V.int))/\TL[j]?=some ns/\∀(H':Hp),Same H H'->Q (.int (j:Int)) H'
theorem Joy(D:DefAt K mg "rank_of" Qu ["web","hold"])(kt:Kn P w K mg base 1 "refuse_too_great" ["web"] Jet)(kh:Kn P w K mg base 4 "hold_good" ["web","thing"] Jgx)(ka:Kn P w K mg base 6 "all_holds" ["web"] spAH):Kn P w K mg base 7 "rank_of" ["web","hold"] Jdj:=by
 have sc:FnScope ["web","hold"] ["web","hold"] (Jh Qu):=⟨rfl,rfl,rfl,by decide +kernel,rfl,by decide +kernel,by decide +kernel⟩;refine D.kn (N:=["web","hold"]) sc (fun vs H Q E h=>?_) (fun f cdv A outer s H vs Q E hr h=>?_)
 ·obtain ⟨a,t,c,m,us,ars,TL,j,ns,rfl,_⟩:=h;rfl
 ·obtain ⟨a,t,c,m,us,ars,TL,j,ns,rfl,hw,hc,e,kk⟩:=h;have hu:=YI hr;have r1:=hr.mono (j:=1) (by decide);have r4:=hr.mono (j:=4) (by decide);have r6:=hr.mono (j:=6) (by decide);refine⟨_,(Jd (YE (Jl kt r1 (Ja (pv 0) Jb))) (Jd (JA (Yj (JM (Jl kh r4 (Ja (pv 0) (Ja (pv 1) Jb))))) (Je WN) Jt) (Je (Ji (QQ PySem.F.plainAttrs_list PySem.F.slot_list_index PySem.F.type_list_index (Jfq hu) (Jl ka r6 (Ja (pv 0) Jb)) (Ja (pv 1) Jb)))))),?_⟩;obtain⟨R,ff⟩:=(hw.up.mem ns).mp (SK e);have lR:=R.len;have m12:=hw.m12;refine⟨_,rfl,a,t,m,rfl,hw.web.top,hw.m12,?_⟩;refine⟨_,rfl,_,rfl,a,t,m,us,ars,.ref c,_,rfl,hw.web,QO hc (by omega),fun ys e=>by cases e;rw[List.length_map];omega,fun H1 s1=>⟨_,rfl,?_⟩⟩;rw[Jbi R,ff];refine iteF ?_;refine⟨_,rfl,a,t,m,us,ars,rfl,hw.web.mono s1,hw.good,hw.m1,hw.m12,fun l ws TT H2 s2 hl0 hl tp hu1 lw=>?_⟩;have eT:=hu1.uniq hw.up;subst eT;have lT:ws.length=TT.length:=Paired.length tp;have jl:=(SY.mp e).1;refine⟨.inl ⟨rfl,_,SqL.of hl⟩,_,rfl,l,c,ws,TT,ns,j,rfl,rfl,s2 _ _ (s1 _ _ hc),hl,tp,e,fun k hk=>Jmt hu1.st e hk,by omega,?_⟩;exact kk H2 (s1.trans s2)
def Jev:Sp:=fun vs H Q _=>∃(a t c:VB)(m:Int)(us:VS)(ars:VX)(TL:List (VY))(j:Nat)(ns ms:VY),vs=[.ref a,.ref c]/\HW H a t m us ars TL/\H c=some (.tup (ns.map V.int))/\TL[j]?=some ns/\TL[j+1]?=some ms/\∀(q:VB)(H':Hp),Same H H'->H' q=some (.tup (ms.map V.int))->Q (.ref q) H'
theorem Jlq(D:DefAt K mg "next_hold" WC ["web","hold"])(fr:Free mg ["len"])(kr:Kn P w K mg base 7 "rank_of" ["web","hold"] Jdj)(ka:Kn P w K mg base 6 "all_holds" ["web"] spAH):Kn P w K mg base 8 "next_hold" ["web","hold"] Jev:=by
 have sc:FnScope ["web","hold","behind","holds"] ["web","hold"] (Jh WC):=⟨rfl,rfl,rfl,by decide +kernel,rfl,by decide +kernel,by decide +kernel⟩;refine D.kn (N:=["web","hold","behind","holds"]) sc (fun vs H Q E h=>?_) (fun f cdv A outer s H vs Q E hr h=>?_)
 ·obtain ⟨a,t,c,m,us,ars,TL,j,ns,ms,rfl,_⟩:=h;rfl
 ·obtain ⟨a,t,c,m,us,ars,TL,j,ns,ms,rfl,hw,hc,ej,em,kk⟩:=h;have m1:=fr "len" (by simp);have r6:=hr.mono (j:=6) (by decide);have r7:=hr.mono (j:=7) (by decide);refine⟨_,(Jd (Jr (i:=2) sc.nd rfl (Or.inl rfl) (JD YV (Jl kr r7 (Ja (pv 0) (Ja (pv 1) Jb))) Jf)) (Jd (Jr (i:=3) sc.nd rfl (Or.inl rfl) (Jl ka r6 (Ja (pv 0) Jb))) (Jd (JA (Jo Yz (pv 2) (Jm Ju rfl m1 PySem.boot_len (Ja (pv 3) Jb)) (Jn _)) (Je (Ji Yr)) Jt) (Je (Ji (Jv JB (pv 3) (pv 2) (fun _ _=>rfl))))))),?_⟩;refine⟨_,rfl,_,rfl,a,t,c,m,us,ars,TL,j,ns,rfl,hw,hc,ej,fun H1 s1=>?_⟩;refine⟨_,_,rfl,rfl,?_⟩;refine⟨_,rfl,a,t,m,us,ars,rfl,hw.web.mono s1,hw.good,hw.m1,hw.m12,fun l ws TT H2 s2 hl0 hl tp hu1 lw=>?_⟩;have eT:=hu1.uniq hw.up;subst eT;have lT:ws.length=TT.length:=Paired.length tp;have hj:j+1<ws.length:=by
   have:=(SY.mp em).1;omega
  refine⟨_,rfl,_,rfl,l,_,rfl,.inl (SqL.of hl),rfl,_,rfl,ite2 (fun h1=>?_) (fun h1=>?_)⟩
  ·have h1:V.int ((j:Int) + 1)=V.int (ws.length:Nat):=of_decide_eq_true h1;have h1:(j:Int)+1=(ws.length:Nat):=by injection h1
   omega
  ·obtain ⟨ms',e1,q,e2,e3⟩:=Paired.get' (i:=j + 1) (x:=ws[j + 1]) tp (by simp [hj]);rw[em]at e1;cases e1;refine⟨_,rfl,_,rfl,l,_,_,ws[j+1],rfl,rfl,SqL.of hl,?_,?_⟩
   ·rw [show (j:Int) + 1=((j + 1:Nat):Int) by omega];exact JS (by simp[hj])
   rw[e2];exact kk q H2 (s1.trans s2) e3
end
def plP(m:Int)(f:Int->Bool):VY:=((List.range m.toNat).map fun(k:Nat)=>(k:Int)).filter f
def plJ(j:Nat)(f:Int->Bool):VY:=((List.range j).map fun(k:Nat)=>(k:Int)).filter f
theorem Jfj(j:Nat)(f:Int->Bool):plJ (j+1) f=plJ j f++(if f (j:Int)=true then[(j:Int)] else[]):=by unfold plJ;rw[List.range_succ,List.map_append,List.filter_append];congr 1;show List.filter f [(j:Int)]=_;rw[List.filter_cons,List.filter_nil]
theorem Jix(j:Nat)(f:Int->Bool):(plJ j f).length<=j:=by unfold plJ;refine LQ (SU _ _) ?_;rw[List.length_map,List.length_range];exact SJ _
def Zv(T:List (VY))(k:Int):Bool:=T.all fun ns=>decide (k∈ns)
def Ys(T:List (VY))(k:Int):Bool:=!T.any fun ns=>decide (k∈ns)
section
variable{P:VC}{w:VF}{K:Frag}{mg:VZ}{base:Heap}
def Jio(f:List (VY)->Int->Bool):Sp:=fun vs H Q _=>∃(a t:VB)(m:Int)(us:VS)(ars:VX),vs=[.ref a]/\Web H a t m us ars/\Jy m ars/\1<=m/\m<=11 /\
 ∀(q:VB)(T:List (VY))(H':Hp),Same H H'->HoldsUp m ars T->H' q=some (.tup ((plP m (f T)).map V.int))->Q (.ref q) H'
theorem kn_ai(D:DefAt K mg "always_in" WG ["web"])(fr:Free mg ["range","tuple","all"])(kh:Kn P w K mg base 6 "all_holds" ["web"] spAH):Kn P w K mg base 7 "always_in" ["web"] (Jio Zv):=by
 have sc:FnScope ["web","holds"] ["web"] (Jh WG):=⟨rfl,rfl,rfl,by decide +kernel,rfl,by decide +kernel,by decide +kernel⟩;refine D.kn (N:=["web","holds"]) sc (fun vs H Q E h=>?_) (fun f cdv A outer s H vs Q E hr h=>?_)
 ·obtain ⟨a,t,m,us,ars,rfl,_⟩:=h;rfl
 ·obtain ⟨a,t,m,us,ars,rfl,W,ga,mm1,m12,kk⟩:=h;have m1:=fr "range" (by simp);have m2:=fr "tuple" (by simp);have m3:=fr "all" (by simp);have nd:(["place","holds"]:VJ).Nodup:=by decide +kernel
  have nd2:(["hold","place"]:VJ).Nodup:=by decide +kernel
  refine⟨_,(Jd (Jr (i:=1) sc.nd rfl (Or.inr rfl) (Jl kh hr (Ja (pv 0) Jb))) (Je (Ji (JN JT rfl m2 JE (Ja (Jnt (N:=["place","holds"]) (src:=[none,some 1]) (z:="place") rfl ⟨rfl,rfl,fun _ _=>rfl,fun _=>rfl,rfl,⟨⟨rfl,rfl⟩,trivial⟩,rfl,rfl,rfl⟩ (Js (i:=0) rfl) (JV rfl m1 (Ja (Jv Jz (pv 0) Jf (fun _ _=>rfl)) Jb)) (fun C s H fp=>⟨(Jp (i:=0) nd rfl (Or.inr rfl)),(JW (JM (Jm (QK K rfl) rfl m3 Yh (Ja (Yb (N:=["hold","place"]) (src:=[none,some 0]) rfl ⟨rfl,rfl,rfl,rfl,⟨⟨rfl,rfl⟩,trivial⟩,rfl,rfl,rfl⟩ (Js (i:=0) rfl) (US K (pv 1)) (fun C s H fp=>⟨(Jp (i:=0) nd2 rfl (Or.inl rfl)),JC,(JK (r:=rIn K false) Ud (pv 1) (pv 0) rfl)⟩)) Jb)))),(pv 0)⟩)) Jb))))),?_⟩;refine⟨_,rfl,a,t,m,us,ars,rfl,W,ga,mm1,m12,fun dh ws T H1 s1 _ hdh tp hup lw=>?_⟩;refine Jw ?_;dsimp only;have W1:=W.mono s1;refine⟨_,rfl,a,_,_,_,rfl,rfl,SqT.of W1.top,rfl,m,rfl,by omega,by omega,ZX (n:=m.toNat) (fun j zs H'=>Same H1 H'/\zs=(plJ j (Zv T)).map V.int) ⟨Same.refl _,rfl⟩ ?_ ?_ ?_⟩
  ·rintro j zs H' hj ⟨_,rfl⟩;rw[List.length_map];have:=Jix j (Zv T);exact SZ (Jk (by omega))
  rotate_left
  ·rintro j zs H' hj ⟨sj,rfl⟩;have hdj:=sj _ _ hdh;have tpj:=Zo tp sj;refine⟨_,rfl,dh,rfl,⟨_,SqL.of hdj⟩,Ya (xs:=ws) (fun n ys H6=>Same H' H6/\ys=((T.take n).map fun ns=>decide ((j:Int)∈ns)).map V.bl) ⟨Same.refl _,rfl⟩ ?_ ?_ ?_⟩
   ·rintro n ys H6 hn ⟨s6,rfl⟩;refine⟨SqL.of (s6 _ _ hdj),?_⟩;have lt:ws.length=T.length:=Paired.length tpj;rw[List.length_map,List.length_map,List.length_take];exact SZ (Yp (by omega))
   ·rintro ys H6 ⟨s6,rfl⟩ y hy;have lt:ws.length=T.length:=Paired.length tpj;rw[lt,List.take_of_length_le (Nat.le_refl _)];refine⟨y,T.map fun ns=>decide ((j:Int)∈ns),rfl,SqL.of Jc,_,rfl,?_⟩;have ea:((T.map fun ns=>decide ((j:Int)∈ns)).all id)=(T.all fun ns=>decide ((j:Int)∈ns)):=by rw[List.all_map];rfl
    rw[ea];have sn:=Jfj j (Zv T);have sj':=sj.trans (s6.trans (Same.upd (o:=.lst ((T.map fun ns=>decide ((j:Int)∈ns)).map V.bl)) hy));refine ite2 (fun c=>?_) (fun c=>?_)
    ·have c:Zv T (j:Int)=true:=c;rw[if_pos c]at sn;refine⟨_,rfl,nx hj ⟨sj',?_⟩⟩;rw[sn,List.map_append,Int.zero_add];rfl
    ·have c:¬ Zv T (j:Int)=true:=c;rw[if_neg c,List.append_nil]at sn;refine nx hj ⟨sj',?_⟩;rw[sn]
   ·rintro n x ys H6 hx hn ⟨s6,rfl⟩;obtain⟨ns,e1,p,rfl,hp⟩:=Paired.get' tpj hx;refine⟨_,rfl,_,rfl,p,_,rfl,.inr (SqT.of (s6 _ _ hp)),rfl,JL _,nx hn ⟨s6,?_⟩⟩;rw[Jx _ _ _ e1,List.map_append,List.map_append,Int.zero_add];show _++[V.bl (inV (.int (j:Int)) (ns.map V.int))]=_;rw[Wr];rfl
  rintro zs HA0 ⟨sA0,rfl⟩ lqa hlqa;refine⟨lqa,_,rfl,.inl ⟨SqL.of Jc,fun qa hqa=>?_⟩⟩;have sA:=sA0.trans ((Same.upd (o:=.lst ((plJ m.toNat (Zv T)).map V.int)) hlqa).trans (Same.upd (o:=.tup ((plJ m.toNat (Zv T)).map V.int)) hqa));have hqa:(upd (upd HA0 lqa (.lst ((plJ m.toNat (Zv T)).map V.int))) qa (.tup ((plJ m.toNat (Zv T)).map V.int))) qa=some (.tup ((plP m (Zv T)).map V.int)):=Jc;generalize upd (upd HA0 lqa (.lst ((plJ m.toNat (Zv T)).map V.int))) qa (.tup ((plJ m.toNat (Zv T)).map V.int))=HA at sA hqa;exact kk qa T HA (s1.trans sA) hup hqa
theorem kn_ni(D:DefAt K mg "never_in" UC ["web"])(fr:Free mg ["range","tuple","any"])(kh:Kn P w K mg base 6 "all_holds" ["web"] spAH):Kn P w K mg base 7 "never_in" ["web"] (Jio Ys):=by
 have sc:FnScope ["web","holds"] ["web"] (Jh UC):=⟨rfl,rfl,rfl,by decide +kernel,rfl,by decide +kernel,by decide +kernel⟩;refine D.kn (N:=["web","holds"]) sc (fun vs H Q E h=>?_) (fun f cdv A outer s H vs Q E hr h=>?_)
 ·obtain ⟨a,t,m,us,ars,rfl,_⟩:=h;rfl
 ·obtain ⟨a,t,m,us,ars,rfl,W,ga,mm1,m12,kk⟩:=h;have m1:=fr "range" (by simp);have m2:=fr "tuple" (by simp);have m3:=fr "any" (by simp);have nd:(["place","holds"]:VJ).Nodup:=by decide +kernel
  have nd2:(["hold","place"]:VJ).Nodup:=by decide +kernel
  refine⟨_,(Jd (Jr (i:=1) sc.nd rfl (Or.inr rfl) (Jl kh hr (Ja (pv 0) Jb))) (Je (Ji (JN JT rfl m2 JE (Ja (Jnt (N:=["place","holds"]) (src:=[none,some 1]) (z:="place") rfl ⟨rfl,rfl,fun _ _=>rfl,fun _=>rfl,rfl,⟨⟨rfl,rfl⟩,trivial⟩,rfl,rfl,rfl⟩ (Js (i:=0) rfl) (JV rfl m1 (Ja (Jv Jz (pv 0) Jf (fun _ _=>rfl)) Jb)) (fun C s H fp=>⟨(Jp (i:=0) nd rfl (Or.inr rfl)),(JW (Yj (JM (Jm (Jmj K rfl) rfl m3 QL (Ja (Yb (N:=["hold","place"]) (src:=[none,some 0]) rfl ⟨rfl,rfl,rfl,rfl,⟨⟨rfl,rfl⟩,trivial⟩,rfl,rfl,rfl⟩ (Js (i:=0) rfl) (US K (pv 1)) (fun C s H fp=>⟨(Jp (i:=0) nd2 rfl (Or.inl rfl)),JC,(JK (r:=rIn K false) Ud (pv 1) (pv 0) rfl)⟩)) Jb))))),(pv 0)⟩)) Jb))))),?_⟩;refine⟨_,rfl,a,t,m,us,ars,rfl,W,ga,mm1,m12,fun dh ws T H1 s1 _ hdh tp hup lw=>?_⟩;refine Jw ?_;dsimp only;have W1:=W.mono s1;refine⟨_,rfl,a,_,_,_,rfl,rfl,SqT.of W1.top,rfl,m,rfl,by omega,by omega,ZX (n:=m.toNat) (fun j zs H'=>Same H1 H'/\zs=(plJ j (Ys T)).map V.int) ⟨Same.refl _,rfl⟩ ?_ ?_ ?_⟩
  ·rintro j zs H' hj ⟨_,rfl⟩;rw[List.length_map];have:=Jix j (Ys T);exact SZ (Jk (by omega))
  rotate_left
  ·rintro j zs H' hj ⟨sj,rfl⟩;have hdj:=sj _ _ hdh;have tpj:=Zo tp sj;refine⟨_,rfl,dh,rfl,⟨_,SqL.of hdj⟩,Ya (xs:=ws) (fun n ys H6=>Same H' H6/\ys=((T.take n).map fun ns=>decide ((j:Int)∈ns)).map V.bl) ⟨Same.refl _,rfl⟩ ?_ ?_ ?_⟩
   ·rintro n ys H6 hn ⟨s6,rfl⟩;refine⟨SqL.of (s6 _ _ hdj),?_⟩;have lt:ws.length=T.length:=Paired.length tpj;rw[List.length_map,List.length_map,List.length_take];exact SZ (Yp (by omega))
   ·rintro ys H6 ⟨s6,rfl⟩ y hy;have lt:ws.length=T.length:=Paired.length tpj;rw[lt,List.take_of_length_le (Nat.le_refl _)];refine⟨y,T.map fun ns=>decide ((j:Int)∈ns),rfl,SqL.of Jc,_,rfl,?_⟩;have ea:((T.map fun ns=>decide ((j:Int)∈ns)).any id)=(T.any fun ns=>decide ((j:Int)∈ns)):=by rw[List.any_map];rfl
    rw[ea];have sn:=Jfj j (Ys T);have sj':=sj.trans (s6.trans (Same.upd (o:=.lst ((T.map fun ns=>decide ((j:Int)∈ns)).map V.bl)) hy));refine ite2 (fun c=>?_) (fun c=>?_)
    ·have c:Ys T (j:Int)=true:=c;rw[if_pos c]at sn;refine⟨_,rfl,nx hj ⟨sj',?_⟩⟩;rw[sn,List.map_append,Int.zero_add];rfl
    ·have c:¬ Ys T (j:Int)=true:=c;rw[if_neg c,List.append_nil]at sn;refine nx hj ⟨sj',?_⟩;rw[sn]
   ·rintro n x ys H6 hx hn ⟨s6,rfl⟩;obtain⟨ns,e1,p,rfl,hp⟩:=Paired.get' tpj hx;refine⟨_,rfl,_,rfl,p,_,rfl,.inr (SqT.of (s6 _ _ hp)),rfl,JL _,nx hn ⟨s6,?_⟩⟩;rw[Jx _ _ _ e1,List.map_append,List.map_append,Int.zero_add];show _++[V.bl (inV (.int (j:Int)) (ns.map V.int))]=_;rw[Wr];rfl
  rintro zs HA0 ⟨sA0,rfl⟩ lqa hlqa;refine⟨lqa,_,rfl,.inl ⟨SqL.of Jc,fun qa hqa=>?_⟩⟩;have sA:=sA0.trans ((Same.upd (o:=.lst ((plJ m.toNat (Ys T)).map V.int)) hlqa).trans (Same.upd (o:=.tup ((plJ m.toNat (Ys T)).map V.int)) hqa));have hqa:(upd (upd HA0 lqa (.lst ((plJ m.toNat (Ys T)).map V.int))) qa (.tup ((plJ m.toNat (Ys T)).map V.int))) qa=some (.tup ((plP m (Ys T)).map V.int)):=Jc;generalize upd (upd HA0 lqa (.lst ((plJ m.toNat (Ys T)).map V.int))) qa (.tup ((plJ m.toNat (Ys T)).map V.int))=HA at sA hqa;exact kk qa T HA (s1.trans sA) hup hqa
end
end Hk
namespace Hk
def stb(κ:Nat->Option Bool)(bs:VY):Option Bool :=
 if (bs.any fun b=>κ b.toNat==some true)=true then some false else if (bs.all fun b=>κ b.toNat==some false)=true then some true else none
def Le(κ τ:Nat->Option Bool):Prop:=∀i b,κ i=some b->τ i=some b
theorem Le.refl(κ:Nat->Option Bool):Le κ κ:=fun _ _ h=>h
theorem Le.trans{κ τ υ:Nat->Option Bool}(a:Le κ τ)(b:Le τ υ):Le κ υ:=fun i c h=>b i c (a i c h)
theorem ZR{κ τ:Nat->Option Bool}(h:Le κ τ){bs:VY}{v:Bool}(e:stb κ bs=some v):stb τ bs=some v:=by
 unfold stb at e ⊢;by_cases h1:(bs.any fun b=>κ b.toNat==some true)=true
 ·rw [if_pos h1] at e;have h2:(bs.any fun b=>τ b.toNat==some true)=true:=by
   obtain⟨b,hb,q⟩:=List.any_eq_true.mp h1;exact List.any_eq_true.mpr ⟨b,hb,by simpa using h _ _ (by simpa using q)⟩
  rw[if_pos h2];exact e
 ·rw [if_neg h1] at e;by_cases h3:(bs.all fun b=>κ b.toNat==some false)=true
  ·rw [if_pos h3] at e;have h4:∀b∈bs,τ b.toNat=some false:=fun b hb=>h _ _ (by simpa using SM.mp h3 b hb);have h5:¬ (bs.any fun b=>τ b.toNat==some true)=true:=fun z=>by
    obtain⟨b,hb,q⟩:=List.any_eq_true.mp z;rw[h4 b hb]at q;exact absurd q (by decide)
   rw[if_neg h5,if_pos (List.all_eq_true.mpr fun b hb=>by rw[h4 b hb];rfl)];exact e
  ·rw [if_neg h3] at e;cases e
def Yy(m:Nat)(f:Nat->VY)(κ:Nat->Option Bool):Prop:=∀i,i<m->κ i=stb κ (f i)
def ZA(m:Nat)(κ:Nat->Option Bool):Nat:=(List.range m).countP fun i=>(κ i).isNone
theorem Jcu{α:Type}{p q:α->Bool}:∀{l:List α},(∀x∈l,q x=true->p x=true)->(∃x∈l,p x=true/\q x=false)->l.countP q<l.countP p
 | [],_,⟨_,hx,_⟩=>by cases hx
 | a::r,h,⟨x,hx,h1,h2⟩=>by
  have le:r.countP q<=r.countP p:=List.countP_mono_left fun y hy=>h y (SD _ hy);rw[List.countP_cons,List.countP_cons];rcases List.mem_cons.mp hx with rfl|hx
  ·rw [h1,h2];simp;omega
  ·have:=Jcu (l:=r) (fun y hy=>h y (SD _ hy)) ⟨x,hx,h1,h2⟩;have ha:=h a (by simp);cases hq:q a with
   | false=>simp; omega
   | true=>rw [ha hq]; simp; omega
theorem Jja{m:Nat}{κ τ:Nat->Option Bool}(h:Le κ τ){i:Nat}(hi:i<m)(h1:κ i=none)(h2:τ i≠none):ZA m τ<ZA m κ:=by
 unfold ZA;refine Jcu (fun j _ q=>?_) ⟨i,LZ.mpr hi,by rw[h1];rfl,?_⟩
 ·cases e:κ j with
  | none=>rfl
  | some b=>rw [h j b e] at q; exact q
 ·cases e:τ i with
  | none=>exact absurd e h2
  | some _=>rfl
def up1(f:Nat->VY)(κ:Nat->Option Bool)(p:Nat):Nat->Option Bool:=fun i=>if i=p/\κ p=none then stb κ (f p)else κ i
theorem Jgq(f:Nat->VY)(κ:Nat->Option Bool)(p:Nat):Le κ (up1 f κ p):=fun i b h=>by unfold up1;rw[if_neg (fun z=>by rw[z.1,z.2]at h;cases h)];exact h
def Told(m:Nat)(f:Nat->VY)(κ:Nat->Option Bool):Prop:=∀i b,κ i=some b->i<m/\stb κ (f i)=some b
theorem Told.up{m:Nat}{f:Nat->VY}{κ:Nat->Option Bool}{p:Nat}(h:Told m f κ)(hp:p<m):Told m f (up1 f κ p):=fun i b e=>by
 have mono:=Jgq f κ p;unfold up1 at e;by_cases z:i=p/\κ p=none
 ·rw [if_pos z] at e;obtain⟨rfl,_⟩:=z;exact⟨hp,ZR mono e⟩
 ·rw [if_neg z] at e;exact⟨(h i b e).1,ZR mono (h i b e).2⟩
theorem Jkn{m:Nat}{f:Nat->VY}{κ τ:Nat->Option Bool}{p:Nat}(hp:p<m)(ht:Yy m f τ)(h:Le κ τ):Le (up1 f κ p) τ:=fun i b e=>by
 unfold up1 at e;by_cases z:i=p/\κ p=none
 ·rw [if_pos z] at e;obtain⟨rfl,_⟩:=z;rw[ht i hp];exact ZR h e
 ·rw [if_neg z] at e;exact h i b e
def Zb(f:Nat->VY)(κ:Nat->Option Bool):Nat->(Nat->Option Bool)
 | 0=>κ
 | n + 1=>up1 f (Zb f κ n) n
theorem Jdg(f:Nat->VY)(κ:Nat->Option Bool):∀n,Le κ (Zb f κ n)
 | 0=>Le.refl _
 | n + 1=>(Jdg f κ n).trans (Jgq _ _ _)
theorem Jcb{m:Nat}{f:Nat->VY}{κ:Nat->Option Bool}(h:Told m f κ):∀n,n<=m->Told m f (Zb f κ n)
 | 0,_=>h
 | n + 1,hn=>(Jcb h n (by omega)).up (by omega)
theorem Jaj{m:Nat}{f:Nat->VY}{κ τ:Nat->Option Bool}(ht:Yy m f τ)(h:Le κ τ):∀n,n<=m->Le (Zb f κ n) τ
 | 0,_=>h
 | n + 1,hn=>Jkn (by omega) ht (Jaj ht h n (by omega))
theorem Jkp{m:Nat}{f:Nat->VY}{κ:Nat->Option Bool}(h:Told m f κ):Yy m f κ\/ZA m (Zb f κ m)<ZA m κ:=by
 by_cases z:∃p,p<m/\κ p=none/\stb κ (f p)≠none
 ·obtain ⟨p,hp,h1,h2⟩:=z;right;refine Jja (Jdg f κ m) hp h1 ?_;have key:Zb f κ (p+1) p≠none:=by
   show up1 f (Zb f κ p) p p≠none;unfold up1;by_cases q:Zb f κ p p=none
   ·rw [if_pos ⟨rfl,q⟩];cases e:stb κ (f p) with
    | none=>exact absurd e h2
    | some b=>rw [ZR (Jdg f κ p) e]; exact fun w=>by cases w
   ·rw [if_neg fun w=>q w.2];exact q
  have le:∀n,p+1<=n->Le (Zb f κ (p+1)) (Zb f κ n):=by
   intro n hn;induction n with
   | zero=>omega
   | succ n ih =>
    by_cases e:p+1=n+1
    ·rw [e]; exact Le.refl _
    ·exact (ih (by omega)).trans (Jgq _ _ _)
  cases e:Zb f κ (p+1) p with
  | none=>exact absurd e key
  | some b=>rw [le m (by omega) p b e]; exact fun w=>by cases w
 ·left;intro i hi;cases e:κ i with
  | some b=>exact (h i b e).2.symm
  | none =>
   cases e2:stb κ (f i) with
   | none=>rfl
   | some b=>exact absurd ⟨i,hi,e,by rw [e2]; exact fun w=>by cases w⟩ z
theorem WW{m:Nat}{f:Nat->VY}{κ:Nat->Option Bool}(h:Yy m f κ):∀n,n<=m->Zb f κ n=κ
 | 0,_=>rfl
 | n + 1,hn=>by
  show up1 f (Zb f κ n) n=κ;rw[WW h n (by omega)];funext i;unfold up1;by_cases z:i=n/\κ n=none
  ·rw [if_pos z,<- h n (by omega),z.1]
  ·rw [if_neg z]
def turns(m:Nat)(f:Nat->VY):Nat->(Nat->Option Bool)
 | 0=>fun _=>none
 | t + 1=>Zb f (turns m f t) m
theorem Ux(m:Nat)(f:Nat->VY):∀t,Told m f (turns m f t)
 | 0=>fun _ _ e=>by cases e
 | t + 1=>Jcb (Ux m f t) m (SJ _)
theorem Ww{m:Nat}{f:Nat->VY}{τ:Nat->Option Bool}(ht:Yy m f τ):∀t,Le (turns m f t) τ
 | 0=>fun _ _ e=>by cases e
 | t + 1=>Jaj ht (Ww ht t) m (SJ _)
theorem Jai(m:Nat)(f:Nat->VY):∀t,Yy m f (turns m f t)\/ZA m (turns m f t)+t<=m
 | 0=>.inr (by
   have:=List.countP_le_length (p:=fun i=>((fun _=>none:Nat->Option Bool) i).isNone) (l:=List.range m);rw[List.length_range]at this
   exact this)
 | t + 1=>by
  rcases Jai m f t with h|h
  ·left;show Yy m f (Zb f (turns m f t) m);rw[WW h m (Nat.le_refl _)];exact h
  ·rcases Jkp (Ux m f t) with z | z
   ·left;show Yy m f (Zb f (turns m f t) m);rw[WW z m (Nat.le_refl _)];exact z
   ·right;show ZA m (Zb f (turns m f t) m)+(t+1)<=m;omega
theorem Jdf(m:Nat)(f:Nat->VY):Yy m f (turns m f m):=by
 rcases Jai m f m with h|h
 ·exact h
 ·intro i hi;have h0:ZA m (turns m f m)=0:=by omega
  cases e:turns m f m i with
  | some b=>exact ((Ux m f m) i b e).2.symm
  | none =>
   have:0<ZA m (turns m f m):=List.countP_pos_iff.mpr ⟨i,LZ.mpr hi,by rw[e];rfl⟩;omega
theorem Jom{m:Nat}{f:Nat->VY}{τ:Nat->Option Bool}(hc:Yy m f τ)(hl:∀υ,Yy m f υ->∀i,i<m->∀b,τ i=some b->υ i=some b):∀i,i<m->τ i=turns m f m i:=by
 intro i hi;cases e:turns m f m i with
 | some b=>exact Ww hc m i b e
 | none =>
  cases e2:τ i with
  | none=>rfl
  | some b=>rw [hl _ (Jdf m f) i hi b e2] at e; cases e
end Hk
namespace Hk
open PySem L2
section
variable{P:VC}{w:VF}{K:VG}{mg:VZ}{base:Heap}
def fS(S:List (Option Bool)):Nat->Option Bool:=fun i=>(S[i]?).join
theorem Jpr{S:List (Option Bool)}{i:Nat}(h:i<S.length):fS S i=S[i]:=by unfold fS;rw[List.getElem?_eq_getElem h];rfl
theorem Jjv{S:List (Option Bool)}{i:Nat}{b:Bool}(h:fS S i=some b):i<S.length:=by
 unfold fS at h;by_cases z:i<S.length
 ·exact z
 ·rw [List.getElem?_eq_none (by omega)] at h;cases h
theorem Jwk(M:Nat)(g:Nat->Option Bool)(i:Nat)(h:i<M):fS ((List.range M).map g) i=g i:=by rw[Jpr (by simp[h])];simp
theorem Jhw{M:Nat}{S:List (Option Bool)}{g:Nat->Option Bool}(hl:S.length=M)(h:∀i,i<M->fS S i=g i):S=(List.range M).map g:=by
 apply List.ext_getElem
 ·simp [hl]
 ·intro i h1 h2;rw[<- Jpr h1,h i (by omega)];simp
theorem Jtr{S:List (Option Bool)}{x:Int}(h0:0<=x)(h1:x<S.length):atI (S.map oV) x=some (oV (fS S x.toNat)):=by
 obtain⟨k,rfl⟩:∃k:Nat,x=(k:Int):=⟨x.toNat,by omega⟩;refine JS ?_;have hk:k<S.length:=by omega
 rw[List.getElem?_map,List.getElem?_eq_getElem hk,Int.toNat_natCast,Jpr hk];rfl
def Jsz:Sp:=fun vs H Q _=>∃(a b:VB)(S:List (Option Bool))(bs:VY),vs=[.ref a,.ref b]/\H a=some (.lst (S.map oV))/\H b=some (.lst (bs.map V.int))/\bs.length<=1000/\(∀x∈bs,0<=x/\x<S.length) /\
 ∀H',Same H H'->Q (oV (stb (fS S) bs)) H'
theorem Jvi(D:DefAt K mg "settled_by" Wa ["settled","beneath"])(fr:Free mg ["any","all"]):Kn P w K mg base 1 "settled_by" ["settled","beneath"] Jsz:=by
 have sc:FnScope ["settled","beneath"] ["settled","beneath"] (Jh Wa):=⟨rfl,rfl,rfl,by decide +kernel,rfl,by decide +kernel,by decide +kernel⟩;refine D.kn (N:=["settled","beneath"]) sc (fun vs H Q E h=>?_) (fun f cdv A outer s H vs Q E hr h=>?_)
 ·obtain ⟨a,b,S,bs,rfl,_⟩:=h;rfl
 ·obtain ⟨a,b,S,bs,rfl,ha,hb,hl,hx,kk⟩:=h;have m1:=fr "any" (by simp);have m2:=fr "all" (by simp);have nd:(["b","settled"]:VJ).Nodup:=by decide +kernel
  refine ⟨_,Jd (JA (JM (Jm (WX rfl) rfl m1 QL (Ja (Yb (N:=["b","settled"]) (src:=[none,some 0]) rfl ⟨rfl,rfl,rfl,rfl,⟨⟨rfl,rfl⟩,trivial⟩,rfl,rfl,rfl⟩ (Js (i:=0) rfl) (JQ (pv 1))
     (fun C s H fp=>⟨Jp (i:=0) nd rfl (Or.inl rfl),JC,JK Jnz (Jv (r:=rIxL K) JB (pv 1) (pv 0) (fun _ _=>rfl)) JG (Jn _)⟩)) Jb))) (Je (Ji JG)) Jt)
   (Jd (JA (JM (Jm (Yc rfl) rfl m2 Yh (Ja (Yb (N:=["b","settled"]) (src:=[none,some 0]) rfl ⟨rfl,rfl,rfl,rfl,⟨⟨rfl,rfl⟩,trivial⟩,rfl,rfl,rfl⟩ (Js (i:=0) rfl) (JQ (pv 1))
     (fun C s H fp=>⟨Jp (i:=0) nd rfl (Or.inl rfl),JC,JK Jnz (Jv (r:=rIxL K) JB (pv 1) (pv 0) (fun _ _=>rfl)) JG (Jn _)⟩)) Jb))) (Je (Ji JG)) Jt)
   (Je (Ji Yr))),?_⟩
  have len:∀i,i<=(bs.map V.int).length->∀c:Bool,((bs.take i).map fun x=>V.bl (fS S x.toNat==some c)).length<=sizeLine:=fun i hi c=>by rw[List.length_map]at hi ⊢;rw[List.length_take];exact SZ (Jk (by omega))
  have all:∀c:Bool,((bs.take (bs.map V.int).length).map fun x=>V.bl (fS S x.toNat==some c))=(bs.map fun x=>fS S x.toNat==some c).map V.bl:=fun c=>by rw[List.length_map,List.take_of_length_le (Nat.le_refl _),List.map_map];rfl
  refine⟨_,rfl,b,rfl,⟨_,SqL.of hb⟩,Ya (xs:=bs.map V.int) (fun i zs H'=>Same H H'/\zs=((bs.take i).map fun x=>V.bl (fS S x.toNat==some true))) ⟨Same.refl _,rfl⟩ ?_ ?_ ?_⟩
  ·rintro i zs H' hi ⟨s2,rfl⟩;exact⟨SqL.of (s2 _ _ hb),len i hi true⟩
  ·rintro zs H' ⟨s2,rfl⟩ l hl1;rw[all true];have s3:=s2.trans (Same.upd (o:=.lst ((bs.map fun x=>fS S x.toNat==some true).map V.bl)) hl1);refine⟨l,_,rfl,SqL.of Jc,_,rfl,?_⟩;generalize upd H' l (.lst ((bs.map fun x=>fS S x.toNat==some true).map V.bl))=H3 at s3;have e1:(bs.map fun x=>fS S x.toNat==some true).any id=bs.any fun x=>fS S x.toNat==some true:=by rw[List.any_map];rfl
   rw[e1];refine ite2 (fun h1=>?_) (fun h1=>?_)
   ·have:=kk H3 s3;unfold stb at this;rw[if_pos h1]at this;exact this
   ·have ha3:=s3 _ _ ha;have hb3:=s3 _ _ hb;refine⟨_,rfl,b,rfl,⟨_,SqL.of hb3⟩,Ya (xs:=bs.map V.int) (fun i zs H'=>Same H3 H'/\zs=((bs.take i).map fun x=>V.bl (fS S x.toNat==some false))) ⟨Same.refl _,rfl⟩ ?_ ?_ ?_⟩
    ·rintro i zs H' hi ⟨s4,rfl⟩;exact⟨SqL.of (s4 _ _ hb3),len i hi false⟩
    ·rintro zs H' ⟨s4,rfl⟩ l hl2;rw[all false];have s5:=s4.trans (Same.upd (o:=.lst ((bs.map fun x=>fS S x.toNat==some false).map V.bl)) hl2);refine⟨l,_,rfl,SqL.of Jc,_,rfl,?_⟩;generalize upd H' l (.lst ((bs.map fun x=>fS S x.toNat==some false).map V.bl))=H5 at s5;have e2:(bs.map fun x=>fS S x.toNat==some false).all id=bs.all fun x=>fS S x.toNat==some false:=by rw[List.all_map];rfl
     rw[e2];have fin:=kk H5 (s3.trans s5);unfold stb at fin;rw[if_neg h1]at fin;refine ite2 (fun h2=>?_) (fun h2=>?_)
     ·rw [if_pos h2] at fin;exact fin
     ·rw [if_neg h2] at fin;exact fin
    ·rintro i y zs H' h2 hi ⟨s4,rfl⟩;rw[List.getElem?_map]at h2;obtain⟨x,e3,rfl⟩:=SX.mp h2;have bx:=hx x (SK e3);refine⟨_,rfl,_,rfl,a,_,_,_,rfl,rfl,SqL.of (s4 _ _ ha3),Jtr bx.1 bx.2,_,false,rfl,rfl,nx hi ⟨s4,?_⟩⟩;rw[Jx _ _ _ e3,List.map_append];rfl
  ·rintro i y zs H' h2 hi ⟨s2,rfl⟩;rw[List.getElem?_map]at h2;obtain⟨x,e3,rfl⟩:=SX.mp h2;have bx:=hx x (SK e3);refine⟨_,rfl,_,rfl,a,_,_,_,rfl,rfl,SqL.of (s2 _ _ ha),Jtr bx.1 bx.2,_,true,rfl,rfl,nx hi ⟨s2,?_⟩⟩;rw[Jx _ _ _ e3,List.map_append];rfl
def sett(m:Int)(ars:VX):Nat->Option Bool:=turns m.toNat (fun i=>ldI ars i) m.toNat
def Jez(m:Int)(ars:VX):List (Option Bool):=(List.range m.toNat).map (sett m ars)
theorem Jve{m:Int}{ars:VX}(ga:Jy m ars){p:Int}:∀x∈ldI ars p,0<=x/\x<m:=by intro x hx;unfold ldI at hx;obtain⟨q,hq,rfl⟩:=SL.mp hx;have:=ga q (SR.mp hq).1;exact⟨this.2.2.1,this.2.2.2.1⟩
def Jcd:Sp:=fun vs H Q _=>∃(a t:VB)(m:Int)(us:VS)(ars:VX),vs=[.ref a]/\Web H a t m us ars/\Jy m ars /\
 ∀(l:VB)(H':Hp),Same H H'->H l=none->H' l=some (.lst ((Jez m ars).map oV))->Q (.ref l) H'
theorem Jho(D:DefAt K mg "settled_marks" Zh ["web"])(fr:Free mg ["range"])(ka:Kn P w K mg base 1 "all_leads" ["web"] YS)(ks:Kn P w K mg base 1 "settled_by" ["settled","beneath"] Jsz) :
  Kn P w K mg base 2 "settled_marks" ["web"] Jcd:=by
 have sc:FnScope ["web","leads","ahead","settled"] ["web"] (Jh Zh):=⟨rfl,rfl,rfl,by decide +kernel,rfl,by decide +kernel,by decide +kernel⟩;refine D.kn (N:=["web","leads","ahead","settled"]) sc (fun vs H Q E h=>?_) (fun f cdv A outer s H vs Q E hr h=>?_)
 ·obtain ⟨a,t,m,us,ars,rfl,_⟩:=h;rfl
 ·obtain ⟨a,t,m,us,ars,rfl,W,ga,kk⟩:=h;have hu:=YI hr;have m1:=fr "range" (by simp);have nd1:(["place"]:VJ).Nodup:=by decide +kernel
  have nd2:(["beneath","ahead"]:VJ).Nodup:=by decide +kernel
  refine ⟨_,Jd (Jr (i:=1) sc.nd rfl (Or.inl rfl) (Jl ka hr (Ja (pv 0) Jb)))
   (Jd (Jr (i:=2) sc.nd rfl (Or.inr rfl) (JP Jb))
   (Jd (YK (i:=3) (N:=["place"]) (src:=[none]) sc.nd rfl rfl rfl rfl ⟨rfl,rfl,rfl,rfl,trivial,rfl,rfl,rfl⟩ (Js (i:=0) rfl) (JV rfl m1 (Ja (Jv Jz (pv 0) Jf (fun _ _=>rfl)) Jb)) (fun C s H fp=>⟨Jp (i:=0) nd1 rfl (Or.inl rfl),JC,Yr⟩))
   (Jd (WM PassesOwn.never (Jo (Juq (Nat.lt_of_succ_lt hu)) (pv 3) (pv 2) (Jn _))
    (Jd (Jr (i:=2) sc.nd rfl (Or.inr rfl) (pv 3))
    (Je (YK (i:=3) (N:=["beneath","ahead"]) (src:=[none,some 2]) sc.nd rfl rfl rfl rfl ⟨rfl,rfl,rfl,rfl,⟨⟨rfl,rfl⟩,trivial⟩,rfl,rfl,rfl⟩ (Js (i:=0) rfl) (JQ (pv 1)) (fun C s H fp=>⟨Jp (i:=0) nd2 rfl (Or.inl rfl),JC,Jl ks hr (Ja (pv 1) (Ja (pv 0) Jb))⟩)))))
   (Je (Ji (pv 3)))))),?_⟩
  have hm:=W.mb;have c0:0<=sizeLine:=by decide
  refine⟨_,rfl,a,t,m,us,ars,rfl,W,ga,fun l rows H1 s1 hlr L1=>?_⟩;refine⟨c0,fun la hla=>?_⟩;have s2:=s1.trans (Same.upd (o:=.lst []) hla);have L2:=L1.mono (Same.upd (o:=.lst []) hla);have hla2:(upd H1 la (.lst [])) la=some (.lst []):=Jc;generalize upd H1 la (.lst [])=H2 at s2 L2 hla2;have W2:=W.mono s2;refine⟨_,rfl,a,_,_,_,rfl,rfl,SqT.of W2.top,rfl,m,rfl,by omega,by omega,Ug (fun i zs H'=>Same H2 H'/\zs=(List.replicate i none).map oV) ⟨Same.refl _,rfl⟩ ?_ ?_ ?_⟩
  ·rintro i zs H' hi ⟨_,rfl⟩;rw[List.length_map,List.length_replicate];exact SZ (Jk (by omega))
  ·rintro zs H' ⟨s3,rfl⟩ ls hls;have s4:=s3.trans (Same.upd (o:=.lst ((List.replicate m.toNat none).map oV)) hls);have hls4:(upd H' ls (.lst ((List.replicate m.toNat none).map oV))) ls=some (.lst ((List.replicate m.toNat none).map oV)):=Jc;have nls:H ls=none:=by
    cases e:H ls with
    | none=>rfl
    | some o=>rw [s3 _ _ (s2 _ _ e)] at hls; cases hls
   generalize upd H' ls (.lst ((List.replicate m.toNat none).map oV))=H4 at s4 hls4;have none0:∀i,fS (List.replicate m.toNat none) i=none:=fun i=>by unfold fS;rw[List.getElem?_replicate];split<;>rfl
   refine ⟨fun μ σ H5=>∃ (la ls:VB) (A S:List (Option Bool)),σ=[some (.ref a),some (.ref l),some (.ref la),some (.ref ls)]/\Same H H5/\LL H5 l rows (fun i=>ldI ars i)/\H ls=none/\H5 la=some (.lst (A.map oV))/\H5 ls=some (.lst (S.map oV))/\S.length=m.toNat /\
     Told m.toNat (fun i=>ldI ars i) (fS S)/\(∀υ,Yy m.toNat (fun i=>ldI ars i) υ->Le (fS S) υ)/\(S=A->Yy m.toNat (fun i=>ldI ars i) (fS S))/\μ=ZA m.toNat (fS S)+(if S=A then 0 else 1),
    ⟨_,la,ls,[],List.replicate m.toNat none,rfl,s2.trans s4,L2.mono s4,nls,s4 _ _ hla2,hls4,List.length_replicate,fun i b e=>?_,fun υ _ i b e=>?_,fun e i hi=>?_,rfl⟩,?_⟩
   ·rw [none0] at e;cases e
   ·rw [none0] at e;cases e
   ·have:=congrArg List.length e;rw[List.length_replicate]at this;have:m.toNat=0:=this;omega
   rintro μ σ H5 ⟨la,ls,A,S,rfl,s5,L5,nls,hla5,hls5,hS,told,sound,clo,rfl⟩;refine⟨_,rfl,_,rfl,ls,la,_,_,rfl,rfl,SqL.of hls5,SqL.of hla5,Jfo _,Jfo _,_,rfl,?_⟩;rw[show(if true=true then !eqVs (S.map oV) (A.map oV)else eqVs (S.map oV) (A.map oV))=!decide (S=A) by rw[Jjw];rfl];by_cases hSA:S=A
   ·refine iteNS hSA ?_;have cl:=clo hSA;have key:S=Jez m ars:=by
     refine Jhw hS fun i hi=>?_;exact Jom cl (fun υ hυ j _ b e=>sound υ hυ j b e) i hi
    rw[key]at hls5;exact⟨_,rfl,kk ls H5 s5 nls hls5⟩
   ·rw [show (!decide (S=A))=true by simp [hSA]];refine iteT ?_;refine ⟨fun σ' H'=>∃ μ',μ' < ZA m.toNat (fS S) + (if S=A then 0 else 1)/\∃ (la ls:VB) (A S:List (Option Bool)),σ'=[some (.ref a),some (.ref l),some (.ref la),some (.ref ls)]/\Same H H'/\LL H' l rows (fun i=>ldI ars i)/\H ls=none/\H' la=some (.lst (A.map oV))/\H' ls=some (.lst (S.map oV))/\S.length=m.toNat /\
     Told m.toNat (fun i=>ldI ars i) (fS S)/\(∀ υ,Yy m.toNat (fun i=>ldI ars i) υ->Le (fS S) υ)/\(S=A->Yy m.toNat (fun i=>ldI ars i) (fS S))/\μ'=ZA m.toNat (fS S) + (if S=A then 0 else 1),fun _ _ z=>z,?_⟩
    refine⟨_,rfl,?_⟩;refine⟨_,rfl,l,rfl,⟨_,SqL.of L5.top⟩,Ya (xs:=rows.map V.ref) (fun i zs H'=>Same H5 H'/\zs=((List.range i).map fun(j:Nat)=>stb (fS S) (ldI ars j)).map oV) ⟨Same.refl _,rfl⟩ ?_ ?_ ?_⟩
    ·rintro i zs H' hi ⟨s6,rfl⟩;refine⟨SqL.of (s6 _ _ L5.top),?_⟩;rw[List.length_map]at hi;rw[List.length_map,List.length_map,List.length_range];exact SZ (Jk (by omega))
    ·rintro zs H' ⟨s6,rfl⟩ l2 hl2;rw[List.length_map,hlr];have s7:=s6.trans (Same.upd (o:=.lst (((List.range m.toNat).map fun(j:Nat)=>stb (fS S) (ldI ars j)).map oV)) hl2);have hl7:(upd H' l2 (.lst (((List.range m.toNat).map fun(j:Nat)=>stb (fS S) (ldI ars j)).map oV))) l2=some (.lst (((List.range m.toNat).map fun(j:Nat)=>stb (fS S) (ldI ars j)).map oV)):=Jc;have nl2:H l2=none:=by
      cases e:H l2 with
      | none=>rfl
      | some o=>rw [s6 _ _ (s5 _ _ e)] at hl2; cases hl2
     generalize upd H' l2 (.lst (((List.range m.toNat).map fun(j:Nat)=>stb (fS S) (ldI ars j)).map oV))=H7 at s7 hl7;generalize hT:(List.range m.toNat).map (fun(j:Nat)=>stb (fS S) (ldI ars j))=T at hl7;have lT:T.length=m.toNat:=by rw[<- hT];simp
     have fT:∀i,i<m.toNat->fS T i=stb (fS S) (ldI ars i):=fun i hi=>by rw[<- hT,Jwk _ _ _ hi]
     have le:Le (fS S) (fS T):=fun i b e=>by rw[fT i (told i b e).1];exact(told i b e).2
     refine⟨_,?_,ls,l2,S,T,rfl,s5.trans s7,L5.mono s7,nl2,s7 _ _ hls5,hl7,lT,fun i b e=>?_,fun υ hυ i b e=>?_,fun e i hi=>?_,rfl⟩
     ·rw [if_neg hSA];by_cases hTS:T=S
      ·rw [if_pos hTS,hTS];omega
      ·rw [if_neg hTS];have:ZA m.toNat (fS T)<ZA m.toNat (fS S):=by
        by_cases z:∃i,i<m.toNat/\fS S i=none/\fS T i≠none
        ·obtain ⟨i,hi,z1,z2⟩:=z;exact Jja le hi z1 z2
        ·refine absurd ?_ hTS;have e1:T=(List.range m.toNat).map (fS S):=Jhw lT fun i hi=>by
          cases e:fS S i with
          | some b=>exact le i b e
          | none =>
           cases e2:fS T i with
           | none=>rfl
           | some b=>exact absurd ⟨i,hi,e,by rw [e2]; exact fun w=>by cases w⟩ z
         rw[e1];exact(Jhw hS fun i _=>rfl).symm
       omega
     ·have hi:i < m.toNat:=by rw [<- lT]; exact Jjv e
      rw[fT i hi]at e;exact⟨hi,ZR le e⟩
     ·have hi:i < m.toNat:=by rw [<- lT]; exact Jjv e
      rw[fT i hi]at e;rw[hυ i hi];exact ZR (sound υ hυ) e
     ·rw [fT i hi,e]
    ·rintro i x zs H' h2 hi ⟨s6,rfl⟩;rw[List.getElem?_map]at h2;obtain⟨r,e3,rfl⟩:=SX.mp h2;have lj:=Qe ars i;have la':=Yx W.ars;have lw:=W.len;refine⟨_,rfl,_,rfl,ls,r,S,ldI ars i,rfl,s6 _ _ hls5,s6 _ _ (L5.row i r e3),by omega,fun y hy=>?_,fun H8 s8=>nx hi ⟨s6.trans s8,?_⟩⟩
     ·have:=Jve ga y hy;rw[hS];omega
     ·rw [List.range_succ,List.map_append,List.map_append];rfl
  ·rintro i zs H' hi ⟨s3,rfl⟩;refine nx hi ⟨s3,?_⟩;rw[List.replicate_succ',List.map_append];rfl
end
def plI(n:Nat):VY:=(List.range n).map fun(k:Nat)=>(k:Int)
theorem Yk{n:Nat}{p:Int}:p∈plI n↔0<=p/\p<n:=by
 unfold plI;rw[List.mem_map];constructor
 ·rintro ⟨k,hk,rfl⟩;rw[List.mem_range]at hk;omega
 ·rintro ⟨h0,h1⟩;exact⟨p.toNat,LZ.mpr (by omega),by omega⟩
theorem Zy(n:Nat):(plI n).length=n:=by unfold plI;rw[List.length_map,List.length_range]
theorem Jld(n:Nat):(plI n).Nodup:=by unfold plI;rw[List.Nodup,List.pairwise_map];exact List.nodup_range.imp fun {a b} h e=>h (by omega)
theorem Jnp{n i:Nat}(h:i<n):(plI n)[i]?=some (i:Int):=by unfold plI;rw[List.getElem?_map,List.getElem?_range h];rfl
def JU(n:Nat)(D:VY):VY:=(plI n).filter fun p=>!decide (p∈D)
def rdy(f:Nat->VY)(n:Nat)(D:VY):VY:=(JU n D).filter fun p=>(f p.toNat).all fun b=>decide (b∈D)
theorem YW{n:Nat}{D:VY}{p:Int}:p∈JU n D↔(0<=p/\p<n)/\p∉D:=by unfold JU;rw[List.mem_filter,Yk];simp
theorem Qa{f:Nat->VY}{n:Nat}{D:VY}{p:Int}:p∈rdy f n D↔((0<=p/\p<n)/\p∉D)/\∀b∈f p.toNat,b∈D:=by unfold rdy;rw[List.mem_filter,YW];simp
def stp(f:Nat->VY)(n:Nat)(D:VY):VY:=match rdy f n D with
 | []=>D
 | p::_=>D++[p]
def itr(f:Nat->VY)(n:Nat):Nat->VY
 | 0=>[]
 | k + 1=>stp f n (itr f n k)
def ord(f:Nat->VY)(n:Nat):VY:=itr f n n
theorem Wq(f:Nat->VY)(n:Nat):∀k,(itr f n k).Nodup/\(∀p∈itr f n k,0<=p/\p<n)/\(itr f n k).length<=k
 | 0=>⟨List.nodup_nil,fun p hp=>(nomatch hp),SJ _⟩
 | k + 1=>by
  obtain⟨h1,h2,h3⟩:=Wq f n k;show(stp f n (itr f n k)).Nodup/\(∀p∈stp f n (itr f n k),_)/\(stp f n (itr f n k)).length<=k+1;unfold stp;split
  ·exact ⟨h1,h2,by omega⟩
  ·rename_i p r e;have hp:p∈rdy f n (itr f n k):=by rw[e];exact SG
   have hp:=(Qa.mp hp).1;refine⟨List.nodup_append.mpr ⟨h1,SV _ _,fun a ha b hb e'=>?_⟩,fun q hq=>?_,?_⟩
   ·rw [List.mem_singleton] at hb;subst hb e';exact hp.2 ha
   ·rcases SS.mp hq with z | z
    ·exact h2 q z
    ·rw [List.mem_singleton] at z;subst z;exact hp.1
   ·rw [List.length_append,List.length_singleton];omega
theorem ZV{n:Nat}{D:VY}(h1:D.Nodup)(h2:∀p∈D,0<=p/\p<n):D.length<=n:=by have:D ⊆ plI n:=fun p hp=>Yk.mpr (h2 p hp);have:=List.Nodup.length_le_of_subset h1 this;rwa [Zy]at this
theorem Jbf{f:Nat->VY}{n k:Nat}(h:rdy f n (itr f n k)=[]):∀j,itr f n (k+j)=itr f n k
 | 0=>rfl
 | j + 1=>by show stp f n (itr f n (k+j))=_;rw[Jbf h j];unfold stp;rw[h]
theorem Jjo{f:Nat->VY}{n:Nat}:∀{k:Nat},(itr f n k).length=k\/rdy f n (itr f n k)=[]
 | 0=>.inl rfl
 | k + 1=>by
  by_cases h:rdy f n (itr f n k)=[]
  ·refine .inr ?_;rw[Jbf h 1];exact h
  ·rcases Jjo (f:=f) (n:=n) (k:=k) with e | e
   ·refine .inl ?_;show(stp f n (itr f n k)).length=_;unfold stp;split
    ·rename_i e2;exact absurd e2 h
    ·rw [List.length_append,List.length_singleton,e]
   ·exact absurd e h
theorem Jrm(f:Nat->VY)(n:Nat):rdy f n (ord f n)=[]:=by
 rcases Jjo (f:=f) (n:=n) (k:=n)with e|e
 ·obtain ⟨h1,h2,_⟩:=Wq f n n;cases c:rdy f n (ord f n) with
  | nil=>rfl
  | cons p r =>
   have hp:p∈rdy f n (ord f n):=by rw[c];exact SG
   have hp:=(Qa.mp hp).1;have:=ZV (n:=n) (D:=itr f n n++[p]) (List.nodup_append.mpr ⟨h1,SV _ _,fun a ha b hb e=>by
    rw[List.mem_singleton]at hb;subst hb e
    exact hp.2 ha⟩) (fun q hq=>by
    rcases SS.mp hq with z|z
    ·exact h2 q z
    ·rw [List.mem_singleton] at z;subst z
     exact hp.1)
   rw[List.length_append,e,List.length_singleton]at this;omega
 ·exact e
theorem Jsi{f:Nat->VY}{n k:Nat}(hk:k<=n)(h:rdy f n (itr f n k)=[]):itr f n k=ord f n:=by have:=Jbf h (n-k);rw[show k+(n-k)=n by omega]at this;exact this.symm
theorem Jch{f:Nat->VY}{n:Nat}:(ord f n).length=n↔JU n (ord f n)=[]:=by
 obtain⟨h1,h2,h3⟩:=Wq f n n;constructor
 ·intro e;cases c:JU n (ord f n) with
  | nil=>rfl
  | cons p r =>
   have hp:p∈JU n (ord f n):=by rw[c];exact SG
   have hp:=YW.mp hp;have:=ZV (n:=n) (D:=itr f n n++[p]) (List.nodup_append.mpr ⟨h1,SV _ _,fun a ha b hb e=>by
    rw[List.mem_singleton]at hb;subst hb e
    exact hp.2 ha⟩) (fun q hq=>by
    rcases SS.mp hq with z|z
    ·exact h2 q z
    ·rw [List.mem_singleton] at z;subst z
     exact hp.1)
   rw[List.length_append,show(itr f n n).length=n from e,List.length_singleton]at this;omega
 ·intro e;have:plI n ⊆ ord f n:=fun p hp=>by
   by_cases c:p∈ord f n
   ·exact c
   ·have:p∈JU n (ord f n):=YW.mpr ⟨Yk.mp hp,c⟩;rw[e]at this;cases this
  have:=List.Nodup.length_le_of_subset (Jld n) this;rw[Zy]at this;exact Nat.le_antisymm h3 this
theorem QA{f:Nat->VY}{n:Nat}:∀{k:Nat}{p:Int},p∈itr f n k->∀b∈f p.toNat,b∈itr f n k/\((itr f n k).idxOf b<(itr f n k).idxOf p)
 | 0,_,h=>(nomatch h)
 | k + 1,p,h=>by
  intro b hb;have h':p∈stp f n (itr f n k):=h;show b∈stp f n (itr f n k)/\(stp f n (itr f n k)).idxOf b<(stp f n (itr f n k)).idxOf p;unfold stp at h' ⊢;split at h'
  ·exact QA h' b hb
  ·rename_i q r e;have hq:q∈rdy f n (itr f n k):=by rw[e];exact SG
   have hq:=Qa.mp hq;show b∈itr f n k++[q]/\(itr f n k++[q]).idxOf b<(itr f n k++[q]).idxOf p;rcases SS.mp h' with z|z
   ·obtain ⟨h1,h2⟩:=QA z b hb;refine⟨List.mem_append_left _ h1,?_⟩;rw[List.idxOf_append,if_pos h1,List.idxOf_append,if_pos z];exact h2
   ·rw [List.mem_singleton] at z;subst z;have h1:=hq.2 b hb;refine⟨List.mem_append_left _ h1,?_⟩;rw[List.idxOf_append,if_pos h1,List.idxOf_append,if_neg hq.1.2];have:=List.idxOf_lt_length_of_mem h1;omega
def onw(f:Nat->VY)(R:VY)(p:Int):Int:=((f p.toNat).filter fun b=>decide (b∈R)).headD 0
def Wv(g:Int->Int):Nat->VY->Int->VY
 | 0,way,p=>way.drop (way.idxOf p)
 | k + 1,way,p=>if p∈way then way.drop (way.idxOf p) else Wv g k (way++[p]) (g p)
def Jig(f:Nat->VY)(n:Nat):VY:=Wv (onw f (JU n (ord f n))) (n+1) [] ((JU n (ord f n)).headD 0)
def Jkk(f:Nat->VY)(R:VY):Prop:=2<=R.length/\R.Nodup/\∀k,k<R.length->∀x y,R[k]?=some x->R[(k+1)%R.length]?=some y->y∈f x.toNat
def WayG(f:Nat->VY)(way:VY):Prop:=∀k x y,way[k]?=some x->way[k+1]?=some y->y∈f x.toNat
theorem Jmq{f:Nat->VY}{way:VY}{p:Int}(h:WayG f way)(hp:∀x,way.getLast?=some x->p∈f x.toNat):WayG f (way++[p]):=fun k x y h1 h2=>by
 by_cases c:k+1<way.length
 ·rw [List.getElem?_append_left (by omega)] at h1;rw[List.getElem?_append_left c]at h2;exact h k x y h1 h2
 ·have hk:k + 1=way.length:=by
   have:=(SY.mp h2).1;rw[List.length_append,List.length_singleton]at this;omega
  rw[List.getElem?_append_right (by omega),hk,Nat.sub_self]at h2;have:y=p:=by simpa using h2.symm
  subst this;refine hp x ?_;rw[List.getLast?_eq_getElem?,<- h1,List.getElem?_append_left (by omega)];congr 1;omega
theorem Juu{f:Nat->VY}{R:VY}{p:Int}(h:∃b∈f p.toNat,b∈R):onw f R p∈f p.toNat/\onw f R p∈R/\((f p.toNat).filter fun b=>decide (b∈R))[0]?=some (onw f R p):=by
 unfold onw;cases c:(f p.toNat).filter fun b=>decide (b∈R) with
 | nil =>
  obtain⟨b,h1,h2⟩:=h;have:b∈(f p.toNat).filter fun b=>decide (b∈R):=SR.mpr ⟨h1,decide_eq_true h2⟩;rw[c]at this;cases this
 | cons x r =>
  have:x∈(f p.toNat).filter fun b=>decide (b∈R):=by rw[c];exact SG
  have:=SR.mp this;exact⟨this.1,of_decide_eq_true this.2,rfl⟩
theorem Jhb{f:Nat->VY}{n:Nat}(hf:∀p:Nat,∀b∈f p,(0<=b/\b<n)/\b≠(p:Int)):∀p∈JU n (ord f n),(0<=p/\p<n)/\p∉f p.toNat/\∃b∈f p.toNat,b∈JU n (ord f n):=fun p hp=>by
 have h:=YW.mp hp;refine⟨h.1,fun z=>(hf _ _ z).2 (by omega),?_⟩;by_cases c:∃b∈f p.toNat,b∈JU n (ord f n)
 ·exact c
 ·exfalso;have:p∈rdy f n (ord f n):=Qa.mpr ⟨h,fun b hb=>by
   by_cases d:b∈ord f n
   ·exact d
   ·exact absurd ⟨b,hb,YW.mpr ⟨(hf _ _ hb).1,d⟩⟩ c⟩
  rw[Jrm]at this;cases this
def Jts(ars:VX)(R:VY):Prop:=2<=R.length/\R.Nodup/\R.length<=40/\∀k,k<R.length->∀x y,R[k]?=some x->R[(k+1)%R.length]?=some y->(x,y)∈ars
end Hk
namespace Hk
open PySem L2 PySem.W
theorem UZ(ns:VY)(x:Int):(valV (mkv ns) (Sum.inl x)).isSome=decide (x∈ns):=by rw[Jad];by_cases h:x∈ns<;>simp[h]
theorem Jje{ns:VY}{x:Int}(h:x∉ns):putK (mkv ns) (Sum.inl x) (V.bl true)=mkv (ns++[x]):=by rw[WL _ (by rw[Jad,if_neg h])];unfold mkv;rw[List.map_append];rfl
theorem Jjf(ns:VY):(mkv ns).length=ns.length:=by unfold mkv;rw[List.length_map]
theorem Jfr(ns:VY):(mkv ns).map (·.1)=ns.map Sum.inl:=by unfold mkv;rw[List.map_map];rfl
theorem LL.putD{H:Hp}{l d:VB}{rows:List VB}{f:Nat->VY}{kvs kvs':List (Key×V)}(h:LL H l rows f)(hd:H d=some (.dK kvs)):LL (upd H d (.dK kvs')) l rows f :=
 ⟨by rw[Jj (Wt h.top hd (fun z=>nomatch z))];exact h.top,fun i r e=>by rw[Jj (Wt (h.row i r e) hd (fun z=>nomatch z))];exact h.row i r e⟩
theorem Jgi{xs:VS}{i:Nat}(h:i<=xs.length):cutV xs (some (i:Int)) none=xs.drop i:=by
 have e:HT.sIx xs.length 0 (some (i:Int))=i:=by
  unfold HT.sIx;simp only
  first|omega|(split<;>omega)|simp[h]
 unfold cutV;rw[e,show HT.sIx xs.length xs.length none=xs.length from rfl,List.take_of_length_le (by rw[List.length_drop];omega)]
def ldF(ars:VX):Nat->VY:=fun i=>ldI ars i
theorem Qf{m:Int}{ars:VX}(g:Jy m ars):∀p:Nat,∀b∈ldF ars p,(0<=b/\b<(m.toNat:Nat))/\b≠(p:Int):=fun p b hb=>by unfold ldF ldI at hb;obtain⟨q,hq,rfl⟩:=SL.mp hb;have h:=SR.mp hq;have e:=of_decide_eq_true h.2;have gq:=g q h.1;refine⟨⟨gq.2.2.1,by omega⟩,fun z=>gq.2.2.2.2 ?_⟩;rw[e,z]
section
variable{P:VC}{w:VF}{K:Frag}{mg:VZ}{base:Heap}
def Jim:Sp:=fun vs H Q _=>∃(l d:VB)(rows:List VB)(f:Nat->VY)(D:VY),vs=[.ref l,.ref d]/\LL H l rows f/\H d=some (.dK (mkv D))/\rows.length<=40/\(∀i,(f i).length<=1000) /\
 ∀(r:VB)(H':Hp),Same H H'->H r=none->H' r=some (.lst ((rdy f rows.length D).map V.int))->Q (.ref r) H'
theorem Jox(D:DefAt K mg "ready_places" Zp ["leads","done"])(fr:Free mg ["all","len","range"]):Kn P w K mg base 1 "ready_places" ["leads","done"] Jim:=by
 have sc:FnScope ["leads","done","rest"] ["leads","done"] (Jh Zp):=⟨rfl,rfl,rfl,by decide +kernel,rfl,by decide +kernel,by decide +kernel⟩;refine D.kn (N:=["leads","done","rest"]) sc (fun vs H Q E h=>?_) (fun f cdv A outer s H vs Q E hr h=>?_)
 ·obtain ⟨l,d,rows,f,D,rfl,_⟩:=h;rfl
 ·obtain ⟨l,d,rows,f,D,rfl,L,hd,l40,lf,kk⟩:=h;have hu:=YI hr;have m_all:=fr "all" (by simp);have m_len:=fr "len" (by simp);have m_range:=fr "range" (by simp);have nd0:(["place","done"]:VJ).Nodup:=by decide +kernel
  have nd1:(["place","leads","done"]:VJ).Nodup:=by decide +kernel
  have nd2:(["b","done"]:VJ).Nodup:=by decide +kernel
  have nd3:(["b","done"]:VJ).Nodup:=by decide +kernel
  refine⟨_,(Jd (YK (i:=2) (N:=["place","done"]) (src:=[none,some 1]) sc.nd rfl rfl rfl rfl ⟨rfl,rfl,rfl,rfl,⟨⟨rfl,rfl⟩,trivial⟩,rfl,rfl,rfl⟩ (Js (i:=0) rfl) (JV rfl m_range (Ja (Jm Ju rfl m_len PySem.boot_len (Ja (pv 0) Jb)) Jb)) (fun C s H fp=>⟨(Jp (i:=0) nd0 rfl (Or.inl rfl)),(JW (UG (Uc hu (pv 0) (pv 1)))),(pv 0)⟩)) (Je (Ji (Yb (N:=["place","leads","done"]) (src:=[none,some 0,some 1]) rfl ⟨rfl,rfl,rfl,rfl,⟨⟨rfl,rfl⟩,⟨⟨rfl,rfl⟩,trivial⟩⟩,rfl,rfl,rfl⟩ (Js (i:=0) rfl) (JQ (pv 2)) (fun C s H fp=>⟨(Jp (i:=0) nd1 rfl (Or.inl rfl)),(JW (JM (Jm (QK K rfl) rfl m_all Yh (Ja (Yb (N:=["b","done"]) (src:=[none,some 2]) rfl ⟨rfl,rfl,rfl,rfl,⟨⟨rfl,rfl⟩,trivial⟩,rfl,rfl,rfl⟩ (Js (i:=0) rfl) (US K (Jv (r:=rIxL K) JB (pv 1) (pv 0) (fun _ _=>rfl))) (fun C s H fp=>⟨(Jp (i:=0) nd3 rfl (Or.inl rfl)),JC,(Jhf (Qx hu (pv 0) (pv 1)))⟩)) Jb)))),(pv 0)⟩))))),?_⟩;have lr:(rows.map V.ref).length=rows.length:=List.length_map _;refine⟨_,rfl,l,_,rfl,.inl (SqL.of L.top),_,rfl,by omega,by omega,ZX (n:=(((rows.map V.ref).length:Nat):Int).toNat) (fun i zs H'=>Same H H'/\zs=(((plI rows.length).take i).filter fun p=>!decide (p∈D)).map V.int) ⟨Same.refl _,rfl⟩ ?_ ?_ ?_⟩
  ·rintro i zs H' hi ⟨s3,rfl⟩;have h2:=SU (fun p=>!decide (p∈D)) ((plI rows.length).take i);rw[List.length_take,Zy]at h2;rw[List.length_map];exact SZ (Jk (by omega))
  ·rintro zs H' ⟨s3,rfl⟩ r hr';rw[List.take_of_length_le (by rw[Zy];omega)];have s4:=s3.trans (Same.upd (o:=.lst ((JU rows.length D).map V.int)) hr');have hr4:(upd H' r (.lst ((JU rows.length D).map V.int))) r=some (.lst ((JU rows.length D).map V.int)):=Jc;show Wu 2 (V.ref r) _ (upd H' r (.lst ((JU rows.length D).map V.int))) _;generalize upd H' r (.lst ((JU rows.length D).map V.int))=H4 at s4 hr4;have lrest:(JU rows.length D).length<=rows.length:=by
    have:=SU (fun p=>!decide (p∈D)) (plI rows.length);rw[Zy]at this;exact this
   refine⟨_,rfl,r,rfl,⟨_,SqL.of hr4⟩,ZB (xs:=(JU rows.length D).map V.int) (fun i zs H5=>Same H4 H5/\zs=(((JU rows.length D).take i).filter fun p=>(f p.toNat).all fun b=>decide (b∈D)).map V.int) ⟨Same.refl _,rfl⟩ ?_ ?_ ?_⟩
   ·rintro i zs H5 hi ⟨s5,rfl⟩;refine⟨SqL.of (s5 _ _ hr4),?_⟩;have:=SU (fun p=>(f p.toNat).all fun b=>decide (b∈D)) ((JU rows.length D).take i);rw[List.length_take]at this;rw[List.length_map];exact SZ (Jk (by omega))
   ·rintro zs H5 ⟨s5,rfl⟩ q hq;rw[List.length_map,List.take_of_length_le (Nat.le_refl _)];have s45:=s4.trans s5;exact kk q _ (s45.trans (Same.upd hq)) (UH s45 hq) Jc
   ·rintro i x zs H5 hx hi ⟨s5,rfl⟩;rw[List.getElem?_map]at hx;obtain⟨p,hp,rfl⟩:=SX.mp hx;have hpr:=(YW.mp (SK hp)).1;have fs:=JJ (fun p=>(f p.toNat).all fun b=>decide (b∈D)) (JU rows.length D) i p hp;obtain⟨j,rfl⟩:∃j:Nat,p=(j:Int):=⟨p.toNat,by omega⟩;have hj:j<rows.length:=by omega
    have er:rows[j]?=some rows[j]:=by simp[hj]
    have L5:=L.mono (s4.trans s5);have hrow:=L5.row j _ er;have lfj:=lf j;refine⟨_,rfl,_,rfl,l,_,_,.ref rows[j],rfl,rfl,SqL.of L5.top,JS (by rw[List.getElem?_map,er];rfl),rows[j],rfl,⟨_,SqL.of hrow⟩,Ya (xs:=(f j).map V.int) (fun n ys H6=>Same H5 H6/\ys=(((f j).take n).map fun b=>decide (b∈D)).map V.bl) ⟨Same.refl _,rfl⟩ ?_ ?_ ?_⟩
    ·rintro n ys H6 hn ⟨s6,rfl⟩;refine⟨SqL.of (s6 _ _ hrow),?_⟩;rw[List.length_map,List.length_map,List.length_take];exact SZ (Jk (by omega))
    ·rintro ys H6 ⟨s6,rfl⟩ y hy;rw[List.length_map,List.take_of_length_le (Nat.le_refl _)];refine⟨y,_,rfl,SqL.of Jc,_,rfl,?_⟩;rw[List.all_map];have s56:=s6.trans (Same.upd (o:=.lst (((f j).map fun b=>decide (b∈D)).map V.bl)) hy);refine ite2 (fun c=>?_) (fun c=>?_)
     ·rw [if_pos (show (f (j:Int).toNat).all (fun b=>decide (b∈D))=true from c)] at fs;refine⟨_,rfl,nx hi ⟨s5.trans s56,?_⟩⟩;rw[fs,List.map_append];rfl
     ·rw [if_neg (show ¬ (f (j:Int).toNat).all (fun b=>decide (b∈D))=true from c),List.append_nil] at fs;refine nx hi ⟨s5.trans s56,?_⟩;rw[fs]
    ·rintro n x ys H6 hx hn ⟨s6,rfl⟩;rw[List.getElem?_map]at hx;obtain⟨b,hb,rfl⟩:=SX.mp hx;have g1:DGet H6 d (.int b) (valV (mkv D) (Sum.inl b)):=DGet.k (k:=Sum.inl b) (s6 _ _ ((s4.trans s5) _ _ hd));refine⟨_,rfl,_,rfl,d,_,rfl,g1,?_⟩;refine nx hn ⟨s6,?_⟩;rw[Jx _ _ _ hb,List.map_append,List.map_append,UZ];rfl
  ·rintro i zs H' hi ⟨s3,rfl⟩;have e1:(plI rows.length)[i]?=some (0+(i:Int)):=by rw[Jnp (by omega),Int.zero_add]
   have g1:DGet H' d (.int (0+(i:Int))) (valV (mkv D) (Sum.inl (0+(i:Int)))):=DGet.k (k:=Sum.inl (0+(i:Int))) (s3 _ _ hd);refine⟨_,rfl,_,rfl,d,_,rfl,g1,_,rfl,?_⟩;have fs:=JJ (fun p=>!decide (p∈D)) (plI rows.length) i _ e1;rw[UZ];refine ite2 (fun c=>?_) (fun c=>?_)
   ·rw [if_pos c] at fs;refine⟨_,rfl,nx hi ⟨s3,?_⟩⟩;rw[fs,List.map_append];rfl
   ·rw [if_neg c,List.append_nil] at fs;refine nx hi ⟨s3,?_⟩;rw[fs]
def Jil:Sp:=fun vs H Q _=>∃(l r:VB)(rows:List VB)(f:Nat->VY)(R:VY),vs=[.ref l,.ref r]/\LL H l rows f/\H r=some (.lst (R.map V.int))/\rows.length<=40/\(∀i,(f i).length<=1000)/\R≠[]/\(∀p∈R,(0<=p/\p<rows.length)/\∃b∈f p.toNat,b∈R) /\
 ∀(t:VB)(H':Hp),Same H H'->H' t=some (.tup ((Wv (onw f R) (rows.length+1) [] (R.headD 0)).map V.int))->Q (.ref t) H'
theorem Jow(D:DefAt K mg "ring_among" Wb ["leads","rest"])(fr:Free mg ["tuple"]):Kn P w K mg base 1 "ring_among" ["leads","rest"] Jil:=by
 have sc:FnScope ["leads","rest","way","place"] ["leads","rest"] (Jh Wb):=⟨rfl,rfl,rfl,by decide +kernel,rfl,by decide +kernel,by decide +kernel⟩;refine D.kn (N:=["leads","rest","way","place"]) sc (fun vs H Q E h=>?_) (fun f cdv A outer s H vs Q E hr h=>?_)
 ·obtain ⟨l,r,rows,f,R,rfl,_⟩:=h;rfl
 ·obtain ⟨l,r,rows,f,R,rfl,L,hr',l40,lf,Rne,hR,kk⟩:=h;have hu:=YI hr;have m_tuple:=fr "tuple" (by simp);have nd0:(["b","rest"]:VJ).Nodup:=by decide +kernel
  refine⟨_,(Jd (Jr (i:=2) sc.nd rfl (Or.inl rfl) (JP Jb)) (Jd (Jr (i:=3) sc.nd rfl (Or.inl rfl) (Jv JB (pv 1) Jf (fun _ _=>rfl))) (Jd (WM PassesOwn.never (Jo UW (pv 3) (pv 2) rfl) (Jd (YE (QQ PySem.F.plainAttrs_list PySem.F.slot_list_append PySem.F.type_list_append ZW (pv 2) (Ja (pv 3) Jb))) (Je (Jr (i:=3) sc.nd rfl (Or.inl rfl) (Jv JB (Yb (N:=["b","rest"]) (src:=[none,some 1]) rfl ⟨rfl,rfl,rfl,rfl,⟨⟨rfl,rfl⟩,trivial⟩,rfl,rfl,rfl⟩ (Js (i:=0) rfl) (JQ (Jv JB (pv 0) (pv 3) (fun _ _=>rfl))) (fun C s H fp=>⟨(Jp (i:=0) nd0 rfl (Or.inl rfl)),(JW (Jo (r:=rIn K false) Ud (pv 0) (pv 1) rfl)),(pv 0)⟩)) Jf (fun _ _=>rfl)))))) (Je (Ji (JN JT rfl m_tuple JE (Ja (Zd Jdn (pv 2) (Zm (QQ PySem.F.plainAttrs_list PySem.F.slot_list_index PySem.F.type_list_index (Jhl 0 hu) (pv 2) (Ja (pv 3) Jb))) Wj) Jb))))))),?_⟩;obtain⟨p0,R',rfl⟩:∃p0 R',R=p0::R':=by
   cases R with
   | nil=>exact absurd rfl Rne
   | cons p R=>exact ⟨p,R,rfl⟩
  refine⟨(by show 0<=sizeLine;decide),fun y hy=>?_⟩;have s1:=Same.upd (o:=.lst []) hy;refine⟨_,rfl,r,_,_,.int p0,rfl,rfl,SqL.of (s1 _ _ hr'),JS (j:=0) rfl,?_⟩;refine Jw ?_;dsimp only[List.set];refine⟨fun μ σ H2=>∃(way:VY)(p:Int),σ=[some (.ref l),some (.ref r),some (.ref y),some (.int p)]/\Same H H2/\H2 y=some (.lst (way.map V.int))/\way.Nodup/\(∀x∈way,x∈p0::R')/\p∈p0::R'/\Wv (onw f (p0::R')) (rows.length+1-way.length) way p=Wv (onw f (p0::R')) (rows.length+1) [] p0/\μ=rows.length+1-way.length,⟨_,[],p0,rfl,s1,Jc,List.nodup_nil,fun x hx=>(nomatch hx),SG,rfl,rfl⟩,?_⟩;rintro μ σ H2 ⟨way,p,rfl,s2,hy2,nd,sub,hp,ew,rfl⟩;have lw:=ZV (n:=rows.length) nd fun x hx=>(hR x (sub x hx)).1;refine⟨_,rfl,_,rfl,y,_,rfl,.inl (SqL.of hy2),rfl,QC way,_,rfl,?_⟩;show if (!inV (.int p) (way.map V.int))=true then _ else _
  rw[Wr];have hpr:=(hR p hp).1;obtain⟨o1,o2,o3⟩:=Juu (hR p hp).2;refine ite2 (fun c=>?_) (fun c=>?_)
  ·have c:p ∉ way:=by simpa using c
   refine⟨fun σ' H'=>∃μ',μ'<rows.length+1-way.length/\∃(way:VY)(p:Int),σ'=[some (.ref l),some (.ref r),some (.ref y),some (.int p)]/\Same H H'/\H' y=some (.lst (way.map V.int))/\way.Nodup/\(∀x∈way,x∈p0::R')/\p∈p0::R'/\Wv (onw f (p0::R')) (rows.length+1-way.length) way p=Wv (onw f (p0::R')) (rows.length+1) [] p0/\μ'=rows.length+1-way.length,fun _ _ z=>z,?_⟩;refine⟨_,rfl,.inl ⟨rfl,_,SqL.of hy2⟩,_,rfl,y,_,_,rfl,rfl,hy2,?_,?_⟩
   ·rw [List.length_map];exact Jk (by omega)
   have sy:Same H (upd H2 y (.lst (way.map V.int++[.int p]))):=fun b o e=>by rw[Jj (Jg e hy)];exact s2 _ _ e
   have hy3:(upd H2 y (.lst (way.map V.int++[.int p]))) y=some (.lst ((way++[p]).map V.int)):=by rw[Jc,List.map_append];rfl
   generalize upd H2 y (.lst (way.map V.int++[.int p]))=H3 at sy hy3;obtain⟨j,rfl⟩:∃j:Nat,p=(j:Int):=⟨p.toNat,by omega⟩;have hj:j<rows.length:=by omega
   have er:rows[j]?=some rows[j]:=by simp[hj]
   have L3:=L.mono sy;have hrow:=L3.row j _ er;have lfj:=lf j;refine⟨_,rfl,_,rfl,l,_,_,.ref rows[j],rfl,rfl,SqL.of L3.top,JS (by rw[List.getElem?_map,er];rfl),rows[j],rfl,⟨_,SqL.of hrow⟩,ZB (xs:=(f j).map V.int) (fun n ys H6=>Same H3 H6/\ys=(((f j).take n).filter fun b=>decide (b∈p0::R')).map V.int) ⟨Same.refl _,rfl⟩ ?_ ?_ ?_⟩
   ·rintro n ys H6 hn ⟨s6,rfl⟩;refine⟨SqL.of (s6 _ _ hrow),?_⟩;have:=SU (fun b=>decide (b∈p0::R')) ((f j).take n);rw[List.length_take]at this;rw[List.length_map];exact SZ (Jk (by omega))
   ·rintro ys H6 ⟨s6,rfl⟩ z hz;rw[List.length_map,List.take_of_length_le (Nat.le_refl _)];have e0:((f j).filter fun b=>decide (b∈p0::R'))[0]?=some (onw f (p0::R') (j:Int)):=o3;refine⟨z,_,_,.int (onw f (p0::R') (j:Int)),rfl,rfl,SqL.of Jc,JS (j:=0) (by rw[List.getElem?_map,e0];rfl),?_⟩;have s7:=s6.trans (Same.upd (o:=.lst (((f j).filter fun b=>decide (b∈p0::R')).map V.int)) hz);have ll:(way++[(j:Int)]).length=way.length+1:=by rw[List.length_append,List.length_singleton]
    refine⟨_,?_,way++[(j:Int)],_,rfl,sy.trans s7,s7 _ _ hy3,List.nodup_append.mpr ⟨nd,SV _ _,fun a ha b hb e=>?_⟩,fun x hx=>?_,o2,?_,rfl⟩
    ·rw [ll];omega
    ·rw [List.mem_singleton] at hb;subst hb e;exact c ha
    ·rcases SS.mp hx with z | z
     ·exact sub x z
     ·rw [List.mem_singleton] at z;subst z;exact hp
    ·rw [<- ew,ll,show rows.length + 1 - way.length=(rows.length + 1 - (way.length + 1)) + 1 by omega];conv=>rhs;unfold Wv
     rw[if_neg c]
   ·rintro n x ys H6 hx hn ⟨s6,rfl⟩;rw[List.getElem?_map]at hx;obtain⟨b,hb,rfl⟩:=SX.mp hx;have fs:=JJ (fun b=>decide (b∈p0::R')) (f j) n b hb;refine⟨_,rfl,_,rfl,r,_,rfl,.inl (SqL.of (s6 _ _ (sy _ _ hr'))),rfl,QC (p0::R'),_,rfl,?_⟩;show if inV (.int b) ((p0::R').map V.int)=true then _ else _
    rw[Wr];refine ite2 (fun c=>?_) (fun c=>?_)
    ·rw [if_pos c] at fs;refine⟨_,rfl,nx hn ⟨s6,?_⟩⟩;rw[fs,List.map_append];rfl
    ·rw [if_neg c,List.append_nil] at fs;refine nx hn ⟨s6,?_⟩;rw[fs]
  ·have c:p∈way:=by simpa using c
   have hi:=List.idxOf_lt_length_of_mem c;have ej:(way.map Tr.int)[way.idxOf p]?=some (.int p):=by rw[List.getElem?_map,List.getElem?_eq_getElem hi,List.getElem_idxOf];rfl
   refine⟨_,rfl,_,rfl,.inl ⟨rfl,_,SqL.of hy2⟩,_,rfl,y,_,.int p,.int p,way.map Tr.int,way.idxOf p,rfl,rfl,SqL.of hy2,Is.int p,Jae way,ej,fun k hk e=>?_,by omega,_,rfl,y,_,rfl,SqL.of hy2,fun z hz=>?_⟩
   ·rw [List.getElem?_map] at e;obtain⟨q,hq,eq⟩:=SX.mp e;injection eq with eq
    subst eq;obtain⟨hkl,ek⟩:=SY.mp hq;have z:=PyProof.Rows.ne_of_lt_idxOf hk hkl;rw[ek,beq_self_eq_true]at z;cases z
   ·rw [Jgi (by rw [List.length_map]; omega)];refine⟨z,_,rfl,.inl ⟨SqL.of Jc,fun q hq=>?_⟩⟩;have e1:Wv (onw f (p0::R')) (rows.length+1-way.length) way p=way.drop (way.idxOf p):=by
     rw[show rows.length+1-way.length=(rows.length-way.length)+1 by omega];unfold Wv;rw[if_pos c]
    refine kk q _ (s2.trans ((Same.upd hz).trans (Same.upd hq))) ?_;rw[Jc];show some (HO.tup _)=some (HO.tup ((Wv (onw f (p0::R')) (rows.length+1) [] p0).map V.int));rw[<- ew,e1,List.map_drop]
structure OrdT(K:Frag)(H:Hp)(r:VB)(f:Nat->VY)(n:Nat):Prop where
 ex:∃q,if (ord f n).length=n then H r=some (.tup [.str "order",.ref q])/\FT H q ((ord f n).map V.int)else H r=some (.tup [.str "ring",.ref q])/\H q=some (.tup ((Jig f n).map V.int))
def Jmw(K:Frag):Sp:=fun vs H Q _=>∃(a t:VB)(m:Int)(us:VS)(ars:VX),vs=[.ref a]/\Web H a t m us ars/\Jy m ars/\1<=m/\m<=40 /\
 ∀(r:VB)(H':Hp),Same H H'->OrdT K H' r (ldF ars) m.toNat->Q (.ref r) H'
theorem Jvs(D:DefAt K mg "order_of" Uy ["web"])(fr:Free mg ["range","tuple"])(ka:Kn P w K mg base 1 "all_leads" ["web"] YS)(kr:Kn P w K mg base 1 "ready_places" ["leads","done"] Jim)(kg:Kn P w K mg base 1 "ring_among" ["leads","rest"] Jil):Kn P w K mg base 2 "order_of" ["web"] (Jmw K):=by
 have sc:FnScope ["web","leads","done","ready","rest"] ["web"] (Jh Uy):=⟨rfl,rfl,rfl,by decide +kernel,rfl,by decide +kernel,by decide +kernel⟩;refine D.kn (N:=["web","leads","done","ready","rest"]) sc (fun vs H Q E h=>?_) (fun f cdv A outer s H vs Q E hr h=>?_)
 ·obtain ⟨a,t,m,us,ars,rfl,_⟩:=h;rfl
 ·obtain ⟨a,t,m,us,ars,rfl,W,ga,m1,m40,kk⟩:=h;have hu:=YI hr;have r1:=hr.mono (j:=1) (by decide);have m_range:=fr "range" (by simp);have m_tuple:=fr "tuple" (by simp);have nd0:(["place","done"]:VJ).Nodup:=by decide +kernel
  refine⟨_,(Jd (Jr (i:=1) sc.nd rfl (Or.inl rfl) (Jl ka r1 (Ja (pv 0) Jb))) (Jd (Jr (i:=2) sc.nd rfl (Or.inr rfl) UT) (Jd (Jr (i:=3) sc.nd rfl (Or.inl rfl) (Jl kr r1 (Ja (pv 1) (Ja (pv 2) Jb)))) (Jd (WM PassesOwn.never (Jo (UX (Nat.lt_of_succ_lt hu)) (pv 3) (JP Jb) (Jn _)) (Jd (Zx hu (pv 2) (Jv JB (pv 3) Jf (fun _ _=>rfl)) JG rfl) (Je (Jr (i:=3) sc.nd rfl (Or.inl rfl) (Jl kr r1 (Ja (pv 1) (Ja (pv 2) Jb))))))) (Jd (YK (i:=4) (N:=["place","done"]) (src:=[none,some 2]) sc.nd rfl rfl rfl rfl ⟨rfl,rfl,rfl,rfl,⟨⟨rfl,rfl⟩,trivial⟩,rfl,rfl,rfl⟩ (Js (i:=0) rfl) (JV rfl m_range (Ja (Jv Jz (pv 0) Jf (fun _ _=>rfl)) Jb)) (fun C s H fp=>⟨(Jp (i:=0) nd0 rfl (Or.inl rfl)),(JW (UG (Uc hu (pv 0) (pv 1)))),(pv 0)⟩)) (Jd (JA (Jo (WO (Nat.lt_of_succ_lt hu)) (pv 4) (JP Jb) (Jn _)) (Je (Ji (JI (Ja ZN (Ja (JN (QF rfl) rfl m_tuple JE (Ja (pv 2) Jb)) Jb))))) Jt) (Je (Ji (JI (Ja ZN (Ja (Jl kg r1 (Ja (pv 1) (Ja (pv 4) Jb))) Jb))))))))))),?_⟩;have c0:0<=sizeLine:=by decide
  have c2:2<=sizeLine:=by decide
  have lu:=Yx W.ars;have hlu:=W.len;have lf:∀i,(ldF ars i).length<=1000:=fun i=>by have:=Qe ars (i:Int);show(ldI ars i).length<=1000;omega
  refine⟨_,rfl,a,t,m,us,ars,rfl,W,ga,fun l rows H1 s1 lr L=>?_⟩;have L:LL H1 l rows (ldF ars):=L;refine fun d hd=>?_;have sd:=Same.upd (o:=.dK []) hd;have hdN:=UH s1 hd;refine Jw ?_;dsimp only[List.set];generalize hn:m.toNat=n at lr;have n40:n<=40:=by omega
  have hd2:(upd H1 d (.dK [])) d=some (.dK (mkv [])):=Jc;refine⟨_,rfl,_,rfl,l,d,rows,ldF ars,[],rfl,L.mono sd,hd2,by omega,lf,fun r0 H2 s2 _ hr0=>?_⟩;rw[lr]at hr0;refine Jw ?_;dsimp only[List.set];have keepD:∀{H3:Hp}{kvs kvs':List (Key×V)},Same H H3->H3 d=some (.dK kvs)->Same H (upd H3 d (.dK kvs')):=fun {H3 kvs kvs'} s3 _ b o e=>by rw[Jj (Jg e hdN)];exact s3 _ _ e
  refine⟨fun μ σ H3=>∃(k:Nat)(r:VB)(v4:Option V),σ=[some (.ref a),some (.ref l),some (.ref d),some (.ref r),v4]/\k<=n/\(itr (ldF ars) n k).length=k/\Same H H3/\LL H3 l rows (ldF ars)/\H3 d=some (.dK (mkv (itr (ldF ars) n k)))/\H3 r=some (.lst ((rdy (ldF ars) n (itr (ldF ars) n k)).map V.int))/\μ=n-k,⟨_,0,r0,_,rfl,LX _,rfl,s1.trans (sd.trans s2),L.mono (sd.trans s2),s2 _ _ hd2,hr0,rfl⟩,?_⟩;rintro μ σ H3 ⟨k,r,v4,rfl,hk,lk,s3,L3,hd3,hr3,rfl⟩;refine⟨_,rfl,c0,fun z hz=>?_⟩;have sz:=Same.upd (o:=.lst []) hz;refine⟨r,z,_,rfl,rfl,SqL.of (sz _ _ hr3),SqL.of Jc,_,rfl,?_⟩;have nek:∀p q,rdy (ldF ars) n (itr (ldF ars) n k)=p::q->(itr (ldF ars) n (k+1))=itr (ldF ars) n k++[p]:=fun p q e=>by show stp _ _ _=_;unfold stp;rw[e]
  refine ite2 (fun c=>?_) (fun c=>?_)
  ·cases e:rdy (ldF ars) n (itr (ldF ars) n k) with
   | nil=>rw [e] at c; exact absurd c (by decide)
   | cons p q =>
    have hp:p∈rdy (ldF ars) n (itr (ldF ars) n k):=by rw[e];exact SG
    have hp:=Qa.mp hp;have ek:=nek p q e;have lk1:(itr (ldF ars) n (k+1)).length=k+1:=by rw[ek,List.length_append,lk,List.length_singleton]
    have hk1:k+1<=n:=by have:=ZV (n:=n) (Wq (ldF ars) n (k+1)).1 (Wq (ldF ars) n (k+1)).2.1;omega
    rw[e]at hr3;refine⟨fun σ' H'=>∃μ',μ'<n-k/\∃(k:Nat)(r:VB)(v4:Option V),σ'=[some (.ref a),some (.ref l),some (.ref d),some (.ref r),v4]/\k<=n/\(itr (ldF ars) n k).length=k/\Same H H'/\LL H' l rows (ldF ars)/\H' d=some (.dK (mkv (itr (ldF ars) n k)))/\H' r=some (.lst ((rdy (ldF ars) n (itr (ldF ars) n k)).map V.int))/\μ'=n-k,fun _ _ z=>z,?_⟩;refine⟨_,rfl,_,rfl,r,_,_,.int p,rfl,rfl,SqL.of (sz _ _ hr3),JS (j:=0) rfl,d,_,rfl,DPut.k (k:=Sum.inl p) (sz _ _ hd3) (by rw[Jjf,lk];exact Jk (by omega)),?_⟩;rw[Jje hp.1.2,<- ek];have s4:=keepD (kvs':=mkv (itr (ldF ars) n (k+1))) (s3.trans sz) (sz _ _ hd3);have L4:LL (upd (upd H3 z (.lst [])) d (.dK (mkv (itr (ldF ars) n (k+1))))) l rows (ldF ars):=LL.putD (L3.mono sz) (sz _ _ hd3);have hd4:(upd (upd H3 z (.lst [])) d (.dK (mkv (itr (ldF ars) n (k+1))))) d=some (.dK (mkv (itr (ldF ars) n (k+1)))):=Jc;generalize upd (upd H3 z (.lst [])) d (.dK (mkv (itr (ldF ars) n (k+1))))=H4 at s4 L4 hd4;refine⟨_,rfl,_,rfl,l,d,rows,ldF ars,_,rfl,L4,hd4,by omega,lf,fun r5 H5 s5 _ hr5=>?_⟩;rw[lr]at hr5;exact⟨_,by omega,k+1,r5,_,rfl,hk1,lk1,s4.trans s5,L4.mono s5,s5 _ _ hd4,hr5,rfl⟩
  ·have e:rdy (ldF ars) n (itr (ldF ars) n k)=[]:=by
    cases e:rdy (ldF ars) n (itr (ldF ars) n k) with
    | nil=>rfl
    | cons p q=>rw [e] at c; exact absurd rfl c
   have eo:=Jsi hk e;rw[eo]at hd3 lk;have hd4:=sz _ _ hd3;have s4:=s3.trans sz;have L4:=L3.mono sz;generalize upd H3 z (.lst [])=H4 at hd4 s4 L4;generalize hD:ord (ldF ars) n=D at hd4 lk;refine⟨_,rfl,a,_,_,_,rfl,rfl,SqT.of (s4 _ _ W.top),rfl,m,rfl,by omega,by omega,ZX (n:=m.toNat) (fun i zs H'=>Same H4 H'/\zs=(((plI n).take i).filter fun p=>!decide (p∈D)).map V.int) ⟨Same.refl _,rfl⟩ ?_ ?_ ?_⟩
   ·rintro i zs H' hi ⟨s5,rfl⟩;have h2:=SU (fun p=>!decide (p∈D)) ((plI n).take i);rw[List.length_take,Zy]at h2;rw[List.length_map];exact SZ (Jk (by omega))
   ·rintro zs H' ⟨s5,rfl⟩ q hq;rw[List.take_of_length_le (by rw[Zy];omega)];have s6:=s5.trans (Same.upd (o:=.lst ((JU n D).map V.int)) hq);have hq6:(upd H' q (.lst ((JU n D).map V.int))) q=some (.lst ((JU n D).map V.int)):=Jc;show Wu 4 (V.ref q) _ (upd H' q (.lst ((JU n D).map V.int))) _;generalize upd H' q (.lst ((JU n D).map V.int))=H6 at s6 hq6;refine Jw ?_;dsimp only[List.set];refine⟨_,rfl,c0,fun y hy=>?_⟩;have s7:=s6.trans (Same.upd (o:=.lst []) hy);refine⟨q,y,_,rfl,rfl,SqL.of (Same.upd hy _ _ hq6),SqL.of Jc,_,rfl,?_⟩;have wh:=Jch (f:=ldF ars) (n:=n);rw[hD]at wh;refine ite2 (fun c=>?_) (fun c=>?_)
    ·have er:JU n D=[]:=by
      have:=List.isEmpty_iff.mp c;exact List.map_eq_nil_iff.mp this
     have ln:=wh.mpr er;refine⟨_,rfl,d,_,D,rfl,s7 _ _ hd4,Jfr D,by omega,fun x H8 s8 fx=>⟨c2,fun u hu'=>?_⟩⟩;refine kk u _ (s4.trans (s7.trans (s8.trans (Same.upd hu')))) ⟨x,?_⟩;rw[hn,hD,if_pos ln];exact⟨Jc,fx.mono (Same.upd hu')⟩
    ·have er:JU n D≠[]:=fun z=>c (by rw [z]; rfl);have ln:D.length≠n:=fun z=>er (wh.mp z);have good:=Jhb (n:=n) (f:=ldF ars) (by rw[<- hn];exact Qf ga);rw[hD]at good;refine⟨_,rfl,_,rfl,l,q,rows,ldF ars,JU n D,rfl,L4.mono s7,Same.upd hy _ _ hq6,by omega,lf,er,fun p hp=>?_,fun x H8 s8 hx=>⟨c2,fun u hu'=>?_⟩⟩
     ·have:=good p hp;rw[lr];exact⟨this.1,this.2.2⟩
     ·refine kk u _ (s4.trans (s7.trans (s8.trans (Same.upd hu')))) ⟨x,?_⟩;rw[hn,hD,if_neg ln];refine⟨Jc,Same.upd hu' _ _ ?_⟩;rw[hx,lr];unfold Jig;rw[hD]
   ·rintro i zs H' hi ⟨s5,rfl⟩;have e1:(plI n)[i]?=some (0+(i:Int)):=by rw[Jnp (by omega),Int.zero_add]
    have g1:DGet H' d (.int (0+(i:Int))) (valV (mkv D) (Sum.inl (0+(i:Int)))):=DGet.k (k:=Sum.inl (0+(i:Int))) (s5 _ _ hd4);refine⟨_,rfl,_,rfl,d,_,rfl,g1,_,rfl,?_⟩;have fs:=JJ (fun p=>!decide (p∈D)) (plI n) i _ e1;rw[UZ];refine ite2 (fun c=>?_) (fun c=>?_)
    ·rw [if_pos c] at fs;refine⟨_,rfl,nx hi ⟨s5,?_⟩⟩;rw[fs,List.map_append];rfl
    ·rw [if_neg c,List.append_nil] at fs;refine nx hi ⟨s5,?_⟩;rw[fs]
end
def Jdh:TS:=fun _ _ _=>False
theorem WN{X:Cx}{st:Stmt}:PS X st Jdh:=fun _ _ _ _ _ _ h=>h.elim
section
variable{P:VC}{w:VF}{K:Frag}{mg:VZ}{base:Heap}
def spRL:Sp:=fun vs H Q _=>∃(a t:VB)(m:Int)(us:VS)(ars:VX),vs=[.ref a]/\Web H a t m us ars/\Jy m ars/\1<=m/\m<=40/\(ord (ldF ars) m.toNat).length=m.toNat /\
 ∀(q:VB)(H':Hp),Same H H'->FT H' q ((ord (ldF ars) m.toNat).map V.int)->Q (.ref q) H'
theorem Jou(D:DefAt K mg "ringless_order" YT ["web"])(ko:Kn P w K mg base 2 "order_of" ["web"] (Jmw K)):Kn P w K mg base 3 "ringless_order" ["web"] spRL:=by
 have sc:FnScope ["web","told"] ["web"] (Jh YT):=⟨rfl,rfl,rfl,by decide +kernel,rfl,by decide +kernel,by decide +kernel⟩;refine D.kn (N:=["web","told"]) sc (fun vs H Q E h=>?_) (fun f cdv A outer s H vs Q E hr h=>?_)
 ·obtain ⟨a,t,m,us,ars,rfl,_⟩:=h;rfl
 ·obtain ⟨a,t,m,us,ars,rfl,W,ga,m1,m40,hlen,kk⟩:=h;have r2:=hr.mono (j:=2) (by decide);refine⟨_,(Jd (Jr (i:=1) sc.nd rfl (Or.inl rfl) (Jl ko r2 (Ja (pv 0) Jb))) (Jd (JA (Jo Yz (Jv Jz (pv 1) Jf (fun _ _=>rfl)) ZN (Jn _)) (Je WN) Jt) (Je (Ji (Jv Jz (pv 1) Jf (fun _ _=>rfl)))))),?_⟩;refine⟨_,rfl,a,t,m,us,ars,rfl,W,ga,m1,m40,fun r H1 s1 ot=>?_⟩;obtain⟨q,e⟩:=ot.ex;rw[if_pos hlen]at e;refine⟨_,rfl,r,_,_,_,rfl,rfl,SqT.of e.1,rfl,rfl,_,rfl,iteF ?_⟩;exact⟨_,rfl,r,_,_,_,rfl,rfl,SqT.of e.1,rfl,kk q H1 s1 e.2⟩
theorem Jwh{H H':Hp}{p d:VB}{xs:VS}(h:FT H p xs)(n:p≠d)(s:SameBut d H H'):FT H' p xs:=by obtain⟨o,e,r⟩:=h;exact⟨o,s _ _ n e,r⟩
theorem Jdw{l:VY}{b:Int}{i:Nat}(h:b∈l)(hi:l.idxOf b<i):b∈l.take i:=by refine List.mem_take_iff_getElem.mpr ⟨l.idxOf b,?_,List.getElem_idxOf (List.idxOf_lt_length_iff.mpr h)⟩;have:=List.idxOf_lt_length_iff.mpr h;omega
theorem QT{f:Nat->VY}{n i:Nat}{p:Int}(h:(ord f n)[i]?=some p):∀b∈f p.toNat,b∈(ord f n).take i:=fun b hb=>by
 obtain⟨nd,_,_⟩:=Wq f n n;obtain⟨h1,h2⟩:=QA (f:=f) (n:=n) (k:=n) (p:=p) (SK h) b hb;refine Jdw h1 ?_;have e:(ord f n).idxOf p=i:=by obtain⟨hi,e⟩:=SY.mp h;rw[<- e];exact List.Nodup.idxOf_getElem nd i hi
 have h2:(ord f n).idxOf b<(ord f n).idxOf p:=h2;omega
end
end Hk
namespace Hk
open PySem L2
def hsF(f:Nat->VY)(D:VY):VY:=D.foldl (fun S p=>if (f p.toNat).any (fun b=>decide (b∈S))then S else S++[p]) []
theorem Jgb(f:Nat->VY)(D:VY)(p:Int):hsF f (D++[p])=if (f p.toNat).any (fun b=>decide (b∈hsF f D))then hsF f D else hsF f D++[p]:=by unfold hsF;rw[List.foldl_append];rfl
theorem Jec(f:Nat->VY):∀(D acc:VY)(p:Int),p∈D.foldl (fun S p=>if (f p.toNat).any (fun b=>decide (b∈S))then S else S++[p]) acc->p∈acc\/p∈D
 | [],acc,p,h=>.inl h
 | q::D,acc,p,h=>by
  rw[List.foldl_cons]at h;rcases Jec f D _ p h with h|h
  ·split at h
   ·exact .inl h
   ·rcases SS.mp h with h | h
    ·exact .inl h
    ·rw [List.mem_singleton.mp h];exact .inr SG
  ·exact .inr (SD _ h)
theorem Jga(f:Nat->VY):∀(D acc:VY)(p:Int),p∈acc->p∈D.foldl (fun S p=>if (f p.toNat).any (fun b=>decide (b∈S))then S else S++[p]) acc
 | [],acc,p,h=>h
 | q::D,acc,p,h=>by
  rw[List.foldl_cons];refine Jga f D _ p ?_;split
  ·exact h
  ·exact List.mem_append_left _ h
theorem Jjq(f:Nat->VY):∀(D acc:VY),(D.foldl (fun S p=>if (f p.toNat).any (fun b=>decide (b∈S))then S else S++[p]) acc).length<=acc.length+D.length
 | [],acc=>SJ _
 | q::D,acc=>by
  rw[List.foldl_cons,List.length_cons];have:=Jjq f D (if (f q.toNat).any (fun b=>decide (b∈acc))then acc else acc++[q]);have l:(if (f q.toNat).any (fun b=>decide (b∈acc))then acc else acc++[q]).length<=acc.length+1:=by
   split
   ·omega
   ·rw [List.length_append];exact SJ _
  omega
theorem Jed(f:Nat->VY)(D:VY):∀p∈hsF f D,p∈D:=fun p h=>(Jec f D [] p h).elim (fun z=>nomatch z) id
theorem Jjr(f:Nat->VY)(D:VY):(hsF f D).length<=D.length:=by have:=Jjq f D [];rw[List.length_nil,Nat.zero_add]at this;exact this
theorem Jbh{f:Nat->VY}{D:VY}{i:Nat}{b:Int}(nd:D.Nodup)(hb:b∈D.take i):b∈hsF f D↔b∈hsF f (D.take i):=by
 have e:hsF f D=(D.drop i).foldl (fun S p=>if (f p.toNat).any (fun b=>decide (b∈S))then S else S++[p]) (hsF f (D.take i)):=by
  show hsF f D=_;conv=>lhs;rw[<- List.take_append_drop i D]
  unfold hsF;rw[List.foldl_append]
 rw[e];constructor
 ·intro h;rcases Jec f _ _ _ h with h|h
  ·exact h
  ·rw [<- List.take_append_drop i D] at nd;exact absurd rfl ((List.nodup_append.mp nd).2.2 b hb b h)
 ·exact Jga f _ _ _
theorem Jwg{f:Nat->VY}{n:Nat}{p:Int}(hp:p∈ord f n):p∈hsF f (ord f n)↔∀b∈f p.toNat,b∉hsF f (ord f n):=by
 obtain⟨nd,_,_⟩:=Wq f n n;have nd:(ord f n).Nodup:=nd;obtain⟨i,hi,e⟩:=List.mem_iff_getElem.mp hp;have e':(ord f n)[i]?=some p:=by rw[List.getElem?_eq_getElem hi,e]
 have ben:=QT e';have ts:(ord f n).take (i+1)=(ord f n).take i++[p]:=Jx _ _ _ e';have hin:p∈(ord f n).take (i+1):=by rw[ts];exact SB _ (SH.mpr rfl)
 have hnot:p∉(ord f n).take i:=fun z=>by have nd2:((ord f n).take (i+1)).Nodup:=nd.sublist (List.take_sublist _ _);rw[ts]at nd2;exact(List.nodup_append.mp nd2).2.2 p z p (SH.mpr rfl) rfl
 rw[Jbh nd hin,ts,Jgb];have ex:((f p.toNat).any fun b=>decide (b∈hsF f ((ord f n).take i)))=true↔∃b∈f p.toNat,b∈hsF f (ord f n):=by
  rw[List.any_eq_true];constructor
  ·rintro ⟨b,hb,z⟩;exact⟨b,hb,(Jbh nd (ben b hb)).mpr (of_decide_eq_true z)⟩
  ·rintro ⟨b,hb,z⟩;exact⟨b,hb,decide_eq_true ((Jbh nd (ben b hb)).mp z)⟩
 by_cases c:((f p.toNat).any fun b=>decide (b∈hsF f ((ord f n).take i)))=true
 ·rw [if_pos c];obtain⟨b,hb,z⟩:=ex.mp c;exact⟨fun h=>absurd (Jed f _ p h) hnot,fun h=>absurd z (h b hb)⟩
 ·rw [if_neg c];exact⟨fun _ b hb z=>c (ex.mpr ⟨b,hb,z⟩),fun _=>SB _ (SH.mpr rfl)⟩
theorem Jiz{m:Int}{ars:VX}(h:(ord (ldF ars) m.toNat).length=m.toNat){p:Int}(h0:0<=p)(hm:p<m):p∈ord (ldF ars) m.toNat:=by have h1:=Jch.mp h;refine Decidable.byContradiction fun z=>?_;have:p∈JU m.toNat (ord (ldF ars) m.toNat):=YW.mpr ⟨⟨h0,by omega⟩,z⟩;rw[h1]at this;cases this
end Hk
namespace Hk
open PySem L2 PySem.W
section
variable{P:VC}{w:VF}{K:Frag}{mg:VZ}{base:Heap}
def Jmx:Sp:=fun vs H Q _=>∃(a t:VB)(m:Int)(us:VS)(ars:VX),vs=[.ref a]/\Web H a t m us ars/\Jy m ars/\1<=m/\m<=40/\(ord (ldF ars) m.toNat).length=m.toNat /\
 ∀(q:VB)(S:VY)(H':Hp),Same H H'->H' q=some (.tup (S.map V.int))->S.Perm (hsF (ldF ars) (ord (ldF ars) m.toNat))->S.Pairwise (·<=·)->Q (.ref q) H'
theorem Jsb(D:DefAt K mg "one_hold" Uz ["web"])(fr:Free mg ["any","sorted","tuple"])(ka:Kn P w K mg base 1 "all_leads" ["web"] YS)(kr:Kn P w K mg base 3 "ringless_order" ["web"] spRL):Kn P w K mg base 4 "one_hold" ["web"] Jmx:=by
 have sc:FnScope ["web","leads","inside","place"] ["web"] (Jh Uz):=⟨rfl,rfl,rfl,by decide +kernel,rfl,by decide +kernel,by decide +kernel⟩;refine D.kn (N:=["web","leads","inside","place"]) sc (fun vs H Q E h=>?_) (fun f cdv A outer s H vs Q E hr h=>?_)
 ·obtain ⟨a,t,m,us,ars,rfl,_⟩:=h;rfl
 ·obtain ⟨a,t,m,us,ars,rfl,W,ga,m1,m40,hlen,kk⟩:=h;have hu:=YI hr;have r1:=hr.mono (j:=1) (by decide);have r3:=hr.mono (j:=3) (by decide);have m_any:=fr "any" (by simp);have m_sorted:=fr "sorted" (by simp);have m_tuple:=fr "tuple" (by simp);have nd0:(["b","inside"]:VJ).Nodup:=by decide +kernel
  have nd1:(["b","inside"]:VJ).Nodup:=by decide +kernel
  refine⟨_,(Jd (Jr (i:=1) sc.nd rfl (Or.inl rfl) (Jl ka r1 (Ja (pv 0) Jb))) (Jd (Jr (i:=2) sc.nd rfl (Or.inr rfl) UT) (Jd (YL PassesOwn.never rfl (Wl (Jl kr r3 (Ja (pv 0) Jb))) (Jp (i:=3) sc.nd rfl (Or.inl rfl)) (Je (JA (Yj (JM (Jm (WX rfl) rfl m_any QL (Ja (Yb (N:=["b","inside"]) (src:=[none,some 2]) rfl ⟨rfl,rfl,rfl,rfl,⟨⟨rfl,rfl⟩,trivial⟩,rfl,rfl,rfl⟩ (Js (i:=0) rfl) (JQ (Jv JB (pv 1) (pv 3) (fun _ _=>rfl))) (fun C s H fp=>⟨(Jp (i:=0) nd1 rfl (Or.inl rfl)),JC,(Jhf (Qx hu (pv 0) (pv 1)))⟩)) Jb)))) (Je (Zx hu (pv 2) (pv 3) JG rfl)) Jt))) (Je (Ji (JN JT rfl m_tuple JE (Ja (Jm (Qm rfl) rfl m_sorted Yu (Ja (pv 2) Jb)) Jb))))))),?_⟩;refine⟨_,rfl,a,t,m,us,ars,rfl,W,ga,fun L rows H1 s1 lr ll d hd=>?_⟩;refine Jw ?_;dsimp only[List.set];have s2:=Same.upd (o:=.dK []) hd;have W2:=W.mono (s1.trans s2);refine⟨_,rfl,a,t,m,us,ars,rfl,W2,ga,m1,m40,hlen,fun q H3 s3 fq=>?_⟩;have hd3:=s3 _ _ (Jc (H:=H1) (a:=d) (o:=.dK []));have ndq:q≠d:=fun z=>by obtain⟨o,e,_⟩:=fq;rw[z,hd3]at e;cases e
  have keep:∀{H4:Hp},SameBut d H3 H4->Same H1 H4:=fun {H4} s4 b o e=>by have nb:=Jg e hd;exact s4 _ _ nb (s3 _ _ (s2 _ _ e))
  obtain⟨nd,bd,_⟩:=Wq (ldF ars) m.toNat m.toNat;have nd:(ord (ldF ars) m.toNat).Nodup:=nd;have bd:∀p∈ord (ldF ars) m.toNat,0<=p/\p<m:=fun p hp=>by have:=bd p hp;omega
  refine ⟨q,rfl,⟨_,fq.sq⟩,Qh (K:=K) (xs:=(ord (ldF ars) m.toNat).map V.int) (fun i σ H4=>∃ (v3:Option V),σ=[some (.ref a),some (.ref L),some (.ref d),v3]/\SameBut d H3 H4/\H4 d=some (.dK (mkv (hsF (ldF ars) ((ord (ldF ars) m.toNat).take i)))))
   ⟨_,rfl,SameBut.refl _ _,hd3⟩ (fun i σ H4 _ ⟨_,_,s4,_⟩=>(Jwh fq ndq s4).sq) ?_ ?_⟩
  ·rintro i y σ H4 hi ⟨v3,rfl,s4,hd4⟩;rw[List.getElem?_map]at hi;obtain⟨p,hip,rfl⟩:=SX.mp hi;clear hi;have hi:=hip;obtain⟨p0,pm⟩:=bd p (SK hi);have ts:(ord (ldF ars) m.toNat).take (i+1)=(ord (ldF ars) m.toNat).take i++[p]:=Jx _ _ _ hi;have hnot:p∉(ord (ldF ars) m.toNat).take i:=fun z=>by
    have nd2:((ord (ldF ars) m.toNat).take (i+1)).Nodup:=nd.sublist (List.take_sublist _ _);rw[ts]at nd2;exact(List.nodup_append.mp nd2).2.2 p z p (SH.mpr rfl) rfl
   have il:i<m.toNat:=by obtain⟨hi',_⟩:=SY.mp hi;omega
   have hsl:=Jjr (ldF ars) ((ord (ldF ars) m.toNat).take i);rw[List.length_take]at hsl;rw[ts,Jgb];have hsn:p∉hsF (ldF ars) ((ord (ldF ars) m.toNat).take i):=fun z=>hnot (Jed _ _ _ z);generalize hsF (ldF ars) ((ord (ldF ars) m.toNat).take i)=S at hd4 hsl hsn;have k4:=keep s4;have l4:=ll.mono k4;obtain⟨r,hr4⟩:∃r,rows[p.toNat]?=some r:=⟨_,SN (by omega)⟩;have row4:=l4.row _ _ hr4;refine⟨_,rfl,_,rfl,L,_,p,.ref r,rfl,rfl,SqL.of l4.top,?_,r,rfl,⟨_,SqL.of row4⟩,Ya (xs:=(ldF ars p.toNat).map V.int) (fun j zs H5=>Same H4 H5/\zs=((ldF ars p.toNat).take j).map fun b=>V.bl (decide (b∈S))) ⟨Same.refl _,rfl⟩ ?_ ?_ ?_⟩
   ·rw [show p=((p.toNat:Nat):Int) by omega];refine JS ?_;rw[List.getElem?_map,hr4];rfl
   ·rintro j zs H5 hj ⟨s5,rfl⟩;refine⟨SqL.of (s5 _ _ row4),?_⟩;rw[List.length_map]at hj;rw[List.length_map,List.length_take];have h2:=W.len;have h3:=Yx W.ars;have h4:(ldF ars p.toNat).length<=ars.length:=by
     show(ldI ars ((p.toNat:Nat):Int)).length<=_;exact Qe ars _
    exact SZ (Jk (by omega))
   ·rintro zs H5 ⟨s5,rfl⟩ l hl;rw[List.length_map,List.take_of_length_le (Nat.le_refl _)];have hd5:=Same.upd (o:=.lst ((ldF ars p.toNat).map fun b=>V.bl (decide (b∈S)))) hl _ _ (s5 _ _ hd4);refine⟨l,(ldF ars p.toNat).map fun b=>decide (b∈S),rfl,?_,?_⟩
    ·refine SqL.of ?_;rw[Jc,List.map_map];rfl
    have an:((ldF ars p.toNat).map fun b=>decide (b∈S)).any id=(ldF ars p.toNat).any fun b=>decide (b∈S):=by rw[List.any_map];rfl
    rw[an];by_cases c:((ldF ars p.toNat).any fun b=>decide (b∈S))=true
    ·rw [if_pos c,c];refine⟨_,rfl,iteF ?_⟩;exact⟨_,rfl,fun b o nb e=>Same.upd hl _ _ (s5 _ _ (s4 _ _ nb e)),hd5⟩
    ·rw [if_neg c,Bool.eq_false_iff.mpr c];refine⟨_,rfl,iteT ?_⟩;refine⟨_,rfl,_,rfl,d,_,rfl,DPut.k (k:=Sum.inl p) hd5 (Jk (by rw[Jjf];omega)),_,rfl,fun b o nb e=>?_,?_⟩
     ·rw [Jj nb];exact Same.upd hl _ _ (s5 _ _ (s4 _ _ nb e))
     ·rw [Jc,Jje hsn]
   ·rintro j x zs H5 hx hj ⟨s5,rfl⟩;rw[List.getElem?_map]at hx;obtain⟨b,hxb,rfl⟩:=SX.mp hx;have g:=DGet.k (k:=Sum.inl b) (s5 _ _ hd4);refine⟨_,rfl,_,rfl,d,_,rfl,g,nx hj ⟨s5,?_⟩⟩;rw[Jx _ _ _ hxb,List.map_append,UZ];rfl
  ·rintro σ H4 ⟨v3,rfl,s4,hd4⟩;have k4:=keep s4;rw[List.length_map,List.take_of_length_le (Nat.le_refl _)]at hd4;have hl2:=Jjr (ldF ars) (ord (ldF ars) m.toNat);refine⟨_,rfl,d,_,hsF (ldF ars) (ord (ldF ars) m.toNat),rfl,hd4,Jfr _,by omega,fun D' S H5 s5 hD hpm hle=>?_⟩;exact⟨D',_,rfl,.inl ⟨SqL.of hD,fun e he=>kk e S _ (((s1.trans k4).trans s5).trans (Same.upd he)) Jc hpm hle⟩⟩
end
end Hk
namespace L2
open PySem PySem.Spec PyProof.Rows
def Jtw(tk tv:TE):TE:=fun σ H Q=>∀p,H p=none->Jgv [(tk,tv)] σ (upd H p (.dT [])) fun ps H2=>∃x y,ps=[(x,y)]/\H2 p=some (.dT [])/\∃(b:VB)(k:List Key),x=.ref b/\H2 b=some (.tup (k.map kV))/\Q (.ref p) (upd H2 p (.dT [(k,y)]))
theorem Jnv{X:Cx}{pos:Pos}{k v:Expr}{tk tv:TE}(hu:X.A.units+1<cLine)(hk:PE X k tk)(hv:PE X v tv):PE X (.Dict [some k] [v] pos) (Jtw tk tv):=by
 intro pins s σ H Q I q;have hn:=I.hok.fresh (SJ s.heap.objs.size);have I1:=I.laid (a:=s.heap.objs.size) (o:=.dT []) (h':=s.heap.push { cls:=.type "dict",data:=.dict #[] }) (t':=s.toks) (fun _ _ q=>VN _ q) (SJ _) (Jgh s.heap I.big);have P2:PPs X pos [some k] [v] [(tk,tv)]:=Jno hk hv Jrd;refine wpAny_Dict_any rfl rfl (by simp) (by show 1<=15;decide) (thn (P2 pins _ σ _ _ I1 (q _ hn)) fun vs s1 z=>?_);obtain⟨ps,H2,I2,rel,x,y,rfl,e,b,ks,rfl,eb,q2⟩:=z
 ·cases rel with
  | cons hr t =>
   cases t;rename_i r;obtain⟨r1,r2⟩:=r;obtain⟨h1,h2⟩:=hr;cases (show r1=Value.ref b from h1);obtain⟨z,hd,xs,rel,dd⟩:=Jtq I2.hok e;have hz:xs.length<=sizeLine:=by rw[<- Paired.length rel];exact z
   unfold storeAll;rw[List.forIn_cons];refine VL (VL (wpAny_dictSet_heap (hsz:=hz) (knd:=tupleKind (JX X.prog X.w)) (Nat.lt_of_succ_lt hu) (Jbe I2.hok eb) dd fun h' dd' hs=>VM ?_));dsimp only;rw[List.forIn_nil];refine VM ⟨.ref s.heap.objs.size,_,?_,rfl,q2⟩;obtain⟨q,es,ep,hq,h2',h3,h4,_,h5⟩:=dd';cases rel;refine Jeh I2 (by rw[e];exact True.intro) hs ⟨q,hq⟩ ⟨by rw[sizeLine_eq];show 1<=_;omega,hd,_,KT.keeps (KT.put (H:=H2) (kvs:=[]) (xs:=[]) .nil ks eb h2) fun c ys ec=>?_,q,es,ep,hq,h2',h3,h4,h5⟩;rw[Jj (Wt ec e (fun z=>nomatch z))];exact ec
end L2
namespace Hk
open PySem L2
inductive Rch(f:Nat->VY)(p:Int):Int->Prop where
 | refl:Rch f p p
 | step {q b:Int}:Rch f p q->b∈f q.toNat->Rch f p b
theorem Rch.trans{f:Nat->VY}{p q r:Int}(h:Rch f p q)(g:Rch f q r):Rch f p r:=by
 induction g with
 | refl=>exact h
 | step _ e ih=>exact .step ih e
theorem Rch.head{f:Nat->VY}{p b r:Int}(h:b∈f p.toNat)(g:Rch f b r):Rch f p r:=(Rch.step .refl h).trans g
structure IsCm(f:Nat->VY)(p:Int)(R:VY):Prop where
 rise:R.Pairwise (·<·)
 mem:∀x,x∈R↔Rch f p x
structure IsGr(f:Nat->VY)(p:Int)(R:VY):Prop where
 rise:R.Pairwise (·<·)
 mem:∀x,x∈R↔Rch f p x/\Rch f x p
theorem WK{f:Nat->VY}{n:Nat}(hf:∀p:Nat,∀b∈f p,0<=b/\b<n){p x:Int}(hp:0<=p/\p<n)(h:Rch f p x):0<=x/\x<n:=by
 induction h with
 | refl=>exact hp
 | step _ e _=>exact hf _ _ e
theorem Zc (n:Nat) (c:Int->Bool):((plI n).filter c).Pairwise (· < ·):=List.Pairwise.filter _ (by
 unfold plI;rw[List.pairwise_map]
 exact List.pairwise_lt_range.imp fun {a b} h=>by omega)
theorem cm_ex{f:Nat->VY}{n:Nat}(hf:∀p:Nat,∀b∈f p,0<=b/\b<n):∃Cm:Nat->VY,∀p:Nat,p<n->IsCm f (p:Int) (Cm p):=by
 classical
 refine⟨fun p=>(plI n).filter fun x=>decide (Rch f (p:Int) x),fun p hp=>⟨Zc n _,fun x=>?_⟩⟩;rw[List.mem_filter,Yk,decide_eq_true_eq];exact⟨fun h=>h.2,fun h=>⟨WK hf (by omega) h,h⟩⟩
theorem gr_ex{f:Nat->VY}{n:Nat}(hf:∀p:Nat,∀b∈f p,0<=b/\b<n):∃Gr:Nat->VY,∀p:Nat,p<n->IsGr f (p:Int) (Gr p):=by
 classical
 refine⟨fun p=>(plI n).filter fun x=>decide (Rch f (p:Int) x/\Rch f x p),fun p hp=>⟨Zc n _,fun x=>?_⟩⟩;rw[List.mem_filter,Yk,decide_eq_true_eq];exact⟨fun h=>h.2,fun h=>⟨WK hf (by omega) h.1,h⟩⟩
theorem Jdo:∀{l r:VY},l.Pairwise (·<·)->r.Pairwise (·<·)->(∀x,x∈l↔x∈r)->l=r
 | [],[],_,_,_=>rfl
 | [],y::r,_,_,h=>absurd ((h y).mpr SG) (by simp)
 | x::l,[],_,_,h=>absurd ((h x).mp SG) (by simp)
 | x::l,y::r,h1,h2,h=>by
  have a:=List.pairwise_cons.mp h1;have b:=List.pairwise_cons.mp h2;have e:x=y:=by
   rcases List.mem_cons.mp ((h x).mp SG)with z|z
   ·exact z
   ·rcases List.mem_cons.mp ((h y).mpr SG) with w | w
    ·exact w.symm
    ·have:=a.1 y w;have:=b.1 x z;omega
  subst e;rw[Jdo a.2 b.2 fun z=>?_];constructor
  ·intro hz;rcases List.mem_cons.mp ((h z).mp (SD _ hz))with w|w
   ·subst w;have:=a.1 z hz;omega
   ·exact w
  ·intro hz;rcases List.mem_cons.mp ((h z).mpr (SD _ hz))with w|w
   ·subst w;have:=b.1 z hz;omega
   ·exact w
theorem Jbk{R:VY}(h:R.Pairwise (·<·)){x:Int}(hx:x∈R):∃y,R.head?=some y/\y∈R/\y<=x:=by
 cases R with
 | nil=>cases hx
 | cons y r =>
  refine⟨y,rfl,SG,?_⟩;rcases List.mem_cons.mp hx with z|z
  ·omega
  ·have:=(List.pairwise_cons.mp h).1 x z;omega
def flp(k j:Int):Int:=if k=j then 0 else 1
inductive Rc2(f:Nat->VY)(p:Int):Int->Int->Prop where
 | refl:Rc2 f p p 0
 | step {q b k:Int}:Rc2 f p q k->b∈f q.toNat->Rc2 f p b (1 - k)
theorem Rc2.par{f:Nat->VY}{p x k:Int}(h:Rc2 f p x k):k=0\/k=1:=by
 induction h with
 | refl=>exact .inl rfl
 | step _ _ ih =>
  rcases ih with rfl|rfl
  ·exact .inr rfl
  ·exact .inl rfl
theorem Rc2.rch{f:Nat->VY}{p x k:Int}(h:Rc2 f p x k):Rch f p x:=by
 induction h with
 | refl=>exact .refl
 | step _ e ih=>exact .step ih e
theorem Rch.rc2{f:Nat->VY}{p x:Int}(h:Rch f p x):∃k,Rc2 f p x k:=by
 induction h with
 | refl=>exact ⟨0,.refl⟩
 | step _ e ih =>
  obtain⟨k,hk⟩:=ih;exact⟨_,.step hk e⟩
theorem Rc2.trans{f:Nat->VY}{p q r k j:Int}(h:Rc2 f p q k)(g:Rc2 f q r j):Rc2 f p r (flp k j):=by
 induction g with
 | refl =>
  have e:flp k 0=k:=by unfold flp;rcases h.par with rfl|rfl<;>rfl
  rw[e];exact h
 | @step u v l hu e ih =>
  have e2:flp k (1-l)=1-flp k l:=by unfold flp;rcases h.par with rfl|rfl<;>rcases hu.par with rfl|rfl<;>rfl
  rw[e2];exact .step ih e
end Hk
namespace Hk
open PySem L2 PySem.W
theorem Jcg{a b:Int×Int}(h:JF a=JF b):a=b:=by
 unfold JF at h;injection h with h1 h2
 injection h2 with h2 _
 exact Prod.ext (Sum.inl.inj h1) (Sum.inl.inj h2)
theorem Jar(a:Int×Int):(JF a).map kV=[V.int a.1,V.int a.2]:=rfl
structure PD(kvs:List (List Key×V))(D:VX):Prop where
 nd:D.Nodup
 mem:∀q:Int×Int,(valV kvs (JF q)).isSome=decide (q∈D)
 len:kvs.length<=D.length
theorem PD.one(q:Int×Int)(v:V):PD [(JF q,v)] [q]:=by
 refine⟨SV _ _,fun p=>?_,SJ _⟩;have e:valV [(JF q,v)] (JF p)=if JF p=JF q then some v else none:=by have:=UK ([]:List (List Key×V)) (JF q) (JF p) v;rw[WL v rfl]at this;exact this
 rw[e];by_cases c:p=q
 ·subst c;rw[if_pos rfl,decide_eq_true List.mem_cons_self];rfl
 ·rw [if_neg fun z=>c (Jcg z),decide_eq_false fun z=>c (List.mem_singleton.mp z)];rfl
theorem PD.put{kvs:List (List Key×V)}{D:VX}(h:PD kvs D){q:Int×Int}(hq:q∉D)(v:V):PD (putK kvs (JF q) v) (D++[q]):=by
 have hn:valV kvs (JF q)=none:=by
  have:=h.mem q;rw[decide_eq_false hq]at this;cases e:valV kvs (JF q) with
  | none=>rfl
  | some _=>rw [e] at this; cases this
 refine⟨List.nodup_append.mpr ⟨h.nd,SV _ _,fun a ha b hb e=>?_⟩,fun p=>?_,?_⟩
 ·rw [List.mem_singleton] at hb;subst hb e;exact hq ha
 ·rw [UK];by_cases c:p=q
  ·subst c;rw[if_pos rfl,decide_eq_true (List.mem_append_right _ List.mem_cons_self)];rfl
  ·rw [if_neg fun z=>c (Jcg z),h.mem];refine decide_eq_decide.mpr ⟨fun z=>List.mem_append_left _ z,fun z=>?_⟩;rcases SS.mp z with z|z
   ·exact z
   ·exact absurd (SH.mp z) c
 ·rw [WL v hn,List.length_append,List.length_append];have:=h.len;show kvs.length+1<=D.length+1;omega
theorem Jas{n:Nat}{D:VX}(nd:D.Nodup)(h:∀q∈D,(0<=q.1/\q.1<n)/\(q.2=0\/q.2=1)):D.length<=2*n:=by
 have e:(D.map fun q=>2*q.1+q.2).Nodup:=by unfold List.Nodup;rw[List.pairwise_map];refine List.Pairwise.imp_of_mem (fun {a b} ha hb hne e=>hne ?_) nd;have h1:=h a ha;have h2:=h b hb;refine Prod.ext ?_ ?_<;>omega
 have:=ZV (n:=2*n) e fun x hx=>by obtain⟨q,hq,rfl⟩:=SL.mp hx;have:=h q hq;omega
 rw[List.length_map]at this;exact this
end Hk
namespace Hk
open PySem L2
inductive Wk(f:Nat->VY)(p:Int):Int->Nat->Prop where
 | refl:Wk f p p 0
 | step {q b:Int} {k:Nat}:Wk f p q k->b∈f q.toNat->Wk f p b (k + 1)
theorem Wk.rc2{f:Nat->VY}{p x:Int}{k:Nat}(h:Wk f p x k):Rc2 f p x ((k%2:Nat):Int):=by
 induction h with
 | refl=>exact .refl
 | @step q b k _ e ih =>
  have e2:(((k+1)%2:Nat):Int)=1-((k%2:Nat):Int):=by omega
  rw[e2];exact .step ih e
theorem Rc2.wk{f:Nat->VY}{p x j:Int}(h:Rc2 f p x j):∃k:Nat,Wk f p x k/\j=((k%2:Nat):Int):=by
 induction h with
 | refl=>exact ⟨0,.refl,rfl⟩
 | step _ e ih =>
  obtain⟨k,hk,rfl⟩:=ih;exact⟨k+1,.step hk e,by omega⟩
theorem Wk.trans{f:Nat->VY}{p q r:Int}{k j:Nat}(h:Wk f p q k)(g:Wk f q r j):Wk f p r (k+j):=by
 induction g with
 | refl=>exact h
 | step _ e ih=>exact .step ih e
theorem Qs{f:Nat->VY}{way:VY}(w:WayG f way){i:Nat}{x:Int}(hx:way[i]?=some x):∀(d:Nat)(y:Int),way[i+d]?=some y->Wk f x y d
 | 0,y,hy=>by rw[Nat.add_zero,hx]at hy;cases hy;exact .refl
 | d + 1,y,hy=>by have hl:=(SY.mp hy).1;have e:=SN (l:=way) (i:=i+d) (by omega);exact .step (Qs w hx d _ e) (w _ _ _ e hy)
def obIn(s:Int)(way:VY)(o:Int):VY->VX->List (VY)->Option (VX×List (VY))
 | [],D,W=>some (D,W)
 | b::L,D,W=>if b=s/\o=1 then none else if (b,o)∈D then obIn s way o L D W else obIn s way o L (D++[(b,o)]) (W++[way++[b]])
def oP(w:VY):Int:=((w.length%2:Nat):Int)
def QW(f:Nat->VY)(s:Int):Nat->VX->List (VY)->Option (VY)
 | 0,_,_=>none
 | _ + 1,_,[]=>none
 | k + 1,D,way::W=>match obIn s way (oP way) (f (way.getLastD 0).toNat) D W with
  | none=>some way
  | some (D',W')=>QW f s k D' W'
def oddW(f:Nat->VY)(n:Nat)(s:Int):Option (VY):=QW f s (2*n) [(s,0)] [[s]]
def kyO(w:VY):Int×Int:=(w.getLastD 0,(((w.length+1)%2:Nat):Int))
theorem Jea(s:Int):kyO [s]=(s,0):=by unfold kyO;simp
theorem Joq(w:VY)(b:Int):kyO (w++[b])=(b,oP w):=by
 unfold kyO oP;rw[List.length_append,List.length_singleton];refine Prod.ext ?_ ?_
 ·simp
 ·show (((w.length + 1 + 1) % 2:Nat):Int)=_;omega
theorem ZU{s:Int}{way:VY}{o:Int}:∀{L:VY}{D:VX}{W:List (VY)},obIn s way o L D W=none->s∈L/\o=1
 | [],_,_,h=>nomatch h
 | b::L,D,W,h=>by
  unfold obIn at h;split at h
  ·rename_i c;rw[c.1];exact⟨SG,c.2⟩
  ·split at h
   ·exact ⟨SD _ (ZU h).1,(ZU h).2⟩
   ·exact ⟨SD _ (ZU h).1,(ZU h).2⟩
theorem Ue{s:Int}{way:VY}:∀{L:VY}{D:VX}{W:List (VY)}{D':VX}{W':List (VY)},D.Nodup->obIn s way (oP way) L D W=some (D',W')->∃N:List (VY),W'=W++N/\D'=D++N.map kyO/\D'.Nodup/\(∀v∈N,∃b∈L,v=way++[b])/\∀b∈L,¬ (b=s/\oP way=1)/\(b,oP way)∈D'
 | [],D,W,D',W',nd,h=>by cases h;exact⟨[],(List.append_nil _).symm,(List.append_nil _).symm,nd,fun _ z=>(nomatch z),fun _ z=>(nomatch z)⟩
 | b::L,D,W,D',W',nd,h=>by
  unfold obIn at h;split at h
  ·cases h
  ·rename_i c;split at h
   ·rename_i c2;obtain⟨N,e1,e2,nd',e3,e4⟩:=Ue nd h;refine⟨N,e1,e2,nd',fun v hv=>?_,fun x hx=>?_⟩
    ·obtain ⟨y,hy,e⟩:=e3 v hv;exact⟨y,SD _ hy,e⟩
    ·rcases List.mem_cons.mp hx with rfl | hx
     ·refine ⟨c,?_⟩;rw[e2];exact List.mem_append_left _ c2
     ·exact e4 x hx
   ·rename_i c2;have nd2:(D++[(b,oP way)]).Nodup:=List.nodup_append.mpr ⟨nd,SV _ _,fun a ha y hy e=>by
     rw[List.mem_singleton]at hy;subst hy e
     exact c2 ha⟩
    obtain⟨N,e1,e2,nd',e3,e4⟩:=Ue nd2 h;refine⟨(way++[b])::N,by rw[e1,List.append_assoc];rfl,by rw[e2,List.append_assoc,List.map_cons,Joq];rfl,nd',fun v hv=>?_,fun x hx=>?_⟩
    ·rcases List.mem_cons.mp hv with rfl | hv
     ·exact ⟨b,SG,rfl⟩
     ·obtain ⟨y,hy,e⟩:=e3 v hv;exact⟨y,SD _ hy,e⟩
    ·rcases List.mem_cons.mp hx with rfl | hx
     ·refine ⟨c,?_⟩;rw[e2];exact List.mem_append_left _ (SB _ SG)
     ·exact e4 x hx
def GW(f:Nat->VY)(s:Int)(w:VY):Prop:=WayG f w/\w[0]?=some s
theorem GW.last{f:Nat->VY}{s:Int}{w:VY}(h:GW f s w):1<=w.length/\w[w.length-1]?=some (w.getLastD 0)/\w.getLast?=some (w.getLastD 0):=by
 have h0:=(SY.mp h.2).1;have e:w≠[]:=fun z=>by rw[z]at h0;exact absurd h0 (by decide)
 have e2:w.getLast?=some (w.getLastD 0):=by rw[List.getLastD_eq_getLast?,List.getLast?_eq_some_getLast e];rfl
 refine⟨h0,?_,e2⟩;rw[<- List.getLast?_eq_getElem?];exact e2
theorem GW.wk{f:Nat->VY}{s:Int}{w:VY}(h:GW f s w):Wk f s (w.getLastD 0) (w.length-1):=Qs h.1 h.2 _ _ (by rw[Nat.zero_add];exact h.last.2.1)
theorem GW.snoc{f:Nat->VY}{s:Int}{w:VY}(h:GW f s w){b:Int}(hb:b∈f (w.getLastD 0).toNat):GW f s (w++[b]):=by
 refine⟨Jmq h.1 fun x hx=>?_,?_⟩
 ·rw [h.last.2.2] at hx;cases hx;exact hb
 ·rw [List.getElem?_append_left h.last.1];exact h.2
structure BI(f:Nat->VY)(s:Int)(D:VX)(W P:List (VY)):Prop where
 nd:D.Nodup
 gw:∀w∈P++W,GW f s w
 mem:∀q,q∈D↔∃w∈P++W,kyO w=q
 so:(P++W).Pairwise fun a b=>a.length<=b.length
 le:∀w V,W=w::V->∀v∈V,v.length<=w.length+1
 pr:∀w∈P,∀b∈f (w.getLastD 0).toNat,¬ (b=s/\oP w=1)/\∃v∈P++W,kyO v=(b,oP w)/\v.length<=w.length+1
 st:[s]∈P++W
theorem BI.start(f:Nat->VY)(s:Int):BI f s [(s,0)] [[s]] []:=by
 refine⟨SV _ _,fun w hw=>?_,fun q=>?_,SV _ _,fun w V e v hv=>?_,fun w hw=>(nomatch hw),SG⟩
 ·rw [List.mem_singleton.mp hw];exact⟨fun k x y _ h2=>by simp at h2,rfl⟩
 ·constructor
  ·intro h;rw[List.mem_singleton.mp h];exact⟨[s],SG,Jea s⟩
  ·rintro ⟨w,hw,rfl⟩;rw[List.mem_singleton.mp hw,Jea];exact SG
 ·cases e;cases hv
theorem BI.next{f:Nat->VY}{s:Int}{D:VX}{W P:List (VY)}{w:VY}(h:BI f s D (w::W) P){D':VX}{W':List (VY)}(e:obIn s w (oP w) (f (w.getLastD 0).toNat) D W=some (D',W')):BI f s D' W' (P++[w]):=by
 obtain⟨N,rfl,rfl,nd',hN,hL⟩:=Ue h.nd e;have eq1:(P++[w])++(W++N)=(P++w::W)++N:=by simp
 have gw:=h.gw w (SB _ SG);have lN:∀v∈N,v.length=w.length+1:=fun v hv=>by obtain⟨b,_,rfl⟩:=hN v hv;rw[List.length_append];rfl
 have lA:∀v∈P++w::W,v.length<=w.length+1:=fun v hv=>by
  rcases SS.mp hv with z|z
  ·have:=(List.pairwise_append.mp h.so).2.2 v z w SG;omega
  ·rcases List.mem_cons.mp z with rfl | z
   ·omega
   ·exact h.le w W rfl v z
 have mem':∀q,q∈D++N.map kyO↔∃v∈(P++w::W)++N,kyO v=q:=fun q=>by
  rw[List.mem_append,h.mem];constructor
  ·rintro (⟨v,hv,e⟩ | h)
   ·exact ⟨v,List.mem_append_left _ hv,e⟩
   ·obtain ⟨v,hv,e⟩:=SL.mp h;exact⟨v,SB _ hv,e⟩
  ·rintro ⟨v,hv,rfl⟩;rcases SS.mp hv with z|z
   ·exact .inl ⟨v,z,rfl⟩
   ·exact .inr (SL.mpr ⟨v,z,rfl⟩)
 refine⟨nd',fun v hv=>?_,fun q=>by rw[eq1];exact mem' q,?_,fun x V ev v hv=>?_,fun v hv b hb=>?_,?_⟩
 ·rw [eq1] at hv;rcases SS.mp hv with z|z
  ·exact h.gw v z
  ·obtain ⟨b,hb,rfl⟩:=hN v z;exact gw.snoc hb
 ·rw [eq1];refine List.pairwise_append.mpr ⟨h.so,?_,fun a ha b hb=>?_⟩
  ·refine List.pairwise_iff_getElem.mpr fun i j hi hj _=>?_;rw[lN _ (List.getElem_mem _),lN _ (List.getElem_mem _)];exact SJ _
  ·rw [lN b hb];exact lA a ha
 ·have hx:x∈W++N:=by rw [ev]; exact SG
  have hv':v∈W++N:=by rw[ev];exact SD _ hv
  have l1:v.length<=w.length+1:=by
   rcases SS.mp hv' with z|z
   ·exact lA v (SB _ (SD _ z))
   ·rw [lN v z];omega
  have l2:w.length<=x.length:=by
   rcases SS.mp hx with z|z
   ·have:=(List.pairwise_append.mp h.so).2.1;exact(List.pairwise_cons.mp this).1 x z
   ·rw [lN x z];omega
  omega
 ·rw [eq1];rcases SS.mp hv with z|z
  ·obtain ⟨c1,u,hu,c2,c3⟩:=h.pr v z b hb;exact⟨c1,u,List.mem_append_left _ hu,c2,c3⟩
  ·rw [List.mem_singleton] at z;subst z;obtain⟨c1,c2⟩:=hL b hb;refine⟨c1,?_⟩;obtain⟨u,hu,e⟩:=(mem' _).mp c2;refine⟨u,hu,e,?_⟩;rcases SS.mp hu with z|z
   ·exact lA u z
   ·rw [lN u z];omega
 ·rw [eq1];exact List.mem_append_left _ h.st
theorem BI.near{f:Nat->VY}{s:Int}{D:VX}{W P:List (VY)}(h:BI f s D W P){l:Nat}(hl:∀w∈W,l<w.length){x:Int}{k:Nat}(hw:Wk f s x k):k<=l->∃w∈P++W,kyO w=(x,((k%2:Nat):Int))/\w.length<=k+1:=by
 induction hw with
 | refl=>exact fun _=>⟨[s],h.st,Jea s,SJ _⟩
 | @step q b k _ e ih =>
  intro hk;obtain⟨w,hw,e1,e2⟩:=ih (by omega);have hp:w∈P:=by
   rcases SS.mp hw with z|z
   ·exact z
   ·have:=hl w z;omega
  have e3:w.getLastD 0=q:=congrArg Prod.fst e1;have e4:(((w.length+1)%2:Nat):Int)=((k%2:Nat):Int):=congrArg Prod.snd e1;obtain⟨_,v,hv,g1,g2⟩:=h.pr w hp b (by rw[e3];exact e);refine⟨v,hv,?_,by omega⟩;rw[g1];unfold oP;refine Prod.ext rfl ?_;show((w.length%2:Nat):Int)=_;omega
theorem BI.far{f:Nat->VY}{s:Int}{D:VX}{W P:List (VY)}(h:BI f s D W P){l:Nat}(hl:∀w∈W,l<w.length){k:Nat}(hw:Wk f s s k)(hk:k<=l):k%2≠1:=fun ho=>by
 cases hw with
 | refl=>exact absurd ho (by decide)
 | @step q _ k hq e =>
  obtain⟨w,hw,e1,e2⟩:=h.near hl hq (by omega);have hp:w∈P:=by
   rcases SS.mp hw with z|z
   ·exact z
   ·have:=hl w z;omega
  have e3:w.getLastD 0=q:=congrArg Prod.fst e1;have e4:(((w.length+1)%2:Nat):Int)=((k%2:Nat):Int):=congrArg Prod.snd e1;refine(h.pr w hp s (by rw[e3];exact e)).1 ⟨rfl,?_⟩;unfold oP;omega
structure OW(f:Nat->VY)(s:Int)(w:VY):Prop where
 gw:GW f s w
 ls:s∈f (w.getLastD 0).toNat
 od:w.length%2=1
 mn:∀k,Wk f s s k->k%2=1->w.length<=k
def OB(f:Nat->VY)(s:Int):Option (VY)->Prop
 | none=>∀ k,Wk f s s k->k % 2≠1
 | some w=>OW f s w
theorem BI.rng{f:Nat->VY}{n:Nat}(hf:∀p:Nat,∀b∈f p,0<=b/\b<n){s:Int}(hs:0<=s/\s<n){D:VX}{W P:List (VY)}(h:BI f s D W P):∀q∈D,(0<=q.1/\q.1<n)/\(q.2=0\/q.2=1):=fun q hq=>by obtain⟨w,hw,rfl⟩:=(h.mem q).mp hq;have r:=(h.gw w hw).wk.rc2.rch;refine⟨WK hf hs r,?_⟩;show(((w.length+1)%2:Nat):Int)=0\/(((w.length+1)%2:Nat):Int)=1;omega
theorem BI.found{f:Nat->VY}{s:Int}{D:VX}{W P:List (VY)}{w:VY}(h:BI f s D (w::W) P)(hs:s∈f (w.getLastD 0).toNat)(ho:oP w=1):OW f s w:=by
 have gw:=h.gw w (SB _ SG);have l1:=gw.last.1;refine⟨gw,hs,by unfold oP at ho;omega,fun k hk ko=>?_⟩;refine Classical.byContradiction fun z=>?_;refine h.far (l:=w.length-1) (fun v hv=>?_) hk (by omega) ko;rcases List.mem_cons.mp hv with rfl|hv
 ·omega
 ·have:=(List.pairwise_cons.mp (List.pairwise_append.mp h.so).2.1).1 v hv;omega
theorem BI.empty{f:Nat->VY}{s:Int}{D:VX}{P:List (VY)}(h:BI f s D [] P):OB f s none:=fun k hk=>h.far (l:=k) (fun _ z=>nomatch z) hk (SJ _)
theorem Jfn{f:Nat->VY}{n:Nat}(hf:∀p:Nat,∀b∈f p,0<=b/\b<n){s:Int}(hs:0<=s/\s<n):∀(k:Nat)(D:VX)(W P:List (VY)),BI f s D W P->2*n+W.length<=k+D.length->OB f s (QW f s k D W)
 | 0,D,W,P,h,hk=>by have:=Jas h.nd (h.rng hf hs);have e:W=[]:=List.length_eq_zero_iff.mp (by omega);subst e;exact h.empty
 | k + 1,D,[],P,h,hk=>h.empty
 | k + 1,D,w::W,P,h,hk=>by
  unfold QW;split
  ·rename_i e;obtain⟨h1,h2⟩:=ZU e;exact h.found h1 h2
  ·rename_i D' W' e;have nx:=h.next e
   obtain⟨N,rfl,rfl,_⟩:=Ue h.nd e;refine Jfn hf hs k _ _ _ nx ?_;rw[List.length_append,List.length_append,List.length_map];rw[List.length_cons]at hk;omega
theorem Jdu{f:Nat->VY}{n:Nat}(hf:∀p:Nat,∀b∈f p,0<=b/\b<n){s:Int}(hs:0<=s/\s<n):OB f s (oddW f n s):=Jfn hf hs _ _ _ _ (BI.start f s) (SJ _)
theorem Jrr{f:Nat->VY}{n:Nat}(hf:∀p:Nat,∀b∈f p,(0<=b/\b<n)/\b≠(p:Int)){s:Int}(hs:0<=s/\s<n){R:VY}(h:OW f s R)(mn:∀x:Int,0<=x->x<n->∀k,Wk f x x k->k%2=1->R.length<=k):Jkk f R/\(∀x∈R,0<=x/\x<n)/\R.length<=n:=by
 obtain⟨l1,l2,l3⟩:=h.gw.last;have rg:∀x∈R,0<=x/\x<n:=fun x hx=>by obtain⟨i,hi⟩:=List.mem_iff_getElem?.mp hx;exact WK (fun p b hb=>(hf p b hb).1) hs (Qs h.gw.1 h.gw.2 i x (by rw[Nat.zero_add];exact hi)).rc2.rch
 have nd:R.Nodup:=by
  refine List.pairwise_iff_getElem.mpr fun i j hi hj hij e=>?_;have ei:=SN hi;have ej:=SN hj;rw[<- e]at ej;have w1:Wk f R[i] R[i] (j-i):=Qs h.gw.1 ei (j-i) _ (by rw[show i+(j-i)=j by omega];exact ej);have w0:Wk f s R[i] i:=Qs h.gw.1 h.gw.2 i _ (by rw[Nat.zero_add];exact ei);have w2:Wk f R[i] (R.getLastD 0) (R.length-1-j):=Qs h.gw.1 ej _ _ (by rw[show j+(R.length-1-j)=R.length-1 by omega];exact l2);have w3:=(w0.trans w2).step h.ls;have od:=h.od;by_cases c:(j-i)%2=1
  ·have:=mn R[i] (rg _ (LV _)).1 (rg _ (LV _)).2 _ w1 c;omega
  ·have:=h.mn _ w3 (by omega);omega
 refine⟨⟨?_,nd,fun k hk x y hx hy=>?_⟩,rg,ZV nd rg⟩
 ·refine Classical.byContradiction fun z=>?_;have e1:R.length=1:=by omega
  have e2:R.getLastD 0=s:=by rw[e1]at l2;have:=h.gw.2;rw[show 1-1=0 from rfl,this]at l2;exact(Option.some.inj l2).symm
  have:=h.ls;rw[e2]at this;exact(hf _ _ this).2 (by omega)
 ·by_cases c:k + 1 < R.length
  ·rw [Nat.mod_eq_of_lt c] at hy;exact h.gw.1 k x y hx hy
  ·have e:k + 1=R.length:=by omega
   rw[e,Nat.mod_self,h.gw.2]at hy;cases hy;rw[show k=R.length-1 by omega,l2]at hx;cases hx;exact h.ls
end Hk
namespace Hk
open PySem L2 PySem.W
theorem tpiM{H H':Hp}{zs:VS}{L:List (VY)}(h:Tpi H zs L)(s:Same H H'):Tpi H' zs L:=Paired.mapP h fun _ _ ⟨p,e,z⟩=>⟨p,e,s _ _ z⟩
theorem Jkx{a R:TS}{D:Ends}{σ:St}{H:Hp}(Inv:St->Hp->Prop)(h:∀D':Ends,D'.rt=D.rt->(∀σ H,Inv σ H->D'.nx σ H)->a D' σ H)(hk:∀σ H,Inv σ H->R D σ H):tSeq a R D σ H:=h _ rfl hk
def OwV(H:Hp)(v:V):Option (VY)->Prop
 | none=>v=.non
 | some w=>∃ t,v=.ref t/\H t=some (.tup (w.map V.int))
theorem OwV.mono{H H':Hp}{v:V}{o:Option (VY)}(h:OwV H v o)(s:Same H H'):OwV H' v o:=by
 cases o with
 | none=>exact h
 | some w =>
  obtain⟨t,e,z⟩:=h;exact⟨t,e,s _ _ z⟩
theorem Jci{s:Int}{way:VY}{o b:Int}{L:VY}{D:VX}{W:List (VY)}:obIn s way o (b::L) D W=if b=s/\o=1 then none else if (b,o)∈D then obIn s way o L D W else obIn s way o L (D++[(b,o)]) (W++[way++[b]]):=rfl
theorem oP_01(w:VY):oP w=0\/oP w=1:=by unfold oP;omega
section
variable{P:VC}{w:VF}{K:Frag}{mg:VZ}{base:Heap}
def Jtc:Sp:=fun vs H Q _=>∃(l:VB)(rows:List VB)(f:Nat->VY)(s:Int),vs=[.ref l,.int s]/\LL H l rows f/\rows.length<=40/\(0<=s/\s<(rows.length:Nat))/\(∀p:Nat,∀b∈f p,0<=b/\b<(rows.length:Nat)) /\
 ∀(v:V) H',Same H H'->OwV H' v (oddW f rows.length s)->Q v H'
theorem Jvr(D:DefAt K mg "odd_way_back" Zq ["leads","start"])(fr:Free mg ["len"]):Kn P w K mg base 1 "odd_way_back" ["leads","start"] Jtc:=by
 have sc:FnScope ["leads","start","seen","waiting","way","odd","b"] ["leads","start"] (Jh Zq):=⟨rfl,rfl,rfl,by decide +kernel,rfl,by decide +kernel,by decide +kernel⟩;refine D.kn (N:=["leads","start","seen","waiting","way","odd","b"]) sc (fun vs H Q E h=>?_) (fun fa cdv A outer s H vs Q E hr h=>?_)
 ·obtain ⟨l,rows,f,s,rfl,_⟩:=h;rfl
 ·obtain ⟨l,rows,f,s,rfl,ll,n40,hs,hf,kk⟩:=h;have hu:=YI hr;have m_len:=fr "len" (by simp);refine⟨_,(Jd (Jr (i:=2) sc.nd rfl (Or.inl rfl) (Jnv hu (JI (Ja (pv 1) (Ja Jf Jb))) JG)) (Jd (Jr (i:=3) sc.nd rfl (Or.inl rfl) (JP (Ja (JI (Ja (pv 1) Jb)) Jb))) (Jd (WM PassesOwn.never (Jo (UX (Nat.lt_of_succ_lt hu)) (pv 3) (JP Jb) (Jn _)) (Jd (Jr (i:=4) sc.nd rfl (Or.inl rfl) (QQ PySem.F.plainAttrs_list PySem.F.slot_list_pop PySem.F.type_list_pop Joe (pv 3) (Ja Jf Jb))) (Jd (Jr (i:=5) sc.nd rfl (Or.inl rfl) (JD Wo (Jm Ju rfl m_len PySem.boot_len (Ja (pv 4) Jb)) Jf)) (Je (YL PassesOwn.never rfl (JQ (Jv JB (pv 0) (Jv Jz (pv 4) (pe_un Jtt Jf) (fun _ _=>rfl)) (fun _ _=>rfl))) (Jp (i:=6) sc.nd rfl (Or.inl rfl)) (Jd (JA (PW.pt (Wi (Jo Yz (pv 6) (pv 1) (Jn _)) (Zl (Jo Yz (pv 5) Jf (Jn _))))) (Je (Ji (pv 4))) Jt) (Je (JA (UG (Uc hu (JI (Ja (pv 6) (Ja (pv 5) Jb))) (pv 2))) (Jd (Zx hu (pv 2) (JI (Ja (pv 6) (Ja (pv 5) Jb))) JG rfl) (Je (YE (QQ PySem.F.plainAttrs_list PySem.F.slot_list_append PySem.F.type_list_append ZW (pv 3) (Ja (JD YZ (pv 4) (JI (Ja (pv 6) Jb))) Jb))))) Jt)))))))) (Je (Ji Yr))))),?_⟩;have c0:0<=sizeLine:=by decide
  have c1:1<=sizeLine:=by decide
  have c2:2<=sizeLine:=by decide
  have sl:1000<=sizeLine:=by decide
  -- seen
  refine fun d hd=>⟨_,rfl,c2,fun b1 hb1=>⟨_,_,rfl,Same.upd hb1 _ _ Jc,b1,JF (s,0),rfl,by rw[Jar];exact Jc,?_⟩⟩;have hb1d:b1≠d:=fun z=>by rw[z,Jc]at hb1;cases hb1
  have hb1N:H b1=none:=by rw[Jj hb1d]at hb1;exact hb1
  have s2:Same H (upd (upd (upd H d (.dT [])) b1 (.tup [.int s,.int 0])) d (.dT [(JF (s,0),.bl true)])):=fun b o e=>by rw[Jj (Jg e hd),Jj (Jg e hb1N),Jj (Jg e hd)];exact e
  have hd2:(upd (upd (upd H d (.dT [])) b1 (.tup [.int s,.int 0])) d (.dT [(JF (s,0),.bl true)])) d=some (.dT [(JF (s,0),.bl true)]):=Jc;show Wu 2 (.ref d) _ (upd (upd (upd H d (.dT [])) b1 (.tup [.int s,.int 0])) d (.dT [(JF (s,0),.bl true)])) _;generalize upd (upd (upd H d (.dT [])) b1 (.tup [.int s,.int 0])) d (.dT [(JF (s,0),.bl true)])=H2 at s2 hd2;refine Jw ?_;dsimp only[List.set]
  -- waiting
  refine⟨_,rfl,c1,fun b2 hb2=>⟨c1,fun y hy=>?_⟩⟩;have s3':=(Same.upd (o:=.tup [.int s]) hb2).trans (Same.upd (o:=.lst [.ref b2]) hy);have s3:=s2.trans s3';have hd3:=s3' _ _ hd2;have hy3:(upd (upd H2 b2 (.tup [.int s])) y (.lst [.ref b2])) y=some (.lst [.ref b2]):=Jc;have tp3:Tpi (upd (upd H2 b2 (.tup [.int s])) y (.lst [.ref b2])) [.ref b2] [[s]]:=.cons ⟨b2,rfl,Same.upd hy _ _ Jc⟩ .nil;have hyN:H y=none:=UH (s2.trans (Same.upd (o:=.tup [.int s]) hb2)) hy;have ndy:d≠y:=fun z=>by have:=Same.upd (o:=.tup [.int s]) hb2 _ _ hd2;rw[z,hy]at this;cases this
  generalize upd (upd H2 b2 (.tup [.int s])) y (.lst [.ref b2])=H3 at s3 hd3 hy3 tp3;refine Jw ?_;dsimp only[List.set];refine⟨fun μ σ H4=>∃(kvs:List (List Key×V))(D:VX)(W P:List (VY))(ws:VS)(v4 v5 v6:Option V),σ=[some (.ref l),some (.int s),some (.ref d),some (.ref y),v4,v5,v6]/\Same H H4/\H4 d=some (.dT kvs)/\H4 y=some (.lst ws)/\Tpi H4 ws W/\PD kvs D/\BI f s D W P/\2*rows.length+W.length<=μ+D.length/\μ<=2*rows.length/\(∀w∈W,w.length<=D.length)/\QW f s μ D W=oddW f rows.length s,⟨2*rows.length,[(JF (s,0),.bl true)],[(s,0)],[[s]],[],_,_,_,_,rfl,s3,hd3,hy3,tp3,PD.one _ _,BI.start f s,SJ _,SJ _,fun w hw=>by rw[List.mem_singleton.mp hw];exact SJ _,rfl⟩,?_⟩;rintro μ σ H4 ⟨kvs,D,W',P,ws,v4,v5,v6,rfl,s4,hd4,hy4,tp4,pd,bi,fu,mu,wl,run⟩;have lD:=Jas bi.nd (bi.rng hf hs);refine⟨_,rfl,c0,fun z hz=>?_⟩;have sz:=Same.upd (o:=.lst []) hz;have s4z:=s4.trans sz;have hd4z:=sz _ _ hd4;have hy4z:=sz _ _ hy4;have tp4z:=tpiM tp4 sz;refine⟨y,z,_,rfl,rfl,SqL.of hy4z,SqL.of Jc,_,rfl,?_⟩;generalize upd H4 z (.lst [])=H5 at s4z hd4z hy4z tp4z;have lws:ws.length=W'.length:=Paired.length tp4;refine ite2 (fun c=>?_) (fun c=>?_)
  ·cases tp4z with
   | nil=>exact absurd c (by decide)
   | @cons wl0 way ws' W2 hq tp5 =>
    obtain⟨r,rfl,hr5⟩:=hq;obtain⟨k,rfl⟩:∃k,μ=k+1:=⟨μ-1,by rw[List.length_cons]at fu;omega⟩;have gw:=bi.gw way (SB _ SG);obtain⟨wl1,wl2,wl3⟩:=gw.last;have wlD:=wl way SG;have fu':=fu;rw[List.length_cons]at fu';have hq0:0<=way.getLastD 0/\way.getLastD 0<(rows.length:Nat):=WK hf hs gw.wk.rc2.rch;refine⟨fun σ' H'=>∃μ',μ'<k+1/\∃(kvs:List (List Key×V))(D:VX)(W P:List (VY))(ws:VS)(v4 v5 v6:Option V),σ'=[some (.ref l),some (.int s),some (.ref d),some (.ref y),v4,v5,v6]/\Same H H'/\H' d=some (.dT kvs)/\H' y=some (.lst ws)/\Tpi H' ws W/\PD kvs D/\BI f s D W P/\2*rows.length+W.length<=μ'+D.length/\μ'<=2*rows.length/\(∀w∈W,w.length<=D.length)/\QW f s μ' D W=oddW f rows.length s,fun _ _ z=>z,?_⟩
    -- way=waiting.pop(0)
    refine⟨_,rfl,.inl ⟨rfl,_,SqL.of hy4z⟩,y,_,0,0,.ref r,rfl,rfl,hy4z,by decide,by decide,?_,rfl,?_⟩
    ·rw [List.length_cons];unfold seqIndex?;simp
    have s5:Same H (upd H5 y (.lst ws')):=fun b o e=>by rw[Jj (Jg e hyN)];exact s4z _ _ e
    have hd5:(upd H5 y (.lst ws')) d=some (.dT kvs):=by rw[Jj ndy];exact hd4z
    have hy5:(upd H5 y (.lst ws')) y=some (.lst ws'):=Jc;have tup5:∀{c:VB}{xs:VS},H5 c=some (.tup xs)->(upd H5 y (.lst ws')) c=some (.tup xs):=fun {c xs} e=>by rw[Jj (Wt e hy4z (fun z=>nomatch z))];exact e
    have hr6:=tup5 hr5;have tp6:Tpi (upd H5 y (.lst ws')) ws' W2:=Paired.mapP tp5 fun _ _ ⟨p,e,z⟩=>⟨p,e,tup5 z⟩;show Wu 4 (.ref r) _ (upd H5 y (.lst ws')) _;generalize upd H5 y (.lst ws')=H6 at s5 hd5 hy5 hr6 tp6;refine Jw ?_;dsimp only[List.set]
    -- odd=len(way)%2
    refine⟨_,rfl,r,_,rfl,.inr (SqT.of hr6),_,_,rfl,rfl,(by show(0:Int)<2;decide),?_⟩;have eo:((((way.map V.int).length:Nat):Int)%2)=oP way:=by rw[List.length_map];unfold oP;omega
    show Wu 5 (.int ((((way.map V.int).length:Nat):Int)%2)) _ _ _;rw[eo];refine Jw ?_;dsimp only[List.set]
    -- for b in leads[way[-1]]
    obtain⟨j,ej⟩:∃j:Nat,way.getLastD 0=(j:Int):=⟨(way.getLastD 0).toNat,by omega⟩;have hj:j<rows.length:=by omega
    have er:rows[j]?=some rows[j]:=SN hj;have hrow:=(ll.mono s5).row j _ er;have etop:=(ll.mono s5).top;have ewy:way.map V.int=(way.dropLast.map V.int)++[V.int (j:Int)]:=by
     have ne:way≠[]:=fun z=>by rw[z]at wl1;exact absurd wl1 (by decide)
     have e0:=wl3;rw[List.getLast?_eq_some_getLast ne]at e0;have e1:way.dropLast++[way.getLast ne]=way:=List.dropLast_concat_getLast ne;rw[Option.some.inj e0,ej]at e1;conv=>lhs;rw[<- e1]
     rw[List.map_append];rfl
    have hf':f (way.getLastD 0).toNat=f j:=by rw[ej,Int.toNat_natCast]
    refine⟨_,rfl,_,rfl,_,rfl,r,_,_,V.int (j:Int),rfl,rfl,SqT.of hr6,by rw[ewy];exact Jqj _ _,l,_,_,_,rfl,rfl,SqL.of etop,JS (j:=j) (by rw[List.getElem?_map,er];rfl),?_⟩;refine⟨rows[j],rfl,⟨_,SqL.of hrow⟩,Jge (K:=K) (xs:=(f j).map V.int) (fun u σ H8=>∃(kvs2:List (List Key×V))(D2:VX)(Q2:List (VY))(ws2:VS)(v6:Option V),σ=[some (.ref l),some (.int s),some (.ref d),some (.ref y),some (.ref r),some (.int (oP way)),v6]/\Same H H8/\H8 r=some (.tup (way.map V.int))/\H8 d=some (.dT kvs2)/\H8 y=some (.lst ws2)/\Tpi H8 ws2 Q2/\PD kvs2 D2/\(∀q∈D2,(0<=q.1/\q.1<(rows.length:Nat))/\(q.2=0\/q.2=1))/\Q2.length+D.length=D2.length+W2.length/\D.length<=D2.length/\(∀w∈Q2,w.length<=D2.length)/\obIn s way (oP way) ((f j).drop u) D2 Q2=obIn s way (oP way) (f j) D W2) ⟨kvs,D,W2,ws',_,rfl,s5,hr6,hd5,hy5,tp6,pd,bi.rng hf hs,Nat.add_comm _ _,SJ _,fun w hw=>wl w (SD _ hw),rfl⟩ (fun u σ H8 _ ⟨_,_,_,_,_,_,s8,_⟩=>SqL.of ((ll.mono s8).row j _ er)) ?_ ?_⟩
    ·rintro u x σ H8 hx ⟨kvs2,D2,Q2,ws2,v6,rfl,s8,hr8,hd8,hy8,tp8,pd2,rg2,ln2,le2,wl2',ob⟩;rw[List.getElem?_map]at hx;obtain⟨b,hb',rfl⟩:=SX.mp hx;have hbm:=SK hb';obtain⟨ul,ue⟩:=SY.mp hb';have dr:(f j).drop u=b::(f j).drop (u+1):=by rw[<- ue];exact List.drop_eq_getElem_cons ul
     rw[dr]at ob;have lD2:=Jas pd2.nd rg2;refine Jkx (a:=tIfS _ _ _) (fun σ H'=>σ=[some (.ref l),some (.int s),some (.ref d),some (.ref y),some (.ref r),some (.int (oP way)),some (.int b)]/\H'=H8/\¬ (b=s/\oP way=1)) (fun D' ert nx1=>?_) ?_
     ·refine ⟨_,rfl,_,rfl,rfl,_,rfl,ite2 (fun c1=>?_) (fun c1=>?_)⟩
      ·refine ⟨_,rfl,rfl,_,rfl,ite2 (fun c2=>?_) (fun c2=>?_)⟩
       ·have e1:b=s:=V.int.inj (of_decide_eq_true c1);have e2:oP way=1:=V.int.inj (of_decide_eq_true c2);refine⟨_,rfl,?_⟩;rw[ert];refine kk _ H8 s8 ?_;rw[<- run];unfold QW;rw[hf',<- ob];rw[Jci,if_pos ⟨e1,e2⟩];exact⟨r,rfl,hr8⟩
       ·exact nx1 _ _ ⟨rfl,rfl,fun z=>c2 (decide_eq_true (congrArg V.int z.2))⟩
      ·exact ite2 (fun z=>nomatch z) (fun _=>nx1 _ _ ⟨rfl,rfl,fun z=>c1 (decide_eq_true (congrArg V.int z.1))⟩)
     rintro σ H9 ⟨rfl,rfl,nf⟩;rw[Jci,if_neg nf]at ob
     -- (b,odd) not in seen
     refine⟨_,rfl,_,rfl,c2,fun t1 ht1=>?_⟩;have s9:=Same.upd (o:=.tup [.int b,.int (oP way)]) ht1;have ht9:(upd H9 t1 (.tup [.int b,.int (oP way)])) t1=some (.tup ((JF (b,oP way)).map kV)):=by rw[Jar];exact Jc
     have hd9:=s9 _ _ hd8;have hy9:=s9 _ _ hy8;have hr9:=s9 _ _ hr8;have tp9:=tpiM tp8 s9;have s9':=s8.trans s9;generalize upd H9 t1 (.tup [.int b,.int (oP way)])=HA at s9 ht9 hd9 hy9 hr9 tp9 s9';refine⟨_,rfl,d,_,rfl,DGet.t (k:=JF (b,oP way)) hd9 ht9,_,rfl,?_⟩;rw[pd2.mem];refine ite2 (fun c2'=>?_) (fun c2'=>?_)
     ·have c2':(b,oP way) ∉ D2:=by simpa using c2'
      rw[if_neg c2']at ob;have pd3:=pd2.put c2' (.bl true);have rg3:∀q∈D2++[(b,oP way)],(0<=q.1/\q.1<(rows.length:Nat))/\(q.2=0\/q.2=1):=fun q hq=>by
       rcases SS.mp hq with z|z
       ·exact rg2 q z
       ·rw [List.mem_singleton.mp z];exact⟨hf j b hbm,oP_01 way⟩
      have lk:=pd2.len;have lws2:ws2.length=Q2.length:=Paired.length tp9
      -- seen[b,odd]=True
      refine⟨_,rfl,_,rfl,_,rfl,c2,fun t2 ht2=>?_⟩;have s10:=Same.upd (o:=.tup [.int b,.int (oP way)]) ht2;have ht10:(upd HA t2 (.tup [.int b,.int (oP way)])) t2=some (.tup ((JF (b,oP way)).map kV)):=by rw[Jar];exact Jc
      have hd10:=s10 _ _ hd9;have hy10:=s10 _ _ hy9;have hr10:=s10 _ _ hr9;have tp10:=tpiM tp9 s10;have s10':=s9'.trans s10;generalize upd HA t2 (.tup [.int b,.int (oP way)])=H10 at s10 ht10 hd10 hy10 hr10 tp10 s10';refine⟨d,_,rfl,DPut.t (k:=JF (b,oP way)) (v:=.bl true) hd10 ht10 (Jk (by omega)),?_⟩;have keepd:∀{c:VB}{o:HO},c≠d->H10 c=some o->(upd H10 d (.dT (putK kvs2 (JF (b,oP way)) (.bl true)))) c=some o:=fun {c o} nc e=>by rw[Jj nc];exact e
      have hy11:=keepd (Ne.symm ndy) hy10;have hr11:=keepd (Wt hr10 hd10 (fun z=>nomatch z)) hr10;have hd11:(upd H10 d (.dT (putK kvs2 (JF (b,oP way)) (.bl true)))) d=some (.dT (putK kvs2 (JF (b,oP way)) (.bl true))):=Jc;have s11:Same H (upd H10 d (.dT (putK kvs2 (JF (b,oP way)) (.bl true)))):=fun c o e=>keepd (Jg e hd) (s10' _ _ e);have tp11:Tpi (upd H10 d (.dT (putK kvs2 (JF (b,oP way)) (.bl true)))) ws2 Q2:=Paired.mapP tp10 fun _ _ ⟨p,e,z⟩=>⟨p,e,keepd (Wt z hd10 (fun z=>nomatch z)) z⟩;generalize upd H10 d (.dT (putK kvs2 (JF (b,oP way)) (.bl true)))=H11 at hy11 hr11 hd11 s11 tp11
      -- waiting.append(way+(b,))
      refine⟨_,rfl,.inl ⟨rfl,_,SqL.of hy11⟩,_,rfl,_,rfl,c1,fun t3 ht3=>?_⟩;have s12:=Same.upd (o:=.tup [.int b]) ht3;refine⟨r,t3,_,_,rfl,rfl,s12 _ _ hr11,Jc,?_,fun t4 H12 s13 ht4=>?_⟩
      ·rw [List.length_map];show way.length+1<=sizeLine;omega
      have s14:=s12.trans s13;have hy12:=s14 _ _ hy11;have hd12:=s14 _ _ hd11;have hr12:=s14 _ _ hr11;have tp12:=tpiM tp11 s14;have s12':=s11.trans s14;refine⟨y,_,_,rfl,rfl,hy12,Yp (by omega),?_⟩;have tupE:∀{c:VB}{xs:VS},H12 c=some (.tup xs)->(upd H12 y (.lst (ws2++[.ref t4]))) c=some (.tup xs):=fun {c xs} e=>by rw[Jj (Wt e hy12 (fun z=>nomatch z))];exact e
      refine⟨putK kvs2 (JF (b,oP way)) (.bl true),D2++[(b,oP way)],Q2++[way++[b]],ws2++[.ref t4],_,rfl,fun c o e=>?_,tupE hr12,?_,Jc,?_,pd3,rg3,?_,?_,fun v hv=>?_,ob⟩
      ·rw [Jj (Jg e hyN)];exact s12' _ _ e
      ·rw [Jj ndy];exact hd12
      ·refine Paired.snoc (Paired.mapP tp12 fun _ _ ⟨p,e,z⟩=>⟨p,e,tupE z⟩) ⟨t4,rfl,?_⟩;rw[List.map_append];exact tupE ht4
      ·rw [List.length_append,List.length_append,List.length_singleton,List.length_singleton];omega
      ·rw [List.length_append];omega
      ·rw [List.length_append,List.length_singleton];rcases SS.mp hv with z|z
       ·have:=wl2' v z;omega
       ·rw [List.mem_singleton.mp z,List.length_append,List.length_singleton];omega
     ·have c2':(b,oP way)∈D2:=by simpa using c2'
      rw[if_pos c2']at ob;exact⟨kvs2,D2,Q2,ws2,_,rfl,s9',hr9,hd9,hy9,tp9,pd2,rg2,ln2,le2,wl2',ob⟩
    ·rintro σ H8 ⟨kvs2,D2,Q2,ws2,v6,rfl,s8,hr8,hd8,hy8,tp8,pd2,rg2,ln2,le2,wl2',ob⟩;rw[List.length_map,List.drop_of_length_le (Nat.le_refl _)]at ob;have ob':obIn s way (oP way) (f (way.getLastD 0).toNat) D W2=some (D2,Q2):=by
      rw[hf',<- ob];rfl
     rw[List.length_cons]at fu;refine⟨k,Nat.lt_succ_self _,kvs2,D2,Q2,P++[way],ws2,_,_,_,rfl,s8,hd8,hy8,tp8,pd2,bi.next ob',by omega,by omega,wl2',?_⟩;rw[<- run];conv=>rhs;unfold QW
     rw[ob']
  ·have we:W'=[]:=by
    cases ws with
    | nil=>exact List.length_eq_zero_iff.mp lws.symm
    | cons x r=>exact absurd rfl c
   subst we;refine kk _ _ s4z ?_;rw[<- run];cases μ<;>exact rfl
end
def orO(f:Nat->VY)(n k:Nat):List (Option (VY)):=(plI k).map (oddW f n)
def orL(f:Nat->VY)(n:Nat):List (VY):=(orO f n n).filterMap id
def IsOR(f:Nat->VY)(n:Nat):Option (VY)->Prop
 | none=>orL f n=[]
 | some R=>∃ i,(orL f n)[i]?=some R/\QM (fun j=>((orL f n).getD j []).length) i ((orL f n).length - 1)
theorem Jdx{f:Nat->VY}{n:Nat}{R:VY}:R∈orL f n↔∃s:Int,(0<=s/\s<n)/\oddW f n s=some R:=by
 unfold orL orO;rw[List.mem_filterMap];constructor
 ·rintro ⟨o,ho,e⟩;obtain⟨s,hs,rfl⟩:=SL.mp ho;exact⟨s,Yk.mp hs,e⟩
 ·rintro ⟨s,hs,e⟩;exact⟨_,SL.mpr ⟨s,Yk.mpr hs,rfl⟩,e⟩
def OrOk(f:Nat->VY)(n:Nat):Option (VY)->Prop
 | none=>¬ ∃ s:Int,0<=s/\s < n/\Rc2 f s s 1
 | some R=>Jkk f R/\(∀ x∈R,0<=x/\x < n)/\R.length<=n/\R.length % 2=1
theorem IsOR.ok{f:Nat->VY}{n:Nat}(hf:∀p:Nat,∀b∈f p,(0<=b/\b<n)/\b≠(p:Int)):∀{o:Option (VY)},IsOR f n o->OrOk f n o
 | none,h=>fun ⟨s,h0,h1,r⟩=>by
  have ok:=Jdu (fun p b hb=>(hf p b hb).1) (s:=s) ⟨h0,h1⟩;cases e:oddW f n s with
  | none =>
   rw[e]at ok;obtain⟨k,wk,ek⟩:=r.wk;exact ok k wk (by omega)
  | some w =>
   have:w∈orL f n:=Jdx.mpr ⟨s,⟨h0,h1⟩,e⟩;rw[show orL f n=[]from h]at this;cases this
 | some R,⟨i,e,l1,lk⟩=>by
  obtain⟨s,hs,e2⟩:=Jdx.mp (SK e);have ok:=Jdu (fun p b hb=>(hf p b hb).1) hs;rw[e2]at ok;have ok:OW f s R:=ok;obtain⟨h1,h2,h3⟩:=Jrr hf hs ok fun x x0 x1 k wk ko=>by
   have ox:=Jdu (fun p b hb=>(hf p b hb).1) (s:=x) ⟨x0,x1⟩;cases e3:oddW f n x with
   | none =>
    rw[e3]at ox;exact absurd ko (ox k wk)
   | some w =>
    rw[e3]at ox;have ox:OW f x w:=ox;have m1:=ox.mn k wk ko;obtain⟨j,ej⟩:=List.mem_iff_getElem?.mp (Jdx.mpr ⟨x,⟨x0,x1⟩,e3⟩);have lj:=(SY.mp ej).1;have:=(lk j (by omega)).1;dsimp only at this;rw[List.getD_eq_getElem?_getD,List.getD_eq_getElem?_getD,e,ej]at this;have:R.length<=w.length:=this;omega
  exact⟨h1,h2,h3,ok.od⟩
theorem Jnx(f:Nat->VY)(n k:Nat):orO f n (k+1)=orO f n k++[oddW f n (k:Int)]:=by unfold orO plI;rw[List.range_succ,List.map_append,List.map_append];rfl
theorem Jds(f:Nat->VY)(n k:Nat):(orO f n k).length=k:=by unfold orO;rw[List.length_map,Zy]
section
variable{P:VC}{w:VF}{K:Frag}{mg:VZ}{base:Heap}
def spOR:Sp:=fun vs H Q _=>∃(a t:VB)(m:Int)(us:VS)(ars:VX),vs=[.ref a]/\Web H a t m us ars/\Jy m ars/\1<=m/\m<=40/\∀(o:Option (VY))(v:V) H',Same H H'->IsOR (ldF ars) m.toNat o->OwV H' v o->Q v H'
theorem Jpd(D:DefAt K mg "odd_ring" UA ["web"])(fr:Free mg ["len","min","range"])(ka:Kn P w K mg base 1 "all_leads" ["web"] YS)(ko:Kn P w K mg base 1 "odd_way_back" ["leads","start"] Jtc):Kn P w K mg base 2 "odd_ring" ["web"] spOR:=by
 have sc:FnScope ["web","leads","ways"] ["web"] (Jh UA):=⟨rfl,rfl,rfl,by decide +kernel,rfl,by decide +kernel,by decide +kernel⟩;refine D.kn (N:=["web","leads","ways"]) sc (fun vs H Q E h=>?_) (fun fa cdv A outer s H vs Q E hr h=>?_)
 ·obtain ⟨a,t,m,us,ars,rfl,_⟩:=h;rfl
 ·obtain ⟨a,t,m,us,ars,rfl,W,ga,m1,m40,kk⟩:=h;have r1:=hr.mono (j:=1) (by decide);have m_len:=fr "len" (by simp);have m_min:=fr "min" (by simp);have m_range:=fr "range" (by simp);have nd0:(["place","leads"]:VJ).Nodup:=by decide +kernel
  have nd1:(["way"]:VJ).Nodup:=by decide +kernel
  refine⟨_,(Jd (Jr (i:=1) sc.nd rfl (Or.inr rfl) (Jl ka r1 (Ja (pv 0) Jb))) (Jd (YK (i:=2) (N:=["place","leads"]) (src:=[none,some 1]) sc.nd rfl rfl rfl rfl ⟨rfl,rfl,rfl,rfl,⟨⟨rfl,rfl⟩,trivial⟩,rfl,rfl,rfl⟩ (Js (i:=0) rfl) (JV rfl m_range (Ja (Jv Jz (pv 0) Jf (fun _ _=>rfl)) Jb)) (fun C s H fp=>⟨(Jp (i:=0) nd0 rfl (Or.inl rfl)),JC,(Jl ko r1 (Ja (pv 1) (Ja (pv 0) Jb)))⟩)) (Je (Ji (Jrj rfl rfl m_min rfl m_len (Ja (Yb (N:=["way"]) (src:=[none]) (cl:=[]) rfl ⟨rfl,rfl,rfl,rfl,trivial,rfl,rfl,rfl⟩ (Js (i:=0) rfl) (JQ (pv 2)) (fun C s H fp=>⟨(Jp (i:=0) nd1 rfl (Or.inl rfl)),(JW (Jo UV (pv 0) Yr (Jn _))),(pv 0)⟩)) Jb) (Jrf Yr Jul)))))),?_⟩;have hf:∀q:Nat,∀b∈ldF ars q,0<=b/\b<(m.toNat:Nat):=fun q b hb=>(Qf ga q b hb).1;refine⟨_,rfl,a,t,m,us,ars,rfl,W,ga,fun l rows H1 s1 lr ll=>?_⟩;have ll:LL H1 l rows (ldF ars):=ll;have W1:=W.mono s1;refine Jw ?_;dsimp only[List.set];refine⟨_,rfl,a,_,_,_,rfl,rfl,SqT.of W1.top,rfl,m,rfl,by omega,by omega,Ug (n:=m.toNat) (fun i zs H'=>Same H1 H'/\Paired (OwV H') zs (orO (ldF ars) m.toNat i)) ⟨Same.refl _,.nil⟩ ?_ ?_ ?_⟩
  ·rintro i zs H' hi ⟨s2,pz⟩;rw[Paired.length pz,Jds];exact SZ (Jk (by omega))
  ·rintro zs H2 ⟨s2,pz⟩ y hy;have s3:=s1.trans (s2.trans (Same.upd (o:=.lst zs) hy));have hy3:(upd H2 y (.lst zs)) y=some (.lst zs):=Jc;have pz3:Paired (OwV (upd H2 y (.lst zs))) zs (orO (ldF ars) m.toNat m.toNat):=Paired.mapP pz fun _ _ h=>h.mono (Same.upd hy);generalize upd H2 y (.lst zs)=H3 at s3 hy3 pz3;have lz:zs.length=m.toNat:=by rw[Paired.length pz3,Jds]
   refine⟨_,rfl,y,rfl,⟨_,SqL.of hy3⟩,ZB (xs:=zs) (fun j qs H4=>Same H3 H4/\Tpi H4 qs (((orO (ldF ars) m.toNat m.toNat).take j).filterMap id)) ⟨Same.refl _,.nil⟩ ?_ ?_ ?_⟩
   ·rintro j qs H4 hj ⟨s4,tq⟩;have e1:qs.length=_:=Paired.length tq;have e2:=List.length_filterMap_le id ((orO (ldF ars) m.toNat m.toNat).take j);rw[List.length_take]at e2;exact⟨SqL.of (s4 _ _ hy3),SZ (Jk (by omega))⟩
   ·rintro qs H4 ⟨s4,tq⟩ z hz;rw[lz,List.take_of_length_le (by rw[Jds];exact Nat.le_refl _)]at tq;have tq:Tpi H4 qs (orL (ldF ars) m.toNat):=tq;have sz:=Same.upd (o:=.lst qs) hz;have s5:=s3.trans (s4.trans sz);have tq5:=tpiM tq sz;refine⟨z,qs,orL (ldF ars) m.toNat,.non,rfl,rfl,SqL.of Jc,tq5,fun e=>kk none _ _ s5 e rfl,fun i v hv lk=>?_⟩;obtain⟨R,eR,p,rfl,hp⟩:=Paired.get' tq5 hv;exact kk (some R) _ _ s5 ⟨i,eR,lk⟩ ⟨p,rfl,hp⟩
   ·rintro j x qs H4 hx hj ⟨s4,tq⟩;obtain⟨o,eo,ho⟩:=Paired.get' pz3 hx;have ts:=Jx _ _ _ eo;refine⟨_,rfl,rfl,_,rfl,?_⟩;cases o with
    | none =>
     have ho:x=.non:=ho;subst ho;refine iteF (nx hj ⟨s4,?_⟩);rw[ts,List.filterMap_append];simpa using tq
    | some R =>
     obtain⟨p,rfl,hp⟩:=ho;refine iteT ⟨_,rfl,nx hj ⟨s4,?_⟩⟩;rw[ts,List.filterMap_append];exact Paired.snoc tq ⟨p,rfl,s4 _ _ hp⟩
  ·rintro i zs H2 hi ⟨s2,pz⟩;refine⟨_,rfl,_,rfl,l,rows,ldF ars,0+(i:Int),rfl,ll.mono s2,by omega,by omega,by rw[lr];exact hf,fun v H3 s3 hv=>nx hi ⟨s2.trans s3,?_⟩⟩;rw[Jnx];rw[lr,Int.zero_add]at hv;exact Paired.snoc (Paired.mapP pz fun _ _ h=>h.mono s3) hv
end
theorem Jol{prs:VX}{a b:Int}:(Tr.tup [.int a,.int b])∈tPrs prs↔(a,b)∈prs:=by
 unfold tPrs;constructor
 ·intro h;obtain⟨q,hq,e⟩:=SL.mp h;have e:=Tr.tup.inj e;injection e with e1 e2
  injection e2 with e2 _
  have:q=(a,b):=Prod.ext (Tr.int.inj e1) (Tr.int.inj e2);rw[<- this];exact hq
 ·intro h;exact SL.mpr ⟨_,h,rfl⟩
section
variable{P:VC}{w:VF}{K:Frag}{mg:VZ}{base:Heap}
def Jsy(K:Frag):Sp:=fun vs H Q _=>∃(a t c:VB)(m:Int)(us:VS)(ars:VX)(ns:VY),vs=[.ref a,.ref c]/\Web H a t m us ars/\SqT K H c (ns.map V.int)/\ns.Nodup/\(∀p∈ns,0<=p/\p<m)/\ns.length<=900/\∀H',Same H H'->Q (.bl true) H'
theorem Jvh(D:DefAt K mg "unlike_places" Zg ["web","thing"])(fr:Free mg ["all","isinstance","len","set","tuple"])(kp:Kn P w K mg base 2 "place_good" ["web","thing"] UO):Kn P w K mg base 3 "unlike_places" ["web","thing"] (Jsy K):=by
 have sc:FnScope ["web","thing"] ["web","thing"] (Jh Zg):=⟨rfl,rfl,rfl,by decide +kernel,rfl,by decide +kernel,by decide +kernel⟩;refine D.kn (N:=["web","thing"]) sc (fun vs H Q E h=>?_) (fun f cdv A outer s H vs Q E hr h=>?_)
 ·obtain ⟨a,t,c,m,us,ars,ns,rfl,_⟩:=h;rfl
 ·obtain ⟨a,t,c,m,us,ars,ns,rfl,W,hc,nd,bd,l9,kk⟩:=h;have m_all:=fr "all" (by simp);have m_isinstance:=fr "isinstance" (by simp);have m_len:=fr "len" (by simp);have m_set:=fr "set" (by simp);have m_tuple:=fr "tuple" (by simp);have nd0:(["place","web"]:VJ).Nodup:=by decide +kernel
  have nd1:(["place","web"]:VJ).Nodup:=by decide +kernel
  refine⟨_,(Jd (JA (Yj (JM (Jm Jmi rfl m_isinstance YR (Ja (pv 1) (Ja (Zn (v:=.ty "tuple") rfl m_tuple JE rfl) Jb))))) (Je (Ji JG)) Jt) (Je (Ji (Yw (Jm (Yc rfl) rfl m_all Yh (Ja (Yb (N:=["place","web"]) (src:=[none,some 0]) rfl ⟨rfl,rfl,rfl,rfl,⟨⟨rfl,rfl⟩,trivial⟩,rfl,rfl,rfl⟩ (Js (i:=0) rfl) (Wl (pv 1)) (fun C s H fp=>⟨(Jp (i:=0) nd1 rfl (Or.inl rfl)),JC,(Jl kp hr (Ja (pv 1) (Ja (pv 0) Jb)))⟩)) Jb)) (YN (JK Yz (Jm Jmh rfl m_len PySem.boot_len (Ja (JN (Jei rfl) rfl m_set Jcw (Ja (pv 1) Jb)) Jb)) (Jm Ju rfl m_len PySem.boot_len (Ja (pv 1) Jb)) (Jn _))))))),?_⟩;refine⟨_,rfl,c,_,"tuple",rfl,hc,by simp,_,rfl,iteF ?_⟩;refine⟨_,rfl,c,rfl,⟨_,hc⟩,Jdz (xs:=ns.map V.int) (fun j zs H5=>Same H H5/\zs=(List.replicate j true).map V.bl) ⟨Same.refl _,rfl⟩ ?_ ?_ ?_⟩
  ·rintro j zs H5 hj ⟨s5,rfl⟩;rw[List.length_map]at hj;rw[List.length_map,List.length_replicate];exact⟨Jao s5 hc,SZ (Jk (by omega))⟩
  ·rintro zs H5 ⟨s5,rfl⟩ l hl;have s6:=s5.trans (Same.upd (o:=.lst ((List.replicate (ns.map V.int).length true).map V.bl)) hl);refine⟨l,_,rfl,SqL.of Jc,_,rfl,?_⟩;have e:(List.replicate (ns.map V.int).length true).all id=true:=by
    rw[List.all_eq_true];intro x hx;exact(List.eq_of_mem_replicate hx)
   rw[e];refine iteT ?_;generalize upd H5 l (.lst ((List.replicate (ns.map V.int).length true).map V.bl))=H6 at s6;have hc6:=Jao s6 hc;refine⟨_,rfl,c,ns,rfl,hc6,by omega,fun p n hp hn hle=>?_⟩;have en:=hn.mpr nd;subst en;have s7:=s6.trans (Same.upd (o:=.set (fun k=>decide (k∈ns)) ns.length) hp);refine⟨p,_,_,rfl,Jc,_,rfl,c,_,rfl,.inr (Jao s7 hc),rfl,?_⟩;rw[List.length_map,decide_eq_true rfl];exact kk _ s7
  ·rintro j x zs H5 hx hj ⟨s5,rfl⟩;rw[List.getElem?_map]at hx;obtain⟨p,hxp,rfl⟩:=SX.mp hx;have gp:=bd p (SK hxp);refine⟨_,rfl,_,rfl,a,m,_,_,_,rfl,s5 _ _ W.top,.int p,nx hj ⟨s5,?_⟩⟩;have e:plG m (.int p)=true:=by
    show(decide ((0:Int)<=p)&&decide (p<m))=true;rw[decide_eq_true gp.1,decide_eq_true gp.2];rfl
   rw[e,List.replicate_succ',List.map_append];rfl
theorem Jqg(l:VS):cutV l none (some 1)=l.take 1:=by
 unfold cutV;show(l.drop 0).take (HT.sIx l.length l.length (some 1)-0)=_;cases l with
 | nil=>rfl
 | cons x r =>
  have e:HT.sIx (x::r).length (x::r).length (some 1)=1:=by unfold HT.sIx;simp
  rw[e];rfl
def Jta:Sp:=fun vs H Q _=>∃(a t c:VB)(m:Int)(us:VS)(ars:VX)(R:VY),vs=[.ref a,.ref c]/\Web H a t m us ars/\Jy m ars/\H c=some (.tup (R.map V.int))/\Jts ars R/\∀H',Same H H'->Q (.bl true) H'
theorem Jvk(D:DefAt K mg "ring_good" Wz ["web","thing"])(fr:Free mg ["all","len","zip"])(ku:Kn P w K mg base 3 "unlike_places" ["web","thing"] (Jsy K)):Kn P w K mg base 4 "ring_good" ["web","thing"] Jta:=by
 have sc:FnScope ["web","thing"] ["web","thing"] (Jh Wz):=⟨rfl,rfl,rfl,by decide +kernel,rfl,by decide +kernel,by decide +kernel⟩;refine D.kn (N:=["web","thing"]) sc (fun vs H Q E h=>?_) (fun f cdv A outer s H vs Q E hr h=>?_)
 ·obtain ⟨a,t,c,m,us,ars,R,rfl,_⟩:=h;rfl
 ·obtain ⟨a,t,c,m,us,ars,R,rfl,W,ga,hc,rg,kk⟩:=h;obtain⟨r2,nd,r40,ra⟩:=rg;have hu2:=huN (j:=2) hr (by decide);have m_all:=fr "all" (by simp);have m_len:=fr "len" (by simp);have m_zip:=fr "zip" (by simp);have nd0:(["arrow","web"]:VJ).Nodup:=by decide +kernel
  have nd1:(["arrow","web"]:VJ).Nodup:=by decide +kernel
  refine⟨_,(Jd (JA (PW.pt (ZS (Yj (JM (Jl ku hr (Ja (pv 0) (Ja (pv 1) Jb))))) (Zr (Jo QU (Jm Ju rfl m_len PySem.boot_len (Ja (pv 1) Jb)) Jf (Jn _))))) (Je (Ji JG)) Jt) (Je (Ji (Jm (Yc rfl) rfl m_all Yh (Ja (Yb (N:=["arrow","web"]) (src:=[none,some 0]) rfl ⟨rfl,rfl,rfl,rfl,⟨⟨rfl,rfl⟩,trivial⟩,rfl,rfl,rfl⟩ (Js (i:=0) rfl) (Jrg rfl m_zip (Ja (pv 1) (Ja (JD YZ (Zd UP (pv 1) (Zm Jf) Wj) (Zd UP (pv 1) Wj (Zm Jf))) Jb))) (fun C s H fp=>⟨(Jp (i:=0) nd1 rfl (Or.inl rfl)),JC,(JK (r:=Jti K 1) (Jjb 1 hu2) (pv 0) (Jv (r:=rIxT K) Jz (pv 1) Jf (fun _ _=>rfl)) rfl)⟩)) Jb))))),?_⟩;have bd:∀p∈R,0<=p/\p<m:=fun p hp=>by obtain⟨i,hi,rfl⟩:=List.mem_iff_getElem.mp hp;have hj:(i+1)%R.length<R.length:=Nat.mod_lt _ (by omega);have:=ra i hi _ _ (SN hi) (SN hj);obtain⟨g1,g2,_⟩:=ga _ this;exact⟨g1,g2⟩
  refine⟨_,rfl,_,rfl,a,t,c,m,us,ars,R,rfl,W,SqT.of hc,nd,bd,by omega,fun H1 s1=>⟨_,rfl,iteF ?_⟩⟩;have hc1:=s1 _ _ hc;refine⟨_,rfl,c,_,rfl,.inr (SqT.of hc1),_,_,rfl,rfl,_,rfl,?_⟩;rw[List.length_map,decide_eq_false (by omega:¬ ((R.length:Nat):Int)<2)];refine iteF ?_
  -- zip(thing,thing[1:]+thing[:1])
  refine⟨_,rfl,_,rfl,1,rfl,c,_,rfl,hc1,fun q1 H2 s2 hq1=>?_⟩;have hc2:=s2 _ _ hc1;refine⟨_,rfl,1,rfl,c,_,rfl,hc2,fun q2 H3 s3 hq2=>?_⟩;have hq13:=s3 _ _ hq1;have e1:cutV (R.map V.int) (some 1) none++cutV (R.map V.int) none (some 1)=(R.drop 1++R.take 1).map V.int:=by rw[show(1:Int)=((1:Nat):Int)from rfl,Jgi (by rw[List.length_map];omega),show((1:Nat):Int)=1 from rfl,Jqg,List.map_append,List.map_drop,List.map_take]
  refine⟨q1,q2,_,_,rfl,rfl,hq13,hq2,?_,fun q3 H4 s4 hq3=>?_⟩
  ·rw [<- List.length_append,e1,List.length_map,List.length_append,List.length_drop,List.length_take];exact SZ (Jk (by omega))
  rw[e1]at hq3;have s14:=s2.trans (s3.trans s4);have hc4:=s14 _ _ hc1;have s04:=s1.trans s14;have lS:((R.drop 1++R.take 1).map V.int).length=R.length:=by rw[List.length_map,List.length_append,List.length_drop,List.length_take];omega
  have W4:=W.mono s04;refine⟨c,q3,_,_,rfl,hc4,hq3,Jjk (xs:=R.map V.int) (ys:=(R.drop 1++R.take 1).map V.int) (.inr (.inr (by rw[lS,List.length_map]))) (fun j zs H5=>Same H4 H5/\zs=(List.replicate j true).map V.bl) ⟨Same.refl _,rfl⟩ ?_ ?_ ?_⟩
  ·rintro j zs H5 hj ⟨s5,rfl⟩;rw[lS]at hj;rw[List.length_map,List.length_replicate];exact⟨s5 _ _ hc4,s5 _ _ hq3,SZ (Jk (by omega))⟩
  ·rintro zs H5 ⟨s5,rfl⟩ l hl;refine⟨l,_,rfl,SqL.of Jc,?_⟩;have e:(List.replicate ((R.drop 1++R.take 1).map V.int).length true).all id=true:=by
    rw[List.all_eq_true];intro x hx;exact(List.eq_of_mem_replicate hx)
   rw[e];exact kk _ (s04.trans (s5.trans (Same.upd hl)))
  ·rintro j v w' zs H5 q h1 h2 hi ⟨s5,rfl⟩ hq;rw[List.getElem?_map]at h1 h2;obtain⟨x,ex,rfl⟩:=SX.mp h1;obtain⟨y,ey,rfl⟩:=SX.mp h2;have hjl:j<R.length:=(SY.mp ex).1;have ey2:R[(j+1)%R.length]?=some y:=by
    by_cases c:j+1<R.length
    ·rw [List.getElem?_append_left (by rw [List.length_drop]; omega),List.getElem?_drop] at ey;rw[Nat.mod_eq_of_lt c,Nat.add_comm];exact ey
    ·have ej:j=R.length - 1:=by omega
     rw[List.getElem?_append_right (by rw[List.length_drop];omega),List.length_drop,show j-(R.length-1)=0 by omega,List.getElem?_take_of_lt (by decide)]at ey;rw[show(j+1)%R.length=0 by rw[show j+1=R.length by omega];exact Nat.mod_self _];exact ey
   have mem:=ra j hjl x y ex ey2;have s6:=s5.trans (Same.upd (o:=.tup [.int x,.int y]) hq);have hq6:(upd H5 q (.tup [.int x,.int y])) q=some (.tup [.int x,.int y]):=Jc;have W6:=W4.mono s6;generalize upd H5 q (.tup [.int x,.int y])=H6 at s6 hq6 W6;refine⟨_,rfl,_,rfl,a,_,_,_,rfl,rfl,SqT.of W6.top,rfl,t,_,_,_,rfl,.inr (SqT.of W6.arr),Is.tup (SqT.of hq6) (.cons (Is.int _) (.cons (Is.int _) .nil)),Jpi (d:=0) W6.ars,fun b hb=>nx hi ⟨s6,?_⟩⟩;have eb:b=true:=hb.mpr (Jol.mpr mem);subst eb;rw[List.replicate_succ',List.map_append];rfl
end
end Hk
namespace Hk
open PySem L2
abbrev Stc(l:VX):Prop:=l.Pairwise fun x y=>lexB x y=true
structure AM(pl:VY)(ars L:VX):Prop where
 st:Stc L
 mem:∀x,x∈L↔∃a b:Nat,x=((a:Int),(b:Int))/\∃p q,pl[a]?=some p/\pl[b]?=some q/\(p,q)∈ars
def am(pl:VY)(ars:VX):VX:=(ars.filter fun q=>decide (q.1∈pl)&&decide (q.2∈pl)).map fun q=>((pl.idxOf q.1:Nat),(pl.idxOf q.2:Nat))
theorem ZC{pl:VY}{x:Int}(h:x∈pl):pl[pl.idxOf x]?=some x:=by rw[List.getElem?_eq_getElem (List.idxOf_lt_length_of_mem h),List.getElem_idxOf]
theorem YD{pl:VY}(h:pl.Pairwise (·<·)){i j:Nat}{x y:Int}(hx:pl[i]?=some x)(hy:pl[j]?=some y):(i<j↔x<y)/\(x=y->i=j):=by
 obtain⟨h1,e1⟩:=SY.mp hx;obtain⟨h2,e2⟩:=SY.mp hy;have P:=List.pairwise_iff_getElem.mp h;have lt:∀i j (a:i<pl.length) (b:j<pl.length),i<j->pl[i]<pl[j]:=fun i j a b c=>P i j a b c;rcases Nat.lt_trichotomy i j with z|z|z
 ·have:=lt i j h1 h2 z;rw[e1,e2]at this;exact⟨⟨fun _=>this,fun _=>z⟩,fun e=>by omega⟩
 ·subst z;rw[e1]at e2;exact⟨⟨fun q=>by omega,fun q=>by omega⟩,fun _=>rfl⟩
 ·have:=lt j i h2 h1 z;rw[e1,e2]at this;exact⟨⟨fun q=>by omega,fun q=>by omega⟩,fun e=>by omega⟩
theorem Jkg{pl:VY}{ars:VX}(hp:pl.Pairwise (·<·))(st:Stc ars):AM pl ars (am pl ars):=by
 constructor
 ·unfold am;refine List.pairwise_map.mpr (List.Pairwise.imp_of_mem (fun {x y} hx hy h=>?_) (st.filter _));have mx:=(SR.mp hx).2;have my:=(SR.mp hy).2;rw[Bool.and_eq_true,decide_eq_true_eq,decide_eq_true_eq]at mx my;have c1:=YD hp (ZC mx.1) (ZC my.1);have c2:=YD hp (ZC mx.2) (ZC my.2);rw[WR]at h ⊢;dsimp only;rcases h with z|⟨z1,z2⟩
  ·have:=c1.1.mpr z;omega
  ·have:=c1.2 z1;have:=c2.1.mpr z2;omega
 ·intro x;unfold am;rw[List.mem_map];constructor
  ·rintro ⟨q,hq,rfl⟩;obtain⟨h1,h2⟩:=SR.mp hq;rw[Bool.and_eq_true,decide_eq_true_eq,decide_eq_true_eq]at h2;exact⟨_,_,rfl,q.1,q.2,ZC h2.1,ZC h2.2,h1⟩
  ·rintro ⟨a,b,rfl,p,q,ha,hb,h⟩;have m1:=SK ha;have m2:=SK hb;refine⟨(p,q),SR.mpr ⟨h,by rw[Bool.and_eq_true,decide_eq_true_eq,decide_eq_true_eq];exact⟨m1,m2⟩⟩,?_⟩;have e1:=(YD hp (ZC m1) ha).2 rfl;have e2:=(YD hp (ZC m2) hb).2 rfl;show(((pl.idxOf p:Nat):Int),((pl.idxOf q:Nat):Int))=_;rw[e1,e2]
theorem AM.good{pl:VY}{ars L:VX}{m:Int}(x:AM pl ars L)(g:Jy m ars):Jy (pl.length:Int) L:=by
 intro z hz;obtain⟨a,b,rfl,p,q,ha,hb,h⟩:=(x.mem z).mp hz;have h1:=(SY.mp ha).1;have h2:=(SY.mp hb).1;have ne:=(g _ h).2.2.2.2;dsimp only at ne ⊢;refine⟨by omega,by omega,by omega,by omega,fun e=>?_⟩;have e:a=b:=by omega
 subst e;rw[ha]at hb;cases hb;exact ne rfl
def lstF(Gr:Nat->VY)(p:Int):Int:=(Gr p.toNat).headD 0
structure GrOk(f:Nat->VY)(n:Nat)(Gr:Nat->VY):Prop where
 hf:∀p:Nat,∀b∈f p,0<=b/\b<n
 gr:∀p:Nat,p<n->IsGr f (p:Int) (Gr p)
namespace GrOk
variable{f:Nat->VY}{n:Nat}{Gr:Nat->VY}
theorem lst(h:GrOk f n Gr){p:Nat}(hp:p<n):(Gr p).head?=some (lstF Gr (p:Int))/\lstF Gr (p:Int)∈Gr p/\∀x∈Gr p,lstF Gr (p:Int)<=x:=by
 have g:=h.gr p hp;have self:(p:Int)∈Gr p:=(g.mem _).mpr ⟨.refl,.refl⟩;unfold lstF;rw[Int.toNat_natCast];obtain⟨y,h1,h2,h3⟩:=Jbk g.rise self;have e:(Gr p).headD 0=y:=by
  cases hc:Gr p with
  | nil=>rw [hc] at h1; cases h1
  | cons z r=>rw [hc] at h1; cases h1; rfl
 rw[e];refine⟨h1,h2,fun x hx=>?_⟩;obtain⟨y',e1,_,e3⟩:=Jbk g.rise hx;rw[h1]at e1;cases e1;exact e3
theorem bd(h:GrOk f n Gr){p:Nat}(hp:p<n){x:Int}(hx:x∈Gr p):0<=x/\x<n:=WK h.hf (by omega) (((h.gr p hp).mem x).mp hx).1
theorem same(h:GrOk f n Gr){p q:Nat}(hp:p<n)(hq:q<n)(hx:(q:Int)∈Gr p):Gr q=Gr p:=by obtain⟨a,b⟩:=((h.gr p hp).mem _).mp hx;refine Jdo (h.gr q hq).rise (h.gr p hp).rise fun x=>?_;rw[(h.gr q hq).mem,(h.gr p hp).mem];exact⟨fun⟨c,d⟩=>⟨a.trans c,d.trans b⟩,fun⟨c,d⟩=>⟨b.trans c,d.trans a⟩⟩
theorem lst_eq(h:GrOk f n Gr){p q:Nat}(hp:p<n)(hq:q<n):lstF Gr (p:Int)=lstF Gr (q:Int)↔(q:Int)∈Gr p:=by
 constructor
 ·intro e;obtain⟨_,a1,_⟩:=h.lst hp;obtain⟨_,b1,_⟩:=h.lst hq;rw[e]at a1;obtain⟨c1,c2⟩:=((h.gr p hp).mem _).mp a1;obtain⟨d1,d2⟩:=((h.gr q hq).mem _).mp b1;exact((h.gr p hp).mem _).mpr ⟨c1.trans d2,d1.trans c2⟩
 ·intro e;have:=h.same hp hq e;unfold lstF;rw[Int.toNat_natCast,Int.toNat_natCast,this]
theorem lst_idem(h:GrOk f n Gr){p:Nat}(hp:p<n):∃j:Nat,j<n/\lstF Gr (p:Int)=(j:Int)/\lstF Gr (j:Int)=(j:Int):=by obtain⟨a1,a2,_⟩:=h.lst hp;obtain⟨b0,b1⟩:=h.bd hp a2;obtain⟨j,ej⟩:∃j:Nat,lstF Gr (p:Int)=(j:Int):=⟨(lstF Gr (p:Int)).toNat,by omega⟩;refine⟨j,by omega,ej,?_⟩;rw[ej]at a2;have:=(h.lst_eq hp (q:=j) (by omega)).mpr a2;rw[<- this,ej]
end GrOk
structure SideP(Gr:Nat->VY)(n:Nat)(ars:VX)(ns:VY):Prop where
 r01:∀x∈ns,0<=x/\x<=1
 zero:∀p:Nat,p<n->ns.getD (lstF Gr (p:Int)).toNat 0=0
 dif:∀q∈ars,lstF Gr q.1=lstF Gr q.2->ns.getD q.1.toNat 0≠ns.getD q.2.toNat 0
end Hk
namespace Hk
open PySem L2
section
variable{Gr:Nat->VY}{m:Int}{ars:VX}{ns:VY}
theorem Jey(ga:Jy m ars)(ok:GrOk (ldF ars) m.toNat Gr)(sp:SideP Gr m.toNat ars ns)(ln:(ns.length:Int)=m){s x k:Int}(hs:0<=s/\s<m)(h:Rc2 (ldF ars) s x k):Rch (ldF ars) x s->ns.getD x.toNat 0=flp (ns.getD s.toNat 0) k:=by
 have b01:∀y:Int,0<=y->y<m->ns.getD y.toNat 0=0\/ns.getD y.toNat 0=1:=fun y h0 h1=>by
  have hm:ns.getD y.toNat 0∈ns:=by rw[List.getD_eq_getElem?_getD,List.getElem?_eq_getElem (by omega)];exact LV _
  obtain⟨g0,g1⟩:=sp.r01 _ hm;omega
 induction h with
 | refl =>
  intro _;unfold flp;rcases b01 s hs.1 hs.2 with e|e<;>rw[e]<;>rfl
 | @step q b k hq e ih =>
  intro back;have qs:=Rch.head e back;have qb:=WK ok.hf (by omega) hq.rch;have hqb:(q,b)∈ars:=by have e:b∈ldI ars ((q.toNat:Nat):Int):=e;rw[show((q.toNat:Nat):Int)=q by omega]at e;exact JY.mp e
  obtain⟨g1,g2,g3,g4,_⟩:=ga _ hqb;dsimp only at g1 g2 g3 g4;have el:lstF Gr q=lstF Gr b:=by obtain⟨i,rfl⟩:∃i:Nat,q=(i:Int):=⟨q.toNat,by omega⟩;obtain⟨j,rfl⟩:∃j:Nat,b=(j:Int):=⟨b.toNat,by omega⟩;exact(ok.lst_eq (p:=i) (q:=j) (by omega) (by omega)).mpr (((ok.gr i (by omega)).mem _).mpr ⟨.step .refl e,back.trans hq.rch⟩)
  have df:=sp.dif _ hqb el;dsimp only at df;have i1:=ih qs;have p1:=hq.par;rcases b01 q g1 g2 with eq|eq<;>rcases b01 b g3 g4 with eb|eb<;>rcases b01 s hs.1 hs.2 with es|es<;>rcases p1 with rfl|rfl<;>rw[eq]at df i1<;>rw[eb]at df ⊢<;>rw[es]at i1 ⊢<;>unfold flp at i1 ⊢<;>simp at df i1 ⊢
theorem Jkv(ga:Jy m ars)(ok:GrOk (ldF ars) m.toNat Gr){ns':VY}(sp:SideP Gr m.toNat ars ns)(ln:(ns.length:Int)=m)(sp':SideP Gr m.toNat ars ns')(ln':(ns'.length:Int)=m):ns=ns':=by
 refine List.ext_getElem (by omega) fun i h1 h2=>?_;have hi:i<m.toNat:=by omega
 obtain⟨_,l2,_⟩:=ok.lst hi;obtain⟨b0,b1⟩:=ok.bd hi l2;obtain⟨r1,r2⟩:=((ok.gr i hi).mem _).mp l2;obtain⟨k,hk⟩:=r2.rc2;have e1:=Jey ga ok sp ln (s:=lstF Gr (i:Int)) (by omega) hk r1;have e2:=Jey ga ok sp' ln' (s:=lstF Gr (i:Int)) (by omega) hk r1;rw[sp.zero i hi]at e1;rw[sp'.zero i hi]at e2;rw[Int.toNat_natCast,List.getD_eq_getElem?_getD,List.getElem?_eq_getElem h1]at e1;rw[Int.toNat_natCast,List.getD_eq_getElem?_getD,List.getElem?_eq_getElem h2]at e2;exact e1.trans e2.symm
theorem Jkm(ga:Jy m ars)(ok:GrOk (ldF ars) m.toNat Gr)(ln:(ns.length:Int)=m)(hw:∀p:Nat,p<m.toNat->Rc2 (ldF ars) (lstF Gr (p:Int)) (p:Int) (ns.getD p 0))(no:¬ SideP Gr m.toNat ars ns):∃s:Int,0<=s/\s<m/\Rc2 (ldF ars) s s 1:=by
 refine Classical.byContradiction fun z=>no ?_;have z:∀s:Int,0<=s->s<m->¬ Rc2 (ldF ars) s s 1:=fun s h0 h1 h=>z ⟨s,h0,h1,h⟩;refine⟨fun x hx=>?_,fun p hp=>?_,fun q hq el e=>?_⟩
 ·obtain ⟨i,hi,rfl⟩:=List.mem_iff_getElem.mp hx;have:=(hw i (by omega)).par;rw[List.getD_eq_getElem?_getD,List.getElem?_eq_getElem hi]at this;have this:ns[i]=0\/ns[i]=1:=this;omega
 ·obtain ⟨j,hj,e1,e2⟩:=ok.lst_idem hp;rw[e1,Int.toNat_natCast];have w:=hw j hj;rw[e2]at w;rcases w.par with e|e
  ·exact e
  ·rw [e] at w;exact absurd w (z _ (by omega) (by omega))
 ·obtain ⟨g1,g2,g3,g4,_⟩:=ga q hq;obtain⟨x1,x2⟩:=q;dsimp only at g1 g2 g3 g4 el e;obtain⟨i,rfl⟩:∃i:Nat,x1=(i:Int):=⟨x1.toNat,by omega⟩;obtain⟨j,rfl⟩:∃j:Nat,x2=(j:Int):=⟨x2.toNat,by omega⟩;rw[Int.toNat_natCast,Int.toNat_natCast]at e;have wi:=hw i (by omega);have wj:=hw j (by omega);rw[<- el,<- e]at wj;obtain⟨_,l2,_⟩:=ok.lst (p:=i) (by omega);obtain⟨b0,b1⟩:=ok.bd (p:=i) (by omega) l2;have st:(j:Int)∈ldF ars (i:Int).toNat:=by
   show(j:Int)∈ldI ars (((i:Int).toNat:Nat):Int);rw[Int.toNat_natCast];exact JY.mpr hq
  obtain⟨_,lj,_⟩:=ok.lst (p:=j) (by omega);obtain⟨c1,c2⟩:=((ok.gr j (by omega)).mem _).mp lj;rw[<- el]at c1 c2;obtain⟨l,hl⟩:=c1.rc2;have t1:=(Rc2.step wi st).trans hl;have t2:=wj.trans hl;have zz:=z (lstF Gr (i:Int)) b0 (by omega);rcases wi.par with p1|p1<;>rcases hl.par with rfl|rfl<;>rw[p1]at t1 t2<;>first|exact zz t1|exact zz t2
end
def Jpk(m:Int)(ars:VX)(ns:VY):Bool:=(ars.filter (both ns)).isEmpty&&(Jq m ars ns).isEmpty
theorem Jsk{m:Int}{ars:VX}{ns:VY}(R:Rise ns m):hgM m ars (some (ns.map V.int))=Jpk m ars ns:=by unfold hgM Jpk;rw[R.pls,Bool.true_and];show((ars.filter (both (JO (ns.map V.int)))).isEmpty&&(Jq m ars (JO (ns.map V.int))).isEmpty)=_;rw[UI]
theorem Rch.first{f:Nat->VY}{p x:Int}(h:Rch f p x):p=x\/∃c∈f p.toNat,Rch f c x:=by
 induction h with
 | refl=>exact .inl rfl
 | @step q b _ e ih =>
  rcases ih with rfl|⟨c,hc,r⟩
  ·exact .inr ⟨_,e,.refl⟩
  ·exact .inr ⟨c,hc,.step r e⟩
theorem Jok(g:Nat->Nat):∀{n:Nat},1<=n->∃i,i<n/\∀j,j<n->g i<=g j
 | 0,h=>absurd h (by decide)
 | 1,_=>⟨0,by decide,fun j hj=>by rw [show j=0 by omega]; exact SJ _⟩
 | n + 2,_=>by
  obtain⟨i,hi,h⟩:=Jok g (n:=n+1) (by omega);by_cases c:g i<=g (n+1)
  ·refine ⟨i,by omega,fun j hj=>?_⟩;by_cases e:j=n+1
   ·rw [e];exact c
   ·exact h j (by omega)
  ·refine ⟨n + 1,by omega,fun j hj=>?_⟩;by_cases e:j=n+1
   ·rw [e];exact SJ _
   ·have:=h j (by omega);omega
theorem Jqh{p q:Int->Bool}:∀{l:VY},(∀x∈l,p x=true->q x=true)->l.countP p<=l.countP q
 | [],_=>SJ _
 | x::l,h=>by
  have ih:=Jqh (l:=l) fun y hy=>h y (SD _ hy);have hx:=h x SG;rw[List.countP_cons,List.countP_cons];by_cases c:p x=true
  ·rw [if_pos c,if_pos (hx c)];omega
  ·rw [if_neg c];omega
theorem Jhx{p q:Int->Bool}:∀{l:VY},(∀x∈l,p x=true->q x=true)->(∃x∈l,q x=true/\¬ p x=true)->l.countP p<l.countP q
 | [],_,⟨_,hx,_⟩=>nomatch hx
 | x::l,h,⟨y,hy,h1,h2⟩=>by
  have h':∀x∈l,p x=true->q x=true:=fun y hy=>h y (SD _ hy);have hx:=h x SG;rw[List.countP_cons,List.countP_cons];rcases List.mem_cons.mp hy with rfl|hy
  ·rw [if_pos h1,if_neg h2];have:=Jqh h';omega
  ·have ih:=Jhx h' ⟨y,hy,h1,h2⟩;by_cases c:p x=true
   ·rw [if_pos c,if_pos (hx c)];omega
   ·rw [if_neg c];omega
def upL(Gr:Nat->VY)(ars:VX):VY:=(ars.filter fun q=>!decide (lstF Gr q.1=lstF Gr q.2)).map fun q=>lstF Gr q.1
def botL(Gr:Nat->VY)(ars:VX)(n:Nat):VY:=(plI n).filter fun p=>!decide (lstF Gr p∈upL Gr ars)
def bhL(Gr:Nat->VY)(ars:VX)(ks:VY)(n:Nat):VY:=(botL Gr ars n).filter fun p=>decide (ks.getD p.toNat 0=0)
theorem Jjh{Gr:Nat->VY}{ars:VX}{x:Int}:x∈upL Gr ars↔∃q∈ars,lstF Gr q.1≠lstF Gr q.2/\lstF Gr q.1=x:=by
 unfold upL;rw[List.mem_map];constructor
 ·rintro ⟨q,hq,e⟩;obtain⟨h1,h2⟩:=SR.mp hq;exact⟨q,h1,by simpa using h2,e⟩
 ·rintro ⟨q,hq,h1,e⟩;exact⟨q,SR.mpr ⟨hq,by simpa using h1⟩,e⟩
theorem Uf{Gr:Nat->VY}{ars:VX}{ks:VY}{n:Nat}{p:Int}:p∈bhL Gr ars ks n↔(0<=p/\p<n)/\lstF Gr p∉upL Gr ars/\ks.getD p.toNat 0=0:=by unfold bhL botL;rw[List.mem_filter,List.mem_filter,Yk,Bool.not_eq_true',decide_eq_false_iff_not,decide_eq_true_eq,and_assoc]
section
variable{Gr:Nat->VY}{m:Int}{ars:VX}{ks:VY}
theorem Jel{q:Int×Int}(hq:q∈ars)(h:lstF Gr q.1∉upL Gr ars):lstF Gr q.1=lstF Gr q.2:=Classical.byContradiction fun z=>h (Jjh.mpr ⟨q,hq,z,rfl⟩)
theorem Jwn(sp:SideP Gr m.toNat ars ks){p q:Int}(h:(p,q)∈ars)(hp:p∈bhL Gr ars ks m.toNat):q∉bhL Gr ars ks m.toNat:=fun hq=>by obtain⟨_,h1,h2⟩:=Uf.mp hp;obtain⟨_,h3,h4⟩:=Uf.mp hq;exact sp.dif _ h (Jel h h1) (h2.trans h4.symm)
theorem Jwm(ga:Jy m ars)(ok:GrOk (ldF ars) m.toNat Gr)(sp:SideP Gr m.toNat ars ks)(ln:(ks.length:Int)=m){p b:Int}(h:(p,b)∈ars)(hp:p∈bhL Gr ars ks m.toNat):∃c,(b,c)∈ars/\c∈bhL Gr ars ks m.toNat:=by
 obtain⟨⟨p0,p1⟩,h1,h2⟩:=Uf.mp hp;have e1:=Jel h h1;have d1:=sp.dif _ h e1;obtain⟨_,_,g3,g4,g5⟩:=ga _ h;dsimp only at e1 d1 g3 g4 g5;have b01:∀y:Int,0<=y->y<m->ks.getD y.toNat 0=0\/ks.getD y.toNat 0=1:=fun y h0 h1=>by
  have hm:ks.getD y.toNat 0∈ks:=by rw[List.getD_eq_getElem?_getD,List.getElem?_eq_getElem (by omega)];exact LV _
  obtain⟨g0,g1⟩:=sp.r01 _ hm;omega
 obtain⟨i,rfl⟩:∃i:Nat,p=(i:Int):=⟨p.toNat,by omega⟩;obtain⟨j,rfl⟩:∃j:Nat,b=(j:Int):=⟨b.toNat,by omega⟩;have hg:=(ok.lst_eq (p:=i) (q:=j) (by omega) (by omega)).mp e1;obtain⟨_,r2⟩:=((ok.gr i (by omega)).mem _).mp hg;rcases r2.first with e|⟨c,hc,_⟩
 ·exact absurd e.symm g5
 have hjc:((j:Int),c)∈ars:=by have hc:c∈ldI ars (((j:Int).toNat:Nat):Int):=hc;rw[Int.toNat_natCast]at hc;exact JY.mp hc
 have nb:lstF Gr (j:Int)∉upL Gr ars:=by rw[<- e1];exact h1
 have e2:=Jel hjc nb;have d2:=sp.dif _ hjc e2;obtain⟨_,_,c3,c4,_⟩:=ga _ hjc;dsimp only at e2 d2 c3 c4;refine⟨c,hjc,Uf.mpr ⟨⟨c3,by omega⟩,by rw[<- e2];exact nb,?_⟩⟩;have z1:=b01 (j:Int) g3 g4;have z2:=b01 c c3 c4;omega
theorem Jss(ok:GrOk (ldF ars) m.toNat Gr)(sp:SideP Gr m.toNat ars ks)(ga:Jy m ars)(m1:1<=m):∃p,p∈bhL Gr ars ks m.toNat:=by
 obtain⟨Cm,hC⟩:=cm_ex ok.hf;obtain⟨i,hi,mn⟩:=Jok (fun j=>(plI m.toNat).countP fun x=>decide (x∈Cm j)) (n:=m.toNat) (by omega);have back:∀x,Rch (ldF ars) (i:Int) x->Rch (ldF ars) x (i:Int):=fun x hx=>by
  obtain⟨x0,x1⟩:=WK ok.hf (by omega) hx;obtain⟨j,rfl⟩:∃j:Nat,x=(j:Int):=⟨x.toNat,by omega⟩;refine Classical.byContradiction fun z=>?_;have lt:=Jhx (p:=fun x=>decide (x∈Cm j)) (q:=fun x=>decide (x∈Cm i)) (l:=plI m.toNat) (fun y _ hy=>?_) ⟨(i:Int),Yk.mpr (by omega),?_,?_⟩
  ·have:=mn j (by omega);omega
  ·have hy:=((hC j (by omega)).mem y).mp (of_decide_eq_true hy);exact decide_eq_true (((hC i hi).mem y).mpr (hx.trans hy))
  ·exact decide_eq_true (((hC i hi).mem _).mpr .refl)
  ·intro h;exact z (((hC j (by omega)).mem _).mp (of_decide_eq_true h))
 obtain⟨j,hj,e1,e2⟩:=ok.lst_idem hi;refine⟨(j:Int),Uf.mpr ⟨by omega,fun hu=>?_,?_⟩⟩
 ·obtain ⟨q,hq,ne,e3⟩:=Jjh.mp hu;rw[e2]at e3;obtain⟨g1,g2,g3,g4,_⟩:=ga q hq;obtain⟨q1,q2⟩:=q;dsimp only at g1 g2 g3 g4 ne e3;obtain⟨a,rfl⟩:∃a:Nat,q1=(a:Int):=⟨q1.toNat,by omega⟩;obtain⟨b,rfl⟩:∃b:Nat,q2=(b:Int):=⟨q2.toNat,by omega⟩;have ha:=(ok.lst_eq (p:=i) (q:=a) hi (by omega)).mp (by rw[e1,e3]);obtain⟨r1,_⟩:=((ok.gr i hi).mem _).mp ha;have st:(b:Int)∈ldF ars (a:Int).toNat:=by
   show(b:Int)∈ldI ars (((a:Int).toNat:Nat):Int);rw[Int.toNat_natCast];exact JY.mpr hq
  have r2:Rch (ldF ars) (i:Int) (b:Int):=.step r1 st;have hb:=((ok.gr i hi).mem _).mpr ⟨r2,back _ r2⟩;have e4:=(ok.lst_eq (p:=i) (q:=b) hi (by omega)).mpr hb;exact ne (by rw[e3,<- e4,e1])
 ·have:=sp.zero i hi;rw[e1]at this;exact this
end
noncomputable def grC(f:Nat->VY)(n:Nat):Nat->VY:=Classical.epsilon fun G=>GrOk f n G
noncomputable def ksC(ars:VX)(n:Nat):VY:=Classical.epsilon fun ks=>ks.length=n/\SideP (grC (ldF ars) n) n ars ks
theorem Jhr{m:Int}{ars:VX}(ga:Jy m ars):GrOk (ldF ars) m.toNat (grC (ldF ars) m.toNat):=by have hf:∀q:Nat,∀b∈ldF ars q,0<=b/\b<(m.toNat:Nat):=fun q b hb=>(Qf ga q b hb).1;obtain⟨Gr,hG⟩:=gr_ex hf;exact Classical.epsilon_spec (p:=fun G=>GrOk (ldF ars) m.toNat G) ⟨Gr,hf,hG⟩
theorem Jvg{m:Int}{ars:VX}(ga:Jy m ars){ks:VY}(ln:(ks.length:Int)=m)(sp:SideP (grC (ldF ars) m.toNat) m.toNat ars ks):ksC ars m.toNat=ks:=by have h:=Classical.epsilon_spec (p:=fun ks=>ks.length=m.toNat/\SideP (grC (ldF ars) m.toNat) m.toNat ars ks) ⟨ks,by omega,sp⟩;have h:(ksC ars m.toNat).length=m.toNat/\SideP (grC (ldF ars) m.toNat) m.toNat ars (ksC ars m.toNat):=h;exact Jkv ga (Jhr ga) h.2 (by omega) sp ln
noncomputable def mrL(ars:VX)(n:Nat):VY:=bhL (grC (ldF ars) n) ars (ksC ars n) n
noncomputable def moP(m:Int)(ars:VX)(h:VY):VY:=(mrL (am (Jq m ars h) ars) (Jq m ars h).length).map fun i=>(Jq m ars h).getD i.toNat 0
noncomputable def evS(m:Int)(ars:VX)(h:VY):VY:=(plI m.toNat).filter fun p=>decide (p∈h)||decide (p∈moP m ars h)
noncomputable def evH(m:Int)(ars:VX):Nat->VY
 | 0=>[]
 | k + 1=>evS m ars (evH m ars k)
theorem YG{m:Int}{ars:VX}{ns:VY}{x:Int}(m0:0<=m):x∈Jq m ars ns↔(0<=x/\x<m)/\x∉ns/\∀b,(x,b)∈ars->b∉ns:=by
 have e:x∈Jq m ars ns↔x∈plI m.toNat/\(!Yl ars ns x)=true:=SR;rw[e,Yk];unfold Yl;simp only[Bool.not_eq_true',Bool.or_eq_false_iff,decide_eq_false_iff_not,List.any_eq_false,Bool.and_eq_true,decide_eq_true_eq,not_and];constructor
 ·rintro ⟨⟨h1,h2⟩,h3,h4⟩;exact⟨⟨h1,by omega⟩,h3,fun b hb=>h4 (x,b) hb rfl⟩
 ·rintro ⟨⟨h1,h2⟩,h3,h4⟩;refine⟨⟨h1,by omega⟩,h3,fun q hq e=>h4 q.2 ?_⟩;rw[<- e];exact hq
theorem Zt{m:Int}{ars:VX}{ns:VY}(m0:0<=m):Rise (Jq m ars ns) m:=⟨fun x hx=>((YG m0).mp hx).1,Zc _ _⟩
structure Hf(m:Int)(ars:VX)(h:VY):Prop where
 rise:Rise h m
 ind:∀q∈ars,q.1∈h->q.2∉h
 out:∀q∈ars,q.1∈h->q.2∉Jq m ars h
theorem Jmk{ars:VX}{h:VY}(ind:∀q∈ars,q.1∈h->q.2∉h):(ars.filter (both h)).isEmpty=true:=by rw[List.isEmpty_iff,List.filter_eq_nil_iff];intro q hq z;unfold both at z;rw[Bool.and_eq_true,decide_eq_true_eq,decide_eq_true_eq]at z;exact ind q hq z.1 z.2
theorem Hf.empty(m:Int)(ars:VX):Hf m ars []:=⟨⟨fun _ z=>(nomatch z),.nil⟩,fun _ _ z=>(nomatch z),fun _ _ z=>(nomatch z)⟩
theorem Hf.hold{m:Int}{ars:VX}{h:VY}(x:Hf m ars h)(e:Jq m ars h=[]):hgM m ars (some (h.map V.int))=true:=by rw[Jsk x.rise];unfold Jpk;rw[Jmk x.ind,e];rfl
section
variable{m:Int}{ars:VX}
theorem Jgn(m0:0<=m)(st:Stc ars){h:VY}{a b:Int}(ha:a∈Jq m ars h)(hb:b∈Jq m ars h)(q:(a,b)∈ars):∃i j:Nat,(Jq m ars h)[i]?=some a/\(Jq m ars h)[j]?=some b/\((i:Int),(j:Int))∈am (Jq m ars h) ars:=by obtain⟨i,hi⟩:=List.mem_iff_getElem?.mp ha;obtain⟨j,hj⟩:=List.mem_iff_getElem?.mp hb;exact⟨i,j,hi,hj,((Jkg (Zt m0).up st).mem _).mpr ⟨i,j,rfl,a,b,hi,hj,q⟩⟩
theorem Jkh(m0:0<=m)(st:Stc ars){h:VY}{i j:Int}(q:(i,j)∈am (Jq m ars h) ars):∃(a b:Nat),i=(a:Int)/\j=(b:Int)/\a<(Jq m ars h).length/\b<(Jq m ars h).length/\((Jq m ars h).getD a 0,(Jq m ars h).getD b 0)∈ars:=by obtain⟨a,b,e,x,y,ha,hb,hq⟩:=((Jkg (Zt m0).up st).mem _).mp q;cases e;refine⟨a,b,rfl,rfl,(SY.mp ha).1,(SY.mp hb).1,?_⟩;rw[List.getD_eq_getElem?_getD,List.getD_eq_getElem?_getD,ha,hb];exact hq
theorem Jqy(m0:0<=m)(st:Stc ars){h:VY}{s x k:Int}(r:Rc2 (ldF (am (Jq m ars h) ars)) s x k):Rc2 (ldF ars) ((Jq m ars h).getD s.toNat 0) ((Jq m ars h).getD x.toNat 0) k:=by
 induction r with
 | refl=>exact .refl
 | @step q b k _ e ih =>
  have e:b∈ldI (am (Jq m ars h) ars) ((q.toNat:Nat):Int):=e;obtain⟨a,c,e1,e2,l1,_,hq⟩:=Jkh m0 st (JY.mp e);have e1:q.toNat=a:=by omega
  subst e1 e2;refine .step ih ?_;have hm:(Jq m ars h).getD q.toNat 0∈Jq m ars h:=by rw[List.getD_eq_getElem?_getD,List.getElem?_eq_getElem l1];exact LV _
  have h0:=((YG m0).mp hm).1.1;show _∈ldI ars ((((Jq m ars h).getD q.toNat 0).toNat:Nat):Int);rw[show((((Jq m ars h).getD q.toNat 0).toNat:Nat):Int)=(Jq m ars h).getD q.toNat 0 by omega,Int.toNat_natCast];exact JY.mpr hq
theorem Jux(m0:0<=m)(st:Stc ars)(no:¬ ∃s:Int,0<=s/\s<m/\Rc2 (ldF ars) s s 1){h:VY}:¬ ∃s:Int,0<=s/\s<((Jq m ars h).length:Int)/\Rc2 (ldF (am (Jq m ars h) ars)) s s 1:=fun⟨s,h0,h1,r⟩=>by
 have hm:(Jq m ars h).getD s.toNat 0∈Jq m ars h:=by rw[List.getD_eq_getElem?_getD,List.getElem?_eq_getElem (by omega)];exact LV _
 have b:=((YG m0).mp hm).1;exact no ⟨_,b.1,b.2,Jqy m0 st r⟩
theorem Qc(m0:0<=m){h:VY}{x:Int}(hx:x∈moP m ars h):∃i:Nat,i<(Jq m ars h).length/\(Jq m ars h)[i]?=some x/\(i:Int)∈mrL (am (Jq m ars h) ars) (Jq m ars h).length:=by unfold moP at hx;obtain⟨i,hi,rfl⟩:=SL.mp hx;have b:=(Uf.mp hi).1;refine⟨i.toNat,by omega,?_,by rw[show((i.toNat:Nat):Int)=i by omega];exact hi⟩;rw[List.getD_eq_getElem?_getD,List.getElem?_eq_getElem (by omega)];rfl
theorem Joc{h:VY}{i:Int}(hi:i∈mrL (am (Jq m ars h) ars) (Jq m ars h).length):(Jq m ars h).getD i.toNat 0∈moP m ars h:=SL.mpr ⟨i,hi,rfl⟩
theorem Jrw(m0:0<=m){h:VY}(hr:Rise h m){x:Int}:x∈evS m ars h↔x∈h\/x∈moP m ars h:=by
 unfold evS;rw[List.mem_filter,Yk,Bool.or_eq_true,decide_eq_true_eq,decide_eq_true_eq];refine⟨fun z=>z.2,fun z=>⟨?_,z⟩⟩;have:0<=x/\x<m:=by
  rcases z with z|z
  ·exact hr.bd x z
  ·obtain ⟨i,_,e,_⟩:=Qc m0 z;exact((YG m0).mp (SK e)).1
 omega
theorem UF(m0:0<=m){h:VY}(hr:Rise h m):h=(plI m.toNat).filter fun p=>decide (p∈h):=by refine Jdo hr.up (Zc _ _) fun x=>?_;rw[List.mem_filter,Yk,decide_eq_true_eq];refine⟨fun z=>⟨?_,z⟩,fun z=>z.2⟩;have:=hr.bd x z;omega
theorem Jsn(m0:0<=m)(ga:Jy m ars)(st:Stc ars){h:VY}(x:Hf m ars h)(ne:Jq m ars h≠[]){ks:VY}(ln:ks.length=(Jq m ars h).length)(sp:SideP (grC (ldF (am (Jq m ars h) ars)) (Jq m ars h).length) (Jq m ars h).length (am (Jq m ars h) ars) ks):Hf m ars (evS m ars h)/\h.length<(evS m ars h).length:=by
 have gs:Jy ((Jq m ars h).length:Int) (am (Jq m ars h) ars):=(Jkg (Zt m0).up st).good ga;have tn:((Jq m ars h).length:Int).toNat=(Jq m ars h).length:=Int.toNat_natCast _;have ok:=Jhr gs;have ek:=Jvg gs (ks:=ks) (by omega) (by rw[tn];exact sp);rw[tn]at ok ek;have sp':SideP (grC (ldF (am (Jq m ars h) ars)) (Jq m ars h).length) ((Jq m ars h).length:Int).toNat (am (Jq m ars h) ars) (ksC (am (Jq m ars h) ars) (Jq m ars h).length):=by rw[ek,tn];exact sp
 have ok':GrOk (ldF (am (Jq m ars h) ars)) ((Jq m ars h).length:Int).toNat (grC (ldF (am (Jq m ars h) ars)) (Jq m ars h).length):=by rw[tn];exact ok
 have ln':((ksC (am (Jq m ars h) ars) (Jq m ars h).length).length:Int)=((Jq m ars h).length:Int):=by rw[ek];omega
 have mrE:mrL (am (Jq m ars h) ars) (Jq m ars h).length=bhL (grC (ldF (am (Jq m ars h) ars)) (Jq m ars h).length) (am (Jq m ars h) ars) (ksC (am (Jq m ars h) ars) (Jq m ars h).length) ((Jq m ars h).length:Int).toNat:=by rw[tn];rfl
 have ms:∀{y:Int},y∈evS m ars h↔y∈h\/y∈moP m ars h:=Jrw m0 x.rise;have inL:∀{y:Int},y∈moP m ars h->y∈Jq m ars h:=fun {y} hy=>by obtain⟨i,_,e,_⟩:=Qc m0 hy;exact SK e
 have pos:1<=(Jq m ars h).length:=List.length_pos_iff.mpr ne;have up:=(Zt (ars:=ars) (ns:=h) m0).up;have rs:Rise (evS m ars h) m:=⟨fun y hy=>by
  unfold evS at hy;have:=Yk.mp (SR.mp hy).1
  omega,Zc _ _⟩
 refine⟨⟨rs,fun q hq h1 h2=>?_,fun q hq h1 h2=>?_⟩,?_⟩
 ·rcases ms.mp h1 with h1 | h1 <;> rcases ms.mp h2 with h2 | h2
  ·exact x.ind q hq h1 h2
  ·exact x.out q hq h1 (inL h2)
  ·exact ((YG m0).mp (inL h1)).2.2 _ hq h2
  ·obtain ⟨i,j,ei,ej,ha⟩:=Jgn m0 st (inL h1) (inL h2) hq;obtain⟨i',_,ei',hi'⟩:=Qc m0 h1;obtain⟨j',_,ej',hj'⟩:=Qc m0 h2;rw[(YD up ei' ei).2 rfl]at hi';rw[(YD up ej' ej).2 rfl]at hj';rw[mrE]at hi' hj';exact Jwn sp' ha hi' hj'
 ·obtain ⟨b0,n1,n2⟩:=(YG m0).mp h2;have hL:q.2∈Jq m ars h:=(YG m0).mpr ⟨b0,fun z=>n1 (ms.mpr (.inl z)),fun b hb z=>n2 b hb (ms.mpr (.inl z))⟩;rcases ms.mp h1 with h1|h1
  ·exact x.out q hq h1 hL
  ·obtain ⟨i,j,ei,ej,ha⟩:=Jgn m0 st (inL h1) hL hq;obtain⟨i',_,ei',hi'⟩:=Qc m0 h1;rw[(YD up ei' ei).2 rfl,mrE]at hi';obtain⟨c,hc,hc2⟩:=Jwm gs ok' sp' ln' ha hi';rw[<- mrE]at hc2;obtain⟨a,b,e1,rfl,_,_,hab⟩:=Jkh m0 st hc;have e1:j=a:=by omega
   subst e1;have m2:=Joc hc2;rw[Int.toNat_natCast]at m2;refine n2 _ ?_ (ms.mpr (.inr m2));rw[List.getD_eq_getElem?_getD,ej]at hab;exact hab
 ·obtain ⟨p,hp⟩:=Jss ok' sp' gs (by omega);rw[<- mrE]at hp;have hp:=Joc hp;conv=>lhs;rw[UF m0 x.rise]
  conv=>rhs;rw[UF m0 rs]
  rw[<- List.countP_eq_length_filter,<- List.countP_eq_length_filter];have hl:=(YG m0).mp (inL hp);refine Jhx (fun y _ hy=>decide_eq_true (ms.mpr (.inl (of_decide_eq_true hy)))) ⟨_,Yk.mpr (by omega),decide_eq_true (ms.mpr (.inr hp)),fun z=>hl.2.1 (of_decide_eq_true z)⟩
theorem Jso(m0:0<=m){h:VY}(x:Rise h m)(e:Jq m ars h=[]):evS m ars h=h:=by
 have e2:moP m ars h=[]:=by unfold moP;rw[e];rfl
 conv=>rhs;rw[UF m0 x]
 unfold evS;rw[e2];congr 1;funext p;simp
end
end Hk
namespace Hk
open PySem L2 PySem.W
theorem Jtl{m:Int}{ars:VX}{S:VY}(ga:Jy m ars)(h:JR m ars S=false){p:Int}(p0:0<=p)(pm:p<m):p∈S↔∀b∈ldI ars p,b∉S:=by
 unfold JR at h;rw[Bool.or_eq_false_iff]at h;obtain⟨h1,h2⟩:=h;constructor
 ·intro hp b hb hz;have:=List.any_eq_false.mp h1 (p,b) (JY.mp hb);unfold both at this;rw[decide_eq_true hp,decide_eq_true hz]at this;exact this rfl
 ·intro hn;have:=List.any_eq_false.mp h2 p (SL.mpr ⟨p.toNat,LZ.mpr (by omega),by omega⟩);have:Yl ars S p=true:=by simpa using this
  unfold Yl at this;rcases Bool.or_eq_true_iff.mp this with z|z
  ·exact of_decide_eq_true z
  ·obtain ⟨⟨x,b⟩,hq,hc⟩:=List.any_eq_true.mp z;rw[Bool.and_eq_true]at hc;have e:x=p:=of_decide_eq_true hc.1;subst e;exact absurd (of_decide_eq_true hc.2) (hn b (JY.mpr hq))
theorem Jua{m:Int}{ars:VX}{S:VY}(m0:0<=m)(ga:Jy m ars)(h:JR m ars S=false){i:Nat}(hi:i<m.toNat){b:Bool}(e:sett m ars i=some b):b=decide ((i:Int)∈S):=by
 have cl:Yy m.toNat (fun i=>ldI ars i) (fun i=>if i<m.toNat then some (decide ((i:Int)∈S))else none):=fun j hj=>by
  have inn:∀b∈ldI ars (j:Int),(if b.toNat<m.toNat then some (decide (((b.toNat:Nat):Int)∈S))else none)=some (decide (b∈S)):=fun b hb=>by have g:=ga _ (JY.mp hb);dsimp only at g;rw[if_pos (by omega),show((b.toNat:Nat):Int)=b by omega]
  dsimp only;rw[if_pos hj];unfold stb;have k:=Jtl ga h (p:=(j:Int)) (by omega) (by omega);by_cases c:(j:Int)∈S
  ·have hn:=k.mp c;rw[if_neg,if_pos]
   ·rw [decide_eq_true c]
   ·refine SM.mpr fun b hb=>?_;dsimp only;rw[inn b hb,decide_eq_false (hn b hb)];rfl
   ·intro z;obtain⟨b,hb,hc⟩:=List.any_eq_true.mp z;dsimp only at hc;rw[inn b hb,decide_eq_false (hn b hb)]at hc;cases hc
  ·have:=mt k.mpr c;obtain⟨b,hb⟩:=Classical.not_forall.mp this;obtain⟨h1,h2⟩:=Classical.not_imp.mp hb;rw[if_pos]
   ·rw [decide_eq_false c]
   ·refine List.any_eq_true.mpr ⟨b,h1,?_⟩;dsimp only;rw[inn b h1,decide_eq_true (Classical.not_not.mp h2)];rfl
 have:=Ww cl m.toNat i b e;dsimp only at this;rw[if_pos hi]at this;exact(Option.some.inj this).symm
section
variable{P:VC}{w:VF}{K:Frag}{mg:VZ}{base:Heap}
def spSR:Sp:=fun vs H Q _=>∃(a t:VB)(m:Int)(us:VS)(ars:VX),vs=[.ref a]/\Web H a t m us ars/\Jy m ars/\1<=m/\m<=11/\∀H',Same H H'->Q (.bl true) H'
theorem kn_sr(D:DefAt K mg "_law_settled_right" Yv ["web"])(fr:Free mg ["enumerate","int"])(ka:Kn P w K mg base 7 "always_in" ["web"] (Jio Zv))(kn:Kn P w K mg base 7 "never_in" ["web"] (Jio Ys))(ks:Kn P w K mg base 2 "settled_marks" ["web"] Jcd):Kn P w K mg base 8 "_law_settled_right" ["web"] spSR:=by
 have sc:FnScope ["web","always","never","place","mark"] ["web"] (Jh Yv):=⟨rfl,rfl,rfl,by decide +kernel,rfl,by decide +kernel,by decide +kernel⟩;refine D.kn (N:=["web","always","never","place","mark"]) sc (fun vs H Q E h=>?_) (fun f cdv A outer s H vs Q E hr h=>?_)
 ·obtain ⟨a,t,m,us,ars,rfl,_⟩:=h;rfl
 ·obtain ⟨a,t,m,us,ars,rfl,W,ga,m1,m12,kk⟩:=h;have r2:=hr.mono (j:=2) (by decide);have r7:=hr.mono (j:=7) (by decide);have m_enumerate:=fr "enumerate" (by simp);have m_int:=fr "int" (by simp);refine⟨_,(Jd (Jr (i:=1) sc.nd rfl (Or.inl rfl) (Jl ka r7 (Ja (pv 0) Jb))) (Jd (Jr (i:=2) sc.nd rfl (Or.inl rfl) (Jl kn r7 (Ja (pv 0) Jb))) (Jd (YL PassesOwn.never rfl (Jfk rfl m_enumerate (Ja (Jl ks r2 (Ja (pv 0) Jb)) Jb)) (Qw (n:=2) rfl (Yf (Jp (i:=3) sc.nd rfl (Or.inl rfl)) (Yf (Jp (i:=4) sc.nd rfl (Or.inl rfl)) Ub))) (Je (JA (PW.pt (Wi (Jo UV (pv 4) Yr (Jn _)) (Zl (Jo UW (pv 3) (Jv JB (JP (Ja (pv 2) (Ja (pv 1) Jb))) (JN QJ rfl m_int Uj (Ja (pv 4) Jb)) (fun _ _=>rfl)) rfl)))) (Je (Ji JG)) Jt))) (Je (Ji JG))))),?_⟩;refine⟨_,rfl,a,t,m,us,ars,rfl,W,ga,m1,m12,fun qa T H1 s1 hu hqa=>?_⟩;refine Jw ?_;dsimp only[List.set];refine⟨_,rfl,a,t,m,us,ars,rfl,W.mono s1,ga,m1,m12,fun qn T2 H2 s2 hu2 hqn=>?_⟩;have eT:=hu2.uniq hu;subst eT;refine Jw ?_;dsimp only[List.set];have s12:=s1.trans s2;have hqa:=s2 _ _ hqa;refine⟨_,rfl,a,t,m,us,ars,rfl,W.mono s12,ga,fun l H3 s3 nl hl=>?_⟩;have s13:=s12.trans s3;have hqa:=s3 _ _ hqa;have hqn:=s3 _ _ hqn;refine⟨l,_,rfl,hl,Jcs (xs:=(Jez m ars).map oV) (fun i σ H4=>∃v3 v4:Option V,σ=[some (.ref a),some (.ref qa),some (.ref qn),v3,v4]/\Same H3 H4) ⟨_,_,rfl,Same.refl _⟩ (fun i σ H4 _ ⟨_,_,_,s4⟩=>s4 _ _ hl) ?_ ?_⟩
  ·rintro i v σ H4 pr hi ⟨v3,v4,rfl,s4⟩ hpr;rw[List.getElem?_map]at hi;obtain⟨o,eo,rfl⟩:=SX.mp hi;have s5:=s4.trans (Same.upd (o:=.tup [.int (i:Int),oV o]) hpr);refine⟨pr,_,rfl,SqT.of Jc,rfl,_,_,rfl,_,_,rfl,rfl,?_⟩;dsimp only[List.set];generalize upd H4 pr (.tup [.int (i:Int),oV o])=H5 at s5;refine⟨_,rfl,rfl,_,rfl,?_⟩;cases o with
   | none=>exact iteF ⟨_,_,rfl,s5⟩
   | some b =>
    refine iteT ?_;have il:i<m.toNat:=by have:=(SY.mp eo).1;unfold Jez at this;rw[List.length_map,List.length_range]at this;exact this
    have es:sett m ars i=some b:=by unfold Jez at eo;rw[List.getElem?_map,List.getElem?_range il]at eo;exact Option.some.inj eo
    have al:∀S∈T2,b=decide ((i:Int)∈S):=fun S hS=>Jua (by omega) ga ((hu.mem S).mp hS).2 il es;refine⟨_,rfl,_,rfl,_,rfl,(by show 2<=sizeLine;decide),fun L hL=>?_⟩;have s6:=s5.trans (Same.upd (o:=.lst [.ref qn,.ref qa]) hL);have plm:∀f:Int->Bool,f (i:Int)=true->(i:Int)∈plP m f:=fun f hf=>SR.mpr ⟨SL.mpr ⟨i,LZ.mpr il,rfl⟩,hf⟩;refine⟨_,rfl,.inr ⟨b,rfl,?_⟩⟩;cases b with
    | true =>
     refine⟨L,_,1,.ref qa,rfl,rfl,SqL.of Jc,rfl,qa,_,rfl,.inr (SqT.of (s6 _ _ hqa)),rfl,JL _,_,rfl,?_⟩;show if (!inV (.int (i:Int)) ((plP m (Zv T2)).map V.int))=true then _ else _
     rw[Wr,decide_eq_true (plm _ (List.all_eq_true.mpr fun S hS=>(al S hS).symm))];exact iteF ⟨_,_,rfl,s6⟩
    | false =>
     refine⟨L,_,0,.ref qn,rfl,rfl,SqL.of Jc,rfl,qn,_,rfl,.inr (SqT.of (s6 _ _ hqn)),rfl,JL _,_,rfl,?_⟩;show if (!inV (.int (i:Int)) ((plP m (Ys T2)).map V.int))=true then _ else _
     have hn:Ys T2 (i:Int)=true:=by unfold Ys;rw[Bool.not_eq_true'];exact List.any_eq_false.mpr fun S hS=>by rw[<- al S hS];exact Bool.false_ne_true
     rw[Wr,decide_eq_true (plm _ hn)];exact iteF ⟨_,_,rfl,s6⟩
  ·rintro σ H4 ⟨v3,v4,rfl,s4⟩;exact kk _ (s13.trans s4)
end
section
variable{m:Int}{ars:VX}{bs:List Bool}
def nB(m:Int)(ars:VX)(bs:List Bool):Nat:=(fltM bs (AMk ars m.toNat)).length
theorem Qd{c:List Bool}:c∈fltM bs (AMk ars m.toNat)↔(c.length=m.toNat/\noF ars c=true)/\c.take bs.length=bs:=by unfold fltM;rw[List.mem_filter,YO,decide_eq_true_eq]
theorem Jfm(hl:(bs.length:Int)<=m):pF ars (m.toNat-bs.length) bs=none↔0<nB m ars bs:=by
 rw[UU];unfold nB;rw[List.length_pos_iff_exists_mem];constructor
 ·rintro ⟨r,h1,h2⟩;exact⟨bs++r,Qd.mpr ⟨⟨by rw[List.length_append];omega,h2⟩,by rw[List.take_left'];rfl⟩⟩
 ·rintro ⟨c,hc⟩;obtain⟨⟨h1,h2⟩,h3⟩:=Qd.mp hc;refine⟨c.drop bs.length,by rw[List.length_drop];omega,?_⟩;have e:bs++c.drop bs.length=c:=by
   conv=>lhs;lhs;rw[<- h3]
   exact List.take_append_drop _ _
  rw[e];exact h2
theorem Jhu(hl:(bs.length:Int)=m):nB m ars bs<2:=by
 unfold nB;have nd:(fltM bs (AMk ars m.toNat)).Nodup:=List.Pairwise.filter _ (QN ars _);have all:∀c∈fltM bs (AMk ars m.toNat),c=bs:=fun c hc=>by obtain⟨⟨h1,_⟩,h3⟩:=Qd.mp hc;rw[<- h3,List.take_of_length_le (by omega)]
 match h:fltM bs (AMk ars m.toNat) with
 | []=>simp
 | [x]=>simp
 | x::y::r =>
  rw[h]at nd all;have e1:=all x (by simp);have e2:=all y (by simp);have:=(List.pairwise_cons.mp nd).1 y (by simp);rw[e1,e2]at this;exact absurd rfl this
theorem UM{c:List Bool}(h:bs.length<c.length)(x:Bool):c.take (bs++[x]).length=bs++[x]↔c.take bs.length=bs/\c.getD bs.length false=x:=by
 rw[List.length_append,List.length_singleton,Jx c bs.length c[bs.length] (List.getElem?_eq_getElem h),List.getD_eq_getElem?_getD,List.getElem?_eq_getElem h,Option.getD_some];constructor
 ·intro e;have:=List.append_inj e (by rw[List.length_take];omega);exact⟨this.1,by have:=this.2;simpa using this⟩
 ·rintro ⟨a,b⟩;rw[a,b]
theorem Jjt{α:Type}(f g:α->Bool):∀l:List α,(l.filter fun c=>f c&&!g c).length+(l.filter fun c=>f c&&g c).length=(l.filter f).length
 | []=>rfl
 | c::l=>by have ih:=Jjt f g l;cases hf:f c<;>cases hg:g c<;>simp only[List.filter_cons,hf,hg,Bool.not_false,Bool.not_true,Bool.and_true,Bool.and_false,Bool.false_and,Bool.true_and,if_true,if_false,Bool.false_eq_true,List.length_cons]<;>omega
theorem Jfl(hl:(bs.length:Int)<m):nB m ars (bs++[false])+nB m ars (bs++[true])=nB m ars bs:=by
 unfold nB fltM;have e0:(AMk ars m.toNat).filter (fun c=>decide (c.take (bs++[false]).length=bs++[false]))=(AMk ars m.toNat).filter (fun c=>decide (c.take bs.length=bs)&&!c.getD bs.length false):=List.filter_congr fun c hc=>by have lc:=(YO.mp hc).1;rw[Bool.eq_iff_iff,decide_eq_true_eq,UM (by omega),Bool.and_eq_true,decide_eq_true_eq,Bool.not_eq_true']
 have e1:(AMk ars m.toNat).filter (fun c=>decide (c.take (bs++[true]).length=bs++[true]))=(AMk ars m.toNat).filter (fun c=>decide (c.take bs.length=bs)&&c.getD bs.length false):=List.filter_congr fun c hc=>by have lc:=(YO.mp hc).1;rw[Bool.eq_iff_iff,decide_eq_true_eq,UM (by omega),Bool.and_eq_true,decide_eq_true_eq]
 rw[e0,e1];exact Jjt (fun c:List Bool=>decide (c.take bs.length=bs)) (fun c:List Bool=>c.getD bs.length false) _
theorem Jhj(hl:(bs.length:Int)<m):nxB ((fltM bs (AMk ars m.toNat)).map fun c=>c.getD bs.length false)=[false,true].filter fun x=>decide (0<nB m ars (bs++[x])):=by
 unfold nxB;refine List.filter_congr fun x _=>?_;refine decide_eq_decide.mpr ?_;unfold nB;rw[List.length_pos_iff_exists_mem,List.mem_map];refine exists_congr fun c=>?_;rw[Qd,Qd];constructor
 ·rintro ⟨⟨h,h2⟩,h3⟩;exact⟨h,(UM (by omega) x).mpr ⟨h2,h3⟩⟩
 ·rintro ⟨h,h2⟩;have:=(UM (by omega) x).mp h2;exact⟨⟨h,this.1⟩,this.2⟩
end
section
variable{P:VC}{w:VF}{K:Frag}{mg:VZ}{base:Heap}
def spBR:Sp:=fun vs H Q _=>∃(a t c:VB)(m:Int)(us:VS)(ars:VX)(bs:List Bool),vs=[.ref a,.ref c]/\WB H a t c m us ars bs/\1<=m/\m<=11/\∀H',Same H H'->Q (.bl true) H'
theorem kn_br(D:DefAt K mg "_law_begun_right" YJ ["web","begun"])(fr:Free mg ["int","len","sum"])(kb:Kn P w K mg base 7 "holds_begun" ["web","begun"] Jte)(kf:Kn P w K mg base 19 "cases_for" ["web","begun"] Jtf)(kg:Kn P w K mg base 19 "cases_good" ["web","begun","thing"] spCG)(km:Kn P w K mg base 7 "next_marks" ["web","begun"] Jtd):Kn P w K mg base 20 "_law_begun_right" ["web","begun"] spBR:=by
 have sc:FnScope ["web","begun","many","paper","parts","due"] ["web","begun"] (Jh YJ):=⟨rfl,rfl,rfl,by decide +kernel,rfl,by decide +kernel,by decide +kernel⟩;refine D.kn (N:=["web","begun","many","paper","parts","due"]) sc (fun vs H Q E h=>?_) (fun f cdv A outer s H vs Q E hr h=>?_)
 ·obtain ⟨a,t,c,m,us,ars,bs,rfl,_⟩:=h;rfl
 ·obtain ⟨a,t,c,m,us,ars,bs,rfl,B,m1,m12,kk⟩:=h;have hu:=YI hr;have r7:=hr.mono (j:=7) (by decide);have r19:=hr.mono (j:=19) (by decide);have m_int:=fr "int" (by simp);have m_len:=fr "len" (by simp);have m_sum:=fr "sum" (by simp);have nd0:(["mark","web","begun"]:VJ).Nodup:=by decide +kernel
  have nd1:(["mark","parts"]:VJ).Nodup:=by decide +kernel
  refine⟨_,(Jd (Jr (i:=2) sc.nd rfl (Or.inl rfl) (Jl kb r7 (Ja (pv 0) (Ja (pv 1) Jb)))) (Jd (Jr (i:=3) sc.nd rfl (Or.inl rfl) (Jl kf r19 (Ja (pv 0) (Ja (pv 1) Jb)))) (Jd (JA (PW.pt (ZS (Jo UY (JK Jdt (pv 3) Yr (Jn _)) (JK QV (pv 2) Jf (Jn _)) (Jn _)) (Zr (PW.pt (Wi (Jo UV (pv 3) Yr (Jn _)) (Zl (Yj (JM (Jl kg r19 (Ja (pv 0) (Ja (pv 1) (Ja (pv 3) Jb)))))))))))) (Je (Ji JG)) Jt) (Jd (JA (Jo Yz (Jm Ju rfl m_len PySem.boot_len (Ja (pv 1) Jb)) (Jv Jz (pv 0) Jf (fun _ _=>rfl)) (Jn _)) (Je (Ji (Yw (JK (WO (Nat.lt_of_succ_lt hu)) (Jl km r7 (Ja (pv 0) (Ja (pv 1) Jb))) (JP Jb) (Jn _)) (YN (JK QU (pv 2) Jf (Jn _)))))) Jt) (Jd (Jr (i:=4) sc.nd rfl (Or.inr rfl) (Yb (N:=["mark","web","begun"]) (src:=[none,some 0,some 1]) rfl ⟨rfl,rfl,rfl,rfl,⟨⟨rfl,rfl⟩,⟨⟨rfl,rfl⟩,trivial⟩⟩,rfl,rfl,rfl⟩ (Js (i:=0) rfl) (JQ (JP (Ja JG (Ja JG Jb)))) (fun C s H fp=>⟨(Jp (i:=0) nd0 rfl (Or.inl rfl)),JC,(Jl kb r7 (Ja (pv 1) (Ja (JD YZ (pv 2) (JI (Ja (pv 0) Jb))) Jb)))⟩))) (Jd (YK (i:=5) (N:=["mark","parts"]) (src:=[none,some 4]) sc.nd rfl rfl rfl rfl ⟨rfl,rfl,rfl,rfl,⟨⟨rfl,rfl⟩,trivial⟩,rfl,rfl,rfl⟩ (Js (i:=0) rfl) (JQ (JP (Ja JG (Ja JG Jb)))) (fun C s H fp=>⟨(Jp (i:=0) nd1 rfl (Or.inl rfl)),(JW (Jo QV (Jv (r:=rIxL K) JB (pv 1) (JN QJ rfl m_int Uj (Ja (pv 0) Jb)) (fun _ _=>rfl)) Jf (Jn _))),(pv 0)⟩)) (Je (Ji (Yw (JK Yz (Jm (Jmf rfl) rfl m_sum Jml (Ja (pv 4) Jb)) (pv 2) (Jn _)) (YN (JK (Jut (Nat.lt_of_succ_lt hu)) (Jl km r7 (Ja (pv 0) (Ja (pv 1) Jb))) (pv 5) (Jn _)))))))))))),?_⟩;have c0:0<=sizeLine:=by decide
  have c1:1<=sizeLine:=by decide
  have c2:2<=sizeLine:=by decide
  have lb:=B.len;refine⟨_,rfl,_,rfl,a,t,c,m,us,ars,bs,rfl,B.web,B.good,m1,m12,B.at_,lb,fun H1 s1=>?_⟩;refine Jw ?_;dsimp only[List.set];refine Jaa (a:=tAsg _ _) (fun σ H2=>∃v:V,σ=[some (.ref a),some (.ref c),some (.int ((nB m ars bs:Nat):Int)),some v,none,none]/\Same H H2/\((v=.non/\pF ars (m.toNat-bs.length) bs=none)\/∃x,pF ars (m.toNat-bs.length) bs=some x/\IsP H2 x v)) (fun D' hD=>?_) ?_
  ·refine ⟨_,rfl,_,rfl,a,t,c,m,us,ars,bs,rfl,B.mono s1,m12,?_⟩;cases e:pF ars (m.toNat-bs.length) bs with
   | none=>exact fun H2 s2=>hD _ _ ⟨.non,rfl,s1.trans s2,.inl ⟨rfl,e⟩⟩
   | some x=>exact fun v H2 s2 ip=>hD _ _ ⟨v,rfl,s1.trans s2,.inr ⟨x,e,ip⟩⟩
  rintro σ H2 ⟨v,rfl,s2,hv⟩;refine Jaa (a:=tIfS _ _ _) (fun σ H3=>σ=[some (.ref a),some (.ref c),some (.int ((nB m ars bs:Nat):Int)),some v,none,none]/\Same H H3) (fun D' hD=>?_) ?_
  ·rcases hv with ⟨rfl,e⟩ | ⟨x,e,ip⟩
   ·have pos:=(Jfm lb).mp e;refine⟨_,rfl,rfl,_,rfl,_,_,rfl,rfl,rfl,_,rfl,?_⟩;have e0:decide ((0:Int)<((nB m ars bs:Nat):Int))=true:=decide_eq_true (by omega);refine ite2 (fun h=>?_) (fun _=>?_)
    ·have h':(!decide (V.bl true=V.bl (decide ((0:Int) < ((nB m ars bs:Nat):Int)))))=true:=h;rw[e0]at h';exact absurd h' (by decide)
    exact⟨_,rfl,rfl,_,rfl,iteF (hD _ _ ⟨rfl,s2⟩)⟩
   ·have nz:¬ 0 < nB m ars bs:=fun z=>by
     rw[(Jfm lb).mpr z]at e;cases e
    obtain⟨q,rfl⟩:=ip.ref;refine⟨_,rfl,rfl,_,rfl,_,_,rfl,rfl,rfl,_,rfl,?_⟩;have e0:decide ((0:Int)<((nB m ars bs:Nat):Int))=false:=decide_eq_false (by omega);refine ite2 (fun h=>?_) (fun _=>?_)
    ·have h':(!decide (V.bl false=V.bl (decide ((0:Int) < ((nB m ars bs:Nat):Int)))))=true:=h;rw[e0]at h';exact absurd h' (by decide)
    obtain⟨gp,dp⟩:=Jdr (m:=m) e (by omega);refine⟨_,rfl,rfl,_,rfl,iteT ?_⟩;refine⟨_,rfl,_,rfl,_,rfl,a,t,c,m,us,ars,bs,.ref q,x,rfl,B.mono s2,ip,gp,by omega,fun H3 s3=>⟨_,rfl,iteF (hD _ _ ⟨rfl,s2.trans s3⟩)⟩⟩
  rintro σ H3 ⟨rfl,s3⟩;have B3:=B.mono s3;refine⟨_,rfl,c,_,rfl,.inr (SqT.of B3.at_),_,rfl,a,_,_,_,rfl,rfl,SqT.of B3.web.top,rfl,rfl,_,rfl,?_⟩;rw[List.length_map];refine ite2 (fun z=>?_) (fun z=>?_)
  ·have z:(bs.length:Int)=m:=V.int.inj (of_decide_eq_true z);refine⟨_,rfl,_,rfl,a,t,c,m,us,ars,bs,rfl,B3.web,B3.good,m1,m12,B3.at_,lb,fun l H4 s4 nl hl=>?_⟩;rw[if_pos z]at hl;refine⟨c0,fun e he=>?_⟩;have s5:=Same.upd (o:=.lst []) he;refine⟨l,e,_,rfl,rfl,SqL.of (s5 _ _ hl),SqL.of Jc,_,rfl,iteT ?_⟩;refine⟨_,rfl,_,_,rfl,rfl,?_⟩;have fc:=Jhu (ars:=ars) z;have e0:decide (((nB m ars bs:Nat):Int)<2)=true:=decide_eq_true (by omega);have g:Q (.bl (decide (((nB m ars bs:Nat):Int)<2))) (upd H4 e (.lst [])):=by
    rw[e0];exact kk _ ((s3.trans s4).trans s5)
   exact g
  ·have z:¬ (bs.length:Int)=m:=fun h=>z (decide_eq_true (by rw [h]));have lt:(bs.length:Int)<m:=by omega
   refine⟨c2,fun L hL=>?_⟩;have s4:=Same.upd (o:=.lst [.bl false,.bl true]) hL;have hL4:upd H3 L (.lst [.bl false,.bl true]) L=some (.lst ([false,true].map V.bl)):=Jc;have s34:=s3.trans s4;generalize upd H3 L (.lst [.bl false,.bl true])=H4 at s4 hL4 s34;have B4:=B.mono s34;refine⟨L,rfl,⟨_,SqL.of hL4⟩,Ya (xs:=[false,true].map V.bl) (fun i zs H5=>Same H4 H5/\zs=(([false,true].take i).map fun x=>((nB m ars (bs++[x]):Nat):Int)).map V.int) ⟨Same.refl _,rfl⟩ ?_ ?_ ?_⟩
   ·rintro i zs H5 hi ⟨s5,rfl⟩;refine⟨SqL.of (s5 _ _ hL4),SZ (Jk ?_)⟩;rw[List.length_map,List.length_map,List.length_take];simp;omega
   ·rintro zs H5 ⟨s5,rfl⟩ lp hlp;have s6:=Same.upd (o:=.lst ((([false,true].take ([false,true].map V.bl).length).map fun x=>((nB m ars (bs++[x]):Nat):Int)).map V.int)) hlp;have hlp6:upd H5 lp (.lst ((([false,true].take ([false,true].map V.bl).length).map fun x=>((nB m ars (bs++[x]):Nat):Int)).map V.int)) lp=some (.lst (([((nB m ars (bs++[false]):Nat):Int),((nB m ars (bs++[true]):Nat):Int)]).map V.int)):=Jc;refine Jw ?_;dsimp only[List.set];have s46:=s34.trans (s5.trans s6);generalize upd H5 lp (.lst ((([false,true].take ([false,true].map V.bl).length).map fun x=>((nB m ars (bs++[x]):Nat):Int)).map V.int))=H6 at s6 hlp6 s46;refine⟨c2,fun L2 hL2=>?_⟩;have s7:=Same.upd (o:=.lst [.bl false,.bl true]) hL2;have hL7:upd H6 L2 (.lst [.bl false,.bl true]) L2=some (.lst ([false,true].map V.bl)):=Jc;have s47:=s46.trans s7;have hlp7:=s7 _ _ hlp6;generalize upd H6 L2 (.lst [.bl false,.bl true])=H7 at s7 hL7 s47 hlp7;refine⟨L2,rfl,⟨_,SqL.of hL7⟩,ZB (xs:=[false,true].map V.bl) (fun i zs H8=>Same H7 H8/\zs=(([false,true].take i).filter fun x=>decide (0<nB m ars (bs++[x]))).map V.bl) ⟨Same.refl _,rfl⟩ ?_ ?_ ?_⟩
    ·rintro i zs H8 hi ⟨s8,rfl⟩;refine⟨SqL.of (s8 _ _ hL7),SZ (Jk ?_)⟩;have:=SU (fun x=>decide (0<nB m ars (bs++[x]))) ([false,true].take i);rw[List.length_take]at this;rw[List.length_map];simp at this ⊢;omega
    ·rintro zs H8 ⟨s8,rfl⟩ ld hld;have s9:=Same.upd (o:=.lst ((([false,true].take ([false,true].map V.bl).length).filter fun x=>decide (0<nB m ars (bs++[x]))).map V.bl)) hld;have hld9:upd H8 ld (.lst ((([false,true].take ([false,true].map V.bl).length).filter fun x=>decide (0<nB m ars (bs++[x]))).map V.bl)) ld=some (.lst (([false,true].filter fun x=>decide (0<nB m ars (bs++[x]))).map V.bl)):=Jc;have s89:=s8.trans s9;have hlp9:=s89 _ _ hlp7;have s49:=s47.trans s89;have B9:=B.mono s49;generalize upd H8 ld (.lst ((([false,true].take ([false,true].map V.bl).length).filter fun x=>decide (0<nB m ars (bs++[x]))).map V.bl))=H9 at s9 hld9 s89 hlp9 s49 B9;refine⟨_,rfl,lp,_,rfl,SqL.of hlp9,_,rfl,rfl,_,rfl,?_⟩;have pc:=Jfl (ars:=ars) lt;rw [decide_eq_true (by
      have:((nB m ars (bs++[false]):Nat):Int)+((nB m ars (bs++[true]):Nat):Int)=((nB m ars bs:Nat):Int):=by exact_mod_cast pc
      rw[<- this]
      simp)]
     refine iteT ?_;refine⟨_,rfl,_,rfl,a,t,c,m,us,ars,bs,rfl,B9.web,B9.good,m1,m12,B9.at_,lb,fun l H10 s10 nl hl=>?_⟩;rw[if_neg z,Jhj lt]at hl;refine⟨_,rfl,l,ld,_,_,rfl,rfl,SqL.of hl,SqL.of (s10 _ _ hld9),WT _,WT _,?_⟩;rw[if_neg Bool.false_ne_true,Jee,decide_eq_true rfl];exact kk _ (s49.trans s10)
    ·rintro i x zs H8 hx hi ⟨s8,rfl⟩;rw[List.getElem?_map]at hx;obtain⟨b,eb,rfl⟩:=SX.mp hx;have ix:(if b=true then(1:Int)else 0)=if b=true then 1 else 0:=rfl
     refine⟨_,rfl,_,rfl,.inr ⟨b,rfl,lp,_,_,.int ((nB m ars (bs++[b]):Nat):Int),rfl,rfl,SqL.of (s8 _ _ hlp7),?_,_,_,rfl,rfl,_,rfl,?_⟩⟩
     ·cases b <;> rfl
     refine ite2 (fun h2=>?_) (fun h2=>?_)
     ·have h2:(0:Int) < ((nB m ars (bs++[b]):Nat):Int):=of_decide_eq_true h2;refine⟨_,rfl,nx hi ⟨s8,?_⟩⟩;rw[JJ _ _ _ _ eb,if_pos (decide_eq_true (by omega)),List.map_append];rfl
     ·have h2:¬ (0:Int) < ((nB m ars (bs++[b]):Nat):Int):=fun z=>h2 (decide_eq_true z);refine nx hi ⟨s8,?_⟩;rw[JJ _ _ _ _ eb,if_neg (fun z=>h2 (by have:=of_decide_eq_true z;omega)),List.append_nil]
   ·rintro i x zs H5 hx hi ⟨s5,rfl⟩;rw[List.getElem?_map]at hx;obtain⟨b,eb,rfl⟩:=SX.mp hx;have B5:=B4.mono s5;refine⟨_,rfl,_,rfl,_,rfl,c1,fun u hu'=>?_⟩;have s6:=Same.upd (o:=.tup [.bl b]) hu';refine⟨c,u,_,_,rfl,rfl,s6 _ _ B5.at_,Jc,SZ (Jk (by rw[List.length_map,List.length_singleton];omega)),fun q H7 s7 hq=>?_⟩;have B7:=(B5.mono s6).mono s7;have hq:H7 q=some (.tup ((bs++[b]).map V.bl)):=by rw[hq,List.map_append];rfl
    refine⟨a,t,q,m,us,ars,bs++[b],rfl,B7.web,B7.good,m1,m12,hq,by rw[List.length_append,List.length_singleton];push_cast;omega,fun H8 s8=>nx hi ⟨((s5.trans s6).trans s7).trans s8,?_⟩⟩;rw[Jx _ _ _ eb,List.map_append,List.map_append];rfl
end
theorem Jqs{m:Int}{ars:VX}(ga:Jy m ars)(no:¬ ∃s:Int,0<=s/\s<m/\Rc2 (ldF ars) s s 1)(m0:0<=m):∃ks:VY,(ks.length:Int)=m/\SideP (grC (ldF ars) m.toNat) m.toNat ars ks:=by
 have ok:=Jhr ga;have ex:∀p:Nat,∃k:Int,p<m.toNat->Rc2 (ldF ars) (lstF (grC (ldF ars) m.toNat) (p:Int)) (p:Int) k:=fun p=>by
  by_cases hp:p<m.toNat
  ·obtain ⟨_,a2,_⟩:=ok.lst hp;obtain⟨_,r2⟩:=((ok.gr p hp).mem _).mp a2;obtain⟨k,hk⟩:=r2.rc2;exact⟨k,fun _=>hk⟩
  ·exact ⟨0,fun z=>absurd z hp⟩
 refine⟨(List.range m.toNat).map fun p=>Classical.choose (ex p),?_,?_⟩
 ·rw [List.length_map,List.length_range];omega
 ·refine Classical.byContradiction fun z=>no ?_;refine Jkm ga ok ?_ (fun p hp=>?_) z
  ·rw [List.length_map,List.length_range];omega
  ·rw [List.getD_eq_getElem?_getD,List.getElem?_map,List.getElem?_range hp];exact Classical.choose_spec (ex p) hp
theorem Jps{n:Nat}{ars:VX}(ga:Jy (n:Int) ars)(st:Stc ars)(no:¬ ∃s:Int,0<=s/\s<(n:Int)/\Rc2 (ldF ars) s s 1):∀k,Hf (n:Int) ars (evH (n:Int) ars k)/\(Jq (n:Int) ars (evH (n:Int) ars k)=[]\/k<=(evH (n:Int) ars k).length)
 | 0=>⟨Hf.empty _ _,.inr (LX _)⟩
 | k + 1=>by
  obtain⟨hf,h⟩:=Jps ga st no k;by_cases c:Jq (n:Int) ars (evH (n:Int) ars k)=[]
  ·have e:evH (n:Int) ars (k + 1)=evH (n:Int) ars k:=Jso (by omega) hf.rise c;rw[e];exact⟨hf,.inl c⟩
  ·have gs:Jy ((Jq (n:Int) ars (evH (n:Int) ars k)).length:Int) (am (Jq (n:Int) ars (evH (n:Int) ars k)) ars):=(Jkg (Zt (by omega)).up st).good ga;obtain⟨ks,ln,sp⟩:=Jqs gs (Jux (by omega) st no) (by omega);rw[Int.toNat_natCast]at sp;obtain⟨hf',lt⟩:=Jsn (by omega) ga st hf c (by omega) sp;rcases h with h|h
   ·exact absurd h c
   ·exact ⟨hf',.inr (by show k + 1<=(evS (n:Int) ars (evH (n:Int) ars k)).length; omega)⟩
theorem Jpj{n:Nat}{ars:VX}(ga:Jy (n:Int) ars)(st:Stc ars)(no:¬ ∃s:Int,0<=s/\s<(n:Int)/\Rc2 (ldF ars) s s 1):∃S,Rise S (n:Int)/\JR (n:Int) ars S=false:=by
 obtain⟨hf,h⟩:=Jps ga st no (n+1);have e:Jq (n:Int) ars (evH (n:Int) ars (n+1))=[]:=by
  rcases h with h|h
  ·exact h
  ·have:=hf.rise.len;omega
 have hg:=hf.hold e;rw[Jbi hf.rise]at hg;exact⟨_,hf.rise,by simpa using hg⟩
theorem Jqz{f g:Nat->VY}(h:∀p b,b∈f p->b∈g p){a b k:Int}(r:Rc2 f a b k):Rc2 g a b k:=by
 induction r with
 | refl=>exact .refl
 | step _ hb ih=>exact .step ih (h _ _ hb)
theorem Jkf{α:Type}{l k:List α}(h:∀x,x∈l↔x∈k)(f:α->Bool):l.any f=k.any f:=by rw[Bool.eq_iff_iff,List.any_eq_true,List.any_eq_true];exact⟨fun⟨x,a,b⟩=>⟨x,(h x).mp a,b⟩,fun⟨x,a,b⟩=>⟨x,(h x).mpr a,b⟩⟩
theorem Jmd{m:Int}{ars T:VX}(h:∀x,x∈T↔x∈ars)(S:VY):JR m T S=JR m ars S:=by
 have e:Yl T S=Yl ars S:=by funext k;unfold Yl;rw[Jkf h]
 unfold JR;rw[Jkf h,e]
theorem Jvc{x y:Int×Int}(h:¬ lexB x y=true)(n:x≠y):lexB y x=true:=by
 rw[WR]at h ⊢;rcases x with⟨a,b⟩
 rcases y with⟨c,d⟩
 have:¬ (a=c/\b=d):=fun⟨e,e'⟩=>n (by rw[e,e']);dsimp only at h ⊢;omega
theorem Jvd{x y z:Int×Int}(h:lexB x y=true)(g:lexB y z=true):lexB x z=true:=by rw[WR]at *;omega
theorem Jtm(x:Int×Int):∀{l:VX},Stc l->∃T,Stc T/\∀z,z∈T↔z=x\/z∈l
 | [],_=>⟨[x],SV _ _,fun z=>by simp⟩
 | y::r,h=>by
  have h':=List.pairwise_cons.mp h;by_cases e:x=y
  ·exact ⟨y::r,h,fun z=>by rw [e]; simp⟩
  ·by_cases c:lexB x y=true
   ·exact ⟨x::y::r,List.pairwise_cons.mpr ⟨fun z hz=>by
     rcases List.mem_cons.mp hz with rfl|hz
     ·exact c
     ·exact Jvd c (h'.1 z hz),h⟩,fun z=>by simp⟩
   ·obtain ⟨T,s,hm⟩:=Jtm x h'.2;refine⟨y::T,List.pairwise_cons.mpr ⟨fun z hz=>?_,s⟩,fun z=>?_⟩
    ·rcases (hm z).mp hz with rfl | hz
     ·exact Jvc c e
     ·exact h'.1 z hz
    ·rw [List.mem_cons,List.mem_cons,hm];constructor
     ·rintro (a | a | a)
      ·exact .inr (.inl a)
      ·exact .inl a
      ·exact .inr (.inr a)
     ·rintro (a | a | a)
      ·exact .inr (.inl a)
      ·exact .inl a
      ·exact .inr (.inr a)
theorem Jne:∀L:VX,∃T,Stc T/\∀z,z∈T↔z∈L
 | []=>⟨[],List.Pairwise.nil,fun _=>Iff.rfl⟩
 | x::r=>by obtain⟨T,s,h⟩:=Jne r;obtain⟨U,s',h'⟩:=Jtm x s;exact⟨U,s',fun z=>by rw[h',h,List.mem_cons]⟩
theorem Jlz{m:Int}{ars:VX}(m0:0<=m)(ga:Jy m ars)(no:¬ ∃s:Int,0<=s/\s<m/\Rc2 (ldF ars) s s 1):∃S,Rise S m/\JR m ars S=false:=by obtain⟨T,st,hT⟩:=Jne ars;obtain⟨n,rfl⟩:=Int.eq_ofNat_of_zero_le m0;obtain⟨S,r,e⟩:=Jpj (n:=n) (ars:=T) (fun q hq=>ga q ((hT q).mp hq)) st fun⟨s,a,b,r⟩=>no ⟨s,a,b,Jqz (fun p b hb=>JY.mpr ((hT _).mp (JY.mp hb))) r⟩;exact⟨S,r,by rw[<- Jmd hT];exact e⟩
theorem Jue{m:Int}{ars:VX}(m0:0<=m)(ga:Jy m ars){o:Option (VY)}(io:IsOR (ldF ars) m.toNat o)(no:∀S,Rise S m->JR m ars S=true):∃R,o=some R/\Jkk (ldF ars) R/\(∀x∈R,0<=x/\x<(m.toNat:Nat))/\R.length<=m.toNat/\R.length%2=1:=by
 have ok:=io.ok (Qf ga);cases o with
 | none =>
  have ok:¬ ∃s:Int,0<=s/\s<(m.toNat:Nat)/\Rc2 (ldF ars) s s 1:=ok;rw[Int.toNat_of_nonneg m0]at ok;obtain⟨S,r,e⟩:=Jlz m0 ga ok;rw[no S r]at e;cases e
 | some R=>exact ⟨R,rfl,ok⟩
theorem Jqw{m:Int}{ars:VX}(m40:m<=40){R:VY}(h:Jkk (ldF ars) R)(hr:∀x∈R,0<=x/\x<(m.toNat:Nat))(ln:R.length<=m.toNat):Jts ars R:=by refine⟨h.1,h.2.1,by omega,fun k hk x y hx hy=>?_⟩;have e:=h.2.2 k hk x y hx hy;have e:y∈ldI ars ((x.toNat:Nat):Int):=e;rw[show((x.toNat:Nat):Int)=x by have:=hr x (List.mem_of_getElem? hx);omega]at e;exact JY.mp e
theorem Job{m:Int}{ars:VX}{S T:VY}(ga:Jy m ars)(hl:(ord (ldF ars) m.toNat).length=m.toNat)(x:∀p,0<=p->p<m->(p∈S↔∀b∈ldI ars p,b∉S))(y:∀p,0<=p->p<m->(p∈T↔∀b∈ldI ars p,b∉T)):∀p,0<=p->p<m->(p∈S↔p∈T):=by
 have key:∀(i:Nat)(p:Int),(ord (ldF ars) m.toNat)[i]?=some p->0<=p->p<m->(p∈S↔p∈T):=by
  intro i;induction i using Nat.strongRecOn with
  | _ i ih =>
   intro p hp p0 pm;rw[x p p0 pm,y p p0 pm];refine forall_congr' fun b=>forall_congr' fun hb=>not_congr ?_;have g:=ga _ (JY.mp hb);dsimp only at g;have hb':b∈ldF ars p.toNat:=by show b∈ldI ars ((p.toNat:Nat):Int);rw[show((p.toNat:Nat):Int)=p by omega];exact hb
   obtain⟨j,hj⟩:=List.mem_iff_getElem?.mp (QT hp b hb');rw[List.getElem?_take]at hj;split at hj
   ·rename_i c;exact ih j c b hj (by omega) (by omega)
   ·cases hj
 intro p p0 pm;obtain⟨i,hi⟩:=List.mem_iff_getElem?.mp (Jiz hl p0 pm);exact key i p hi p0 pm
theorem Jwe{m:Int}{ars:VX}{S:VY}(ga:Jy m ars)(h:∀p,0<=p->p<m->(p∈S↔∀b∈ldI ars p,b∉S)):JR m ars S=false:=by
 unfold JR;rw[Bool.or_eq_false_iff,List.any_eq_false,List.any_eq_false];refine⟨fun q hq z=>?_,fun k hk z=>?_⟩
 ·unfold both at z;rw[Bool.and_eq_true]at z;have g:=ga q hq;exact(h q.1 g.1 g.2.1).mp (of_decide_eq_true z.1) q.2 (JY.mpr hq) (of_decide_eq_true z.2)
 ·obtain ⟨j,hj,rfl⟩:=SL.mp hk;have hj:=LZ.mp hj;have hh:Yl ars S (j:Int)=true:=by
   unfold Yl;by_cases c:(j:Int)∈S
   ·rw [decide_eq_true c];rfl
   ·rw [Bool.or_eq_true];right;have:=mt (h (j:Int) (by omega) (by omega)).mpr c;obtain⟨b,hb⟩:=Classical.not_forall.mp this;obtain⟨h1,h2⟩:=Classical.not_imp.mp hb;exact List.any_eq_true.mpr ⟨((j:Int),b),JY.mp h1,by rw[decide_eq_true rfl,decide_eq_true (Classical.not_not.mp h2)];rfl⟩
  rw[hh]at z;cases z
theorem Jto(f:Nat->VY):∀(D acc:VY),(acc++D).Nodup->(D.foldl (fun S p=>if (f p.toNat).any (fun b=>decide (b∈S))then S else S++[p]) acc).Nodup
 | [],acc,h=>by rw [List.append_nil] at h; exact h
 | q::D,acc,h=>by
  rw[List.foldl_cons];refine Jto f D _ ?_;split
  ·exact h.sublist (List.Sublist.append_left (List.sublist_cons_self q D) acc)
  ·rw [List.append_assoc];exact h
theorem one30{m:Int}{ars:VX}{S:VY}(ga:Jy m ars)(hl:(ord (ldF ars) m.toNat).length=m.toNat)(pm:S.Perm (hsF (ldF ars) (ord (ldF ars) m.toNat)))(le:S.Pairwise (·<=·)):Rise S m/\JR m ars S=false/\∀T,Rise T m->JR m ars T=false->T=S:=by
 obtain⟨nd,bd,_⟩:=Wq (ldF ars) m.toNat m.toNat;have nd:(ord (ldF ars) m.toNat).Nodup:=nd;have up:S.Pairwise (·<·):=(le.and (pm.symm.nodup (Jto _ _ [] nd))).imp fun⟨a,b⟩=>by omega
 have kp:∀p,0<=p->p<m->(p∈S↔∀b∈ldI ars p,b∉S):=fun p p0 pm'=>by rw[pm.mem_iff,Jwg (Jiz hl p0 pm')];show(∀b∈ldI ars ((p.toNat:Nat):Int),_)↔_;rw[show((p.toNat:Nat):Int)=p by omega];exact forall_congr' fun b=>forall_congr' fun _=>not_congr pm.mem_iff.symm
 have rs:Rise S m:=⟨fun n hn=>by
  have:=bd n (Jed _ _ _ (pm.mem_iff.mp hn))
  omega,up⟩
 refine⟨rs,Jwe ga kp,fun T rt hT=>Jgp rt.up rs.up fun n=>?_⟩;have sm:=Job ga hl (S:=T) (T:=S) (fun p a b=>Jtl ga hT a b) kp;exact⟨fun hn=>(sm n (rt.bd n hn).1 (rt.bd n hn).2).mp hn,fun hn=>(sm n (rs.bd n hn).1 (rs.bd n hn).2).mpr hn⟩
section
variable{P:VC}{w:VF}{K:Frag}{mg:VZ}{base:Heap}
theorem Jtp:∀x y:VY,HT.geB x y=!lexL x y
 | [],[]=>rfl
 | [],_::_=>rfl
 | _::_,[]=>rfl
 | a::x,b::y=>by
  have ih:=Jtp x y;show(!(if a=b then _ else decide (a<b)))=!(if a=b then lexL x y else decide (a<b));by_cases h:a=b
  ·rw [if_pos h,if_pos h];exact ih
  ·rw [if_neg h,if_neg h]
theorem ge30{T:List (VY)}(h:StcL T){j:Nat}{ns ms:VY}(e:T[j]?=some ns)(e':T[j+1]?=some ms):HT.geB ns ms=false:=by rw[Jtp];obtain⟨h1,rfl⟩:=SY.mp e;obtain⟨h2,rfl⟩:=SY.mp e';rw[List.pairwise_iff_getElem.mp h j (j+1) h1 h2 (by omega)];rfl
theorem Jpw(ns:VY):eqVs (ns.map V.int) (ns.map V.int)=true:=by rw[WU,decide_eq_true rfl]
theorem Juv{T:List (VY)}(h:StcL T){S:VY}(hS:S∈T)(ho:∀x∈T,x=S):T=[S]:=by
 match T,h,hS,ho with
 | [],_,hS,_=>cases hS
 | [x],_,_,ho=>rw [ho x List.mem_cons_self]
 | x::y::r,h,_,ho =>
  have a:=(List.pairwise_cons.mp h).1 y SG;rw[ho x List.mem_cons_self,ho y (List.mem_cons_of_mem _ List.mem_cons_self),WQ]at a;cases a
def spLR:Sp:=fun vs H Q _=>∃(a t l:VB)(m:Int)(us:VS)(ars:VX)(ws:VS)(TL:List (VY)),vs=[.ref a,.ref l]/\HW H a t m us ars TL/\H l=some (.lst ws)/\Tpi H ws TL/\ws.length<=4096/\∀H',Same H H'->Q (.bl true) H'
theorem kn_lr(D:DefAt K mg "_law_list_right" YU ["web","holds"])(fr:Free mg ["all","enumerate","len"])(kc:Kn P w K mg base 7 "holds_count" ["web"] spHC)(kh:Kn P w K mg base 4 "hold_good" ["web","thing"] Jgx)(kn:Kn P w K mg base 7 "nth_hold" ["web","number"] Jmy)(kr:Kn P w K mg base 7 "rank_of" ["web","hold"] Jdj)(kx:Kn P w K mg base 8 "next_hold" ["web","hold"] Jev)
  (ko:Kn P w K mg base 2 "odd_ring" ["web"] spOR) (kg:Kn P w K mg base 4 "ring_good" ["web","thing"] Jta) (kd:Kn P w K mg base 2 "order_of" ["web"] (Jmw K)) (k1:Kn P w K mg base 4 "one_hold" ["web"] Jmx):Kn P w K mg base 9 "_law_list_right" ["web","holds"] spLR:=by
 have sc:FnScope ["web","holds","number","hold","ring"] ["web","holds"] (Jh YU):=⟨rfl,rfl,rfl,by decide +kernel,rfl,by decide +kernel,by decide +kernel⟩;refine D.kn (N:=["web","holds","number","hold","ring"]) sc (fun vs H Q E h=>?_) (fun f cdv A outer s H vs Q E hr h=>?_)
 ·obtain ⟨a,t,l,m,us,ars,ws,TL,rfl,_⟩:=h;rfl
 ·obtain ⟨a,t,l,m,us,ars,ws,TL,rfl,hw,hl,tp,lw,kk⟩:=h;have hu:=YI hr;have hu2:=huN (j:=2) hr (by decide);have r2:=hr.mono (j:=2) (by decide);have r4:=hr.mono (j:=4) (by decide);have r7:=hr.mono (j:=7) (by decide);have r8:=hr.mono (j:=8) (by decide);have m_all:=fr "all" (by simp);have m_enumerate:=fr "enumerate" (by simp);have m_len:=fr "len" (by simp);have nd0:(["hold","web"]:VJ).Nodup:=by decide +kernel
  have nd1:(["hold","web"]:VJ).Nodup:=by decide +kernel
  refine⟨_,(Jd (JA (PW.pt (ZS (Jo UY (Jl kc r7 (Ja (pv 0) Jb)) (Jm Ju rfl m_len PySem.boot_len (Ja (pv 1) Jb)) (Jn _)) (Zr (Yj (JM (Jm (Yc rfl) rfl m_all Yh (Ja (Yb (N:=["hold","web"]) (src:=[none,some 0]) rfl ⟨rfl,rfl,rfl,rfl,⟨⟨rfl,rfl⟩,trivial⟩,rfl,rfl,rfl⟩ (Js (i:=0) rfl) (JQ (pv 1)) (fun C s H fp=>⟨(Jp (i:=0) nd1 rfl (Or.inl rfl)),JC,(Jl kh r4 (Ja (pv 1) (Ja (pv 0) Jb)))⟩)) Jb))))))) (Je (Ji JG)) Jt) (Jd (YL PassesOwn.never rfl (Jfk rfl m_enumerate (Ja (pv 1) Jb)) (Qw (n:=2) rfl (Yf (Jp (i:=2) sc.nd rfl (Or.inl rfl)) (Yf (Jp (i:=3) sc.nd rfl (Or.inl rfl)) Ub))) (Jd (JA (PW.pt (ZS (Jo (Jny (Nat.lt_of_succ_lt hu)) (Jl kn r7 (Ja (pv 0) (Ja (pv 2) Jb))) (pv 3) (Jn _)) (Zr (Jo UY (Jl kr r7 (Ja (pv 0) (Ja (pv 3) Jb))) (pv 2) (Jn _))))) (Je (Ji JG)) Jt) (Jd (JA (PW.pt (Wi (Jo QV (pv 2) Jf (Jn _)) (Zl (Jo (Jny (Nat.lt_of_succ_lt hu)) (Jl kx r8 (Ja (pv 0) (Ja (Jv JB (pv 1) (JD Jhg (pv 2) Jf) (fun _ _=>rfl)) Jb))) (pv 3) (Jn _))))) (Je (Ji JG)) Jt) (Je (JA (PW.pt (Wi (Jo QV (pv 2) Jf (Jn _)) (Zl (Jo (Jur (Nat.lt_of_succ_lt hu)) (Jv JB (pv 1) (JD Jhg (pv 2) Jf) (fun _ _=>rfl)) (pv 3) (Jn _))))) (Je (Ji JG)) Jt))))) (Jd (JA (Jo (WO (Nat.lt_of_succ_lt hu)) (pv 1) (JP Jb) (Jn _)) (Jd (Jr (i:=4) sc.nd rfl (Or.inl rfl) (Jl ko r2 (Ja (pv 0) Jb))) (Je (Ji (Yw (JK UV (pv 4) Yr (Jn _)) (Yw (JK Yz (JD Wo (Jm Ju rfl m_len PySem.boot_len (Ja (pv 4) Jb)) Jf) Jf (Jn _)) (YN (Jl kg r4 (Ja (pv 0) (Ja (pv 4) Jb))))))))) Jt) (Je (Ji (pe_or (JK UY (Jv Jz (Jl kd r2 (Ja (pv 0) Jb)) Jf (fun _ _=>rfl)) ZN (Jn _)) (YN (JK (Jrn 2 hu2) (pv 1) (JP (Ja (Jl k1 r4 (Ja (pv 0) Jb)) Jb)) (Jn _))))))))),?_⟩;have lT:ws.length=TL.length:=Paired.length tp;refine⟨_,rfl,a,t,m,us,ars,rfl,hw.web,hw.good,hw.m1,hw.m12,fun TT H1 s1 hup=>?_⟩;have eT:=hup.uniq hw.up;subst eT;have hl1:=s1 _ _ hl;refine⟨_,rfl,l,_,rfl,.inl (SqL.of hl1),rfl,_,rfl,ite2 (fun c=>?_) (fun _=>?_)⟩
  ·rw [lT,decide_eq_true rfl] at c;cases c
  have tp1:=Zo tp s1;have W1:=hw.web.mono s1;refine⟨_,rfl,l,rfl,⟨_,SqL.of hl1⟩,Ya (xs:=ws) (fun n ys H6=>Same H1 H6/\ys=((TT.take n).map fun _=>true).map V.bl) ⟨Same.refl _,rfl⟩ ?_ ?_ ?_⟩
  ·rintro n ys H6 hn ⟨s6,rfl⟩;refine⟨SqL.of (s6 _ _ hl1),?_⟩;rw[List.length_map,List.length_map,List.length_take];exact SZ (Yp (by omega))
  rotate_left
  ·rintro n x ys H6 hx hn ⟨s6,rfl⟩;obtain⟨ns,e1,p,rfl,hp⟩:=Paired.get' tp1 hx;obtain⟨R,ff⟩:=(hw.up.mem ns).mp (SK e1);have lR:=R.len;have m12:=hw.m12;refine⟨_,rfl,_,rfl,a,t,m,us,ars,.ref p,_,rfl,W1.mono s6,QO (s6 _ _ hp) (by omega),fun ys e=>by cases e;rw[List.length_map];omega,fun H7 s7=>?_⟩;rw[Jbi R,ff];refine nx hn ⟨s6.trans s7,?_⟩;rw[Jx _ _ _ e1,List.map_append,List.map_append];rfl
  ·rintro ys H6 ⟨s6,rfl⟩ y hy;rw[lT,List.take_of_length_le (Nat.le_refl _)];have s2:=s1.trans (s6.trans (Same.upd (o:=.lst ((TT.map fun _=>true).map V.bl)) hy));refine⟨y,TT.map fun _=>true,rfl,SqL.of Jc,_,rfl,?_⟩;rw[show(TT.map fun _=>true).all id=true by rw[List.all_map];exact List.all_eq_true.mpr fun _ _=>rfl];refine iteF ?_;generalize upd H6 y (.lst ((TT.map fun _=>true).map V.bl))=H2 at s2;have hl2:=s2 _ _ hl;have tp2:=Zo tp s2;have hw2:=hw.mono s2;refine⟨_,rfl,l,_,rfl,hl2,Jcs (xs:=ws) (fun i σ H4=>∃v3 v4:Option V,σ=[some (.ref a),some (.ref l),v3,v4,none]/\Same H2 H4) ⟨_,_,rfl,Same.refl _⟩ (fun i σ H4 _ ⟨_,_,_,s4⟩=>s4 _ _ hl2) ?_ ?_⟩
   ·rintro i v σ H4 pr hi ⟨v3,v4,rfl,s4⟩ hpr;obtain⟨ns,e1,p,rfl,hp⟩:=Paired.get' tp2 hi;have s5:=s4.trans (Same.upd (o:=.tup [.int (i:Int),.ref p]) hpr);refine⟨pr,_,rfl,SqT.of Jc,rfl,_,_,rfl,_,_,rfl,rfl,?_⟩;dsimp only[List.set];generalize upd H4 pr (.tup [.int (i:Int),.ref p])=H5 at s5;refine⟨_,rfl,_,rfl,a,t,m,us,ars,TT,i,ns,rfl,hw2.mono s5,e1,fun q H6 s6 hq=>?_⟩;have s56:=s5.trans s6;refine⟨_,rfl,q,p,_,_,rfl,rfl,hq,s56 _ _ hp,JL _,JL _,_,rfl,?_⟩;rw[Jpw];refine iteF ?_;refine⟨_,rfl,_,rfl,a,t,p,m,us,ars,TT,i,ns,rfl,hw2.mono s56,s56 _ _ hp,e1,fun H7 s7=>⟨_,rfl,rfl,_,rfl,?_⟩⟩;rw[decide_eq_true rfl];refine iteF ?_;have s8:=s56.trans s7;refine⟨_,rfl,_,_,rfl,rfl,_,rfl,ite2 (fun c=>?_) (fun c=>?_)⟩
    ·have c:(0:Int) < (i:Int):=of_decide_eq_true c;obtain⟨j,rfl⟩:∃j,i=j+1:=⟨i-1,by omega⟩;have jl:j<ws.length:=by
      have:=(SY.mp hi).1;omega
     obtain⟨ns',e1',p',e2',hp'⟩:=Paired.get' (i:=j) (x:=ws[j]) tp2 (by simp[jl]);have ix:atI ws (((j+1:Nat):Int)-1)=some (.ref p'):=by rw[show(((j+1:Nat):Int)-1)=((j:Nat):Int) by omega,<- e2'];exact JS (by simp[jl])
     refine⟨_,rfl,_,rfl,_,rfl,_,_,rfl,rfl,l,_,_,.ref p',rfl,rfl,SqL.of (s8 _ _ hl2),ix,a,t,p',m,us,ars,TT,j,ns',ns,rfl,hw2.mono s8,s8 _ _ hp',e1',e1,fun q2 H9 s9 hq2=>?_⟩;have s10:=s8.trans s9;refine⟨_,rfl,q2,p,_,_,rfl,rfl,hq2,s10 _ _ hp,JL _,JL _,_,rfl,?_⟩;rw[Jpw];refine iteF ?_;refine⟨_,rfl,_,_,rfl,rfl,_,rfl,ite2 (fun c2=>?_) (fun c2=>absurd (decide_eq_true c) c2)⟩;refine⟨_,rfl,_,rfl,_,_,rfl,rfl,l,_,_,.ref p',rfl,rfl,SqL.of (s10 _ _ hl2),ix,_,rfl,p',p,ns',ns,rfl,rfl,SqT.of (s10 _ _ hp'),SqT.of (s10 _ _ hp),_,rfl,?_⟩;rw[ge30 hw.up.st e1' e1];refine iteF ?_;exact⟨_,_,rfl,s10⟩
    ·refine iteF ?_;refine⟨_,rfl,_,_,rfl,rfl,_,rfl,ite2 (fun c2=>absurd c2 c) (fun c2=>?_)⟩;refine iteF ?_;exact⟨_,_,rfl,s8⟩
   ·rintro σ H4 ⟨v3,v4,rfl,s4⟩;have s24:=s2.trans s4;refine⟨_,rfl,(by show 0<=sizeLine;exact LX _),fun L hL=>?_⟩;have s5:=s24.trans (Same.upd (o:=.lst []) hL);refine⟨l,L,ws,rfl,rfl,SqL.of (s5 _ _ hl),SqL.of Jc,_,rfl,ite2 (fun c=>?_) (fun c=>?_)⟩
    ·have eW:ws=[]:=List.isEmpty_iff.mp c;have eT:TT=[]:=List.eq_nil_of_length_eq_zero (by rw[<- lT,eW];rfl);have m1:=hw.m1;have m12:=hw.m12;refine⟨_,rfl,a,t,m,us,ars,rfl,hw.web.mono s5,hw.good,hw.m1,by omega,fun o v H6 s6 io ov=>?_⟩;obtain⟨R,rfl,g1,g2,g3,g4⟩:=Jue (by omega) hw.good io fun S rS=>by
      cases e:JR m ars S with
      | true=>rfl
      | false =>
       have:=(hw.up.mem S).mpr ⟨rS,e⟩;rw[eT]at this;cases this
     obtain⟨q,rfl,hq⟩:=ov;refine Jw ?_;dsimp only[List.set];have s56:=s5.trans s6;refine⟨_,rfl,rfl,_,rfl,iteT ?_⟩;refine⟨_,rfl,q,_,rfl,.inr (SqT.of hq),_,_,rfl,rfl,(by show(0:Int)<2;decide),rfl,?_⟩;have e1:decide (V.int ((((R.map V.int).length:Nat):Int)%2)=V.int 1)=true:=decide_eq_true (by rw[List.length_map];congr 1;omega);rw[e1];refine⟨_,rfl,iteT ?_⟩;exact⟨_,rfl,_,rfl,a,t,q,m,us,ars,R,rfl,hw.web.mono s56,hw.good,hq,Jqw (by omega) g1 g2 g3,fun H7 s7=>kk H7 (s56.trans s7)⟩
    ·have m1:=hw.m1;have m12:=hw.m12;refine⟨_,rfl,a,t,m,us,ars,rfl,hw.web.mono s5,hw.good,hw.m1,by omega,fun r H6 s6 od=>?_⟩;have s56:=s5.trans s6;obtain⟨q,hq⟩:=od.ex;by_cases f:(ord (ldF ars) m.toNat).length=m.toNat
     ·rw [if_pos f] at hq;refine⟨r,_,_,.str "order",rfl,rfl,SqT.of hq.1,rfl,rfl,_,rfl,iteF ?_⟩;refine⟨_,rfl,_,rfl,a,t,m,us,ars,rfl,hw.web.mono s56,hw.good,hw.m1,by omega,f,fun z S H7 s7 hz pS lS=>?_⟩;refine⟨(by show 1<=sizeLine;decide),fun L2 hL2=>?_⟩;obtain⟨rS,fS,oS⟩:=one30 hw.good f pS lS;have eT:TT=[S]:=Juv hw.up.st ((hw.up.mem S).mpr ⟨rS,fS⟩) fun x hx=>oS x ((hw.up.mem x).mp hx).1 ((hw.up.mem x).mp hx).2;have s8:=(s56.trans s7).trans (Same.upd (o:=.lst [.ref z]) hL2);have tp8:=Zo tp s8;have hz8:=Same.upd (o:=.lst [.ref z]) hL2 _ _ hz;have hl8:=s8 _ _ hl;rw[eT]at tp8;obtain⟨p,rfl,hp⟩:∃p,ws=[.ref p]/\upd H7 L2 (.lst [.ref z]) p=some (.tup (S.map V.int)):=by
       cases tp8 with
       | cons h1 h2 =>
        cases h2;obtain⟨p,rfl,hp⟩:=h1;exact⟨p,rfl,hp⟩
      refine⟨_,_,Is.lst (SqL.of hl8) (.cons (Is.tup (SqT.of hp) (Jae S)) .nil),Is.lst (SqL.of Jc) (.cons (Is.tup (SqT.of hz8) (Jae S)) .nil),fun b hb=>?_⟩;rw[hb.mpr rfl];exact kk _ s8
     ·rw [if_neg f] at hq;refine⟨r,_,_,.str "ring",rfl,rfl,SqT.of hq.1,rfl,rfl,_,rfl,iteT ?_⟩;exact kk H6 s56
end
theorem WB.but{H H':Hp}{a t c p:VB}{m:Int}{us:VS}{ars:VX}{bs:List Bool}(h:WB H a t c m us ars bs)(hp:PenAt H p)(s:SameBut p H H'):WB H' a t c m us ars bs :=
 ⟨Hk.Web.but h.web hp s,h.good,s _ _ (Wm hp h.at_) h.at_,h.len⟩
theorem Jgu{D:Ends}{σ:St}{H:Hp}(h:D.nx σ H):Jsv D σ H:=h
section
variable{P:VC}{w:VF}{K:Frag}{mg:VZ}{base:Heap}
def Jiq(K:Frag):Sp:=fun vs H Q _=>∃(a:VB)(ns:VY),vs=[.ref a]/\SqL K H a (ns.map V.int)/\ns.length<=63/\∀H',Q (.bl true) H'
theorem Juw{fl:VB}{fd:FuncData}(F:Fun K "law" "law" Jap fl fd)(fr:Free mg ["len"])
  (kc:Kn P w K mg base 1 "_law_cell_at" ["script","k"] (Jnc K)) (kp:Kn P w K mg base 1 "_law_pen_of" ["cell"] Jtb) (kd:Kn P w K mg base 2 "_law_draw" ["pen","many"] Jdl) (kw:Kn P w K mg base 4 "_law_small_web" ["pen"] Jij)
  (kh:Kn P w K mg base 6 "all_holds" ["web"] spAH) (kl:Kn P w K mg base 9 "_law_list_right" ["web","holds"] spLR) (ks:Kn P w K mg base 8 "_law_settled_right" ["web"] spSR) (kb:Kn P w K mg base 20 "_law_begun_right" ["web","begun"] spBR) :
  FnOk P w K mg base CX0 21 fl fd ["script"] (Jiq K):=by
 have sc:FnScope ["script","cell","pen","web","holds","begun"] ["script"] (Jh Jap):=⟨rfl,rfl,rfl,by decide +kernel,rfl,by decide +kernel,by decide +kernel⟩;refine F.ok (N:=["script","cell","pen","web","holds","begun"]) sc (fun vs H Q E h=>?_) (fun cdv A outer s H vs Q E hr h=>?_)
 ·obtain ⟨a,ns,rfl,_⟩:=h;rfl
 ·obtain ⟨a,ns,rfl,ha,hn,kk⟩:=h;have r1:=hr.mono (j:=1) (by decide);have r2:=hr.mono (j:=2) (by decide);have r4:=hr.mono (j:=4) (by decide);have r6:=hr.mono (j:=6) (by decide);have r8:=hr.mono (j:=8) (by decide);have r9:=hr.mono (j:=9) (by decide);have r20:=hr.mono (j:=20) (by decide);have m_len:=fr "len" (by simp);refine⟨_,(Jd (YL PassesOwn.never rfl (JQ (JD Jhh (JP (Ja (Jl kc r1 (Ja (pv 0) (Ja Jf Jb))) Jb)) (Zd Jdn (pv 0) (Zm Jf) (Zm Jf)))) (Jp (i:=1) sc.nd rfl (Or.inl rfl)) (Jd (Jr (i:=2) sc.nd rfl (Or.inl rfl) (Jl kp r1 (Ja (pv 1) Jb))) (Jd (Jr (i:=3) sc.nd rfl (Or.inl rfl) (Jl kw r4 (Ja (pv 2) Jb))) (Jd (Jr (i:=4) sc.nd rfl (Or.inl rfl) (Jl kh r6 (Ja (pv 3) Jb))) (Jd (JA (PW.pt (ZS (Yj (JM (Jl kl r9 (Ja (pv 3) (Ja (pv 4) Jb))))) (Zr (Yj (JM (Jl ks r8 (Ja (pv 3) Jb))))))) (Je (Ji JG)) Jt) (Jd (Jr (i:=5) sc.nd rfl (Or.inl rfl) (JI Jb)) (Jd (WM PassesOwn.never (Jo QU (Jm Ju rfl m_len PySem.boot_len (Ja (pv 5) Jb)) (Jv Jz (pv 3) Jf (fun _ _=>rfl)) (Jn _)) (Jd (JA (Yj (JM (Jl kb r20 (Ja (pv 3) (Ja (pv 5) Jb))))) (Je (Ji JG)) Jt) (Je (Jr (i:=5) sc.nd rfl (Or.inl rfl) (JD YZ (pv 5) (JI (Ja (JK Yz (Jl kd r2 (Ja (pv 2) (Ja Jf Jb))) Jf (Jn _)) Jb))))))) (Je (JA (Yj (JM (Jl kb r20 (Ja (pv 3) (Ja (pv 5) Jb))))) (Je (Ji JG)) Jt))))))))) (Je (Ji JG))),?_⟩;have c0:0<=sizeLine:=by decide
  have c1:1<=sizeLine:=by decide
  refine⟨_,rfl,a,ns,0,rfl,ha,fun n0=>⟨c1,fun l1 hl1=>?_⟩⟩;have ha3:SqL K _ a (ns.map V.int):=(Same.upd (o:=.lst [.int n0]) hl1).seq ha;refine⟨_,rfl,1,rfl,4,rfl,a,_,rfl,ha3,fun l2 hl2=>?_⟩;refine⟨l1,l2,_,_,rfl,rfl,Same.upd hl2 _ _ Jc,Jc,?_,fun M2 hM2=>?_⟩
  ·have:=WV (ns.map V.int) (some 1) (some 4);rw[List.length_map]at this;show 1+_<=sizeLine;exact SZ (Jk (by omega))
  have allInt:∀v∈[V.int n0]++cutV (ns.map V.int) (some 1) (some 4),∃n:Int,v=.int n:=by
   intro v hv;rcases SS.mp hv with z|z
   ·exact ⟨n0,by simpa using z⟩
   ·unfold cutV at z;obtain⟨n,_,rfl⟩:=SL.mp (List.mem_of_mem_drop (List.mem_of_mem_take z));exact⟨n,rfl⟩
  have hM3:(upd (upd (upd H l1 (.lst [.int n0])) l2 (.lst (cutV (ns.map V.int) (some 1) (some 4)))) M2 (.lst ([V.int n0]++cutV (ns.map V.int) (some 1) (some 4)))) M2=some (.lst ([V.int n0]++cutV (ns.map V.int) (some 1) (some 4))):=Jc;generalize upd (upd (upd H l1 (.lst [.int n0])) l2 (.lst (cutV (ns.map V.int) (some 1) (some 4)))) M2 (.lst ([V.int n0]++cutV (ns.map V.int) (some 1) (some 4)))=HF at hM3;generalize [V.int n0]++cutV (ns.map V.int) (some 1) (some 4)=CS at hM3 allInt;refine⟨M2,rfl,⟨_,SqL.of hM3⟩,Jge (K:=K) (xs:=CS) (fun i σ H4=>∃v1 v2 v3 v4 v5:Option V,σ=[some (.ref a),v1,v2,v3,v4,v5]/\Same HF H4) ⟨_,_,_,_,_,rfl,Same.refl _⟩ (fun i σ H2 _ ⟨_,_,_,_,_,_,s2⟩=>SqL.of (s2 _ _ hM3)) ?_ ?_⟩
  ·rintro i y σ H4 hi ⟨v1,v2,v3,v4,v5,rfl,s4⟩;obtain⟨n,rfl⟩:=allInt y (SK hi);refine⟨_,rfl,n,rfl,fun p H5 s5 hp4 hp5=>?_⟩;have hFp:HF p=none:=Jax s4 hp4;have up:∀{Hx:Hp},SameBut p H5 Hx->Same HF Hx:=fun {Hx} s b o e=>s _ _ (fun u=>by rw[u,hFp]at e;cases e) ((s4.trans s5) _ _ e);refine⟨_,rfl,p,rfl,hp5,fun wa t m us ars H6 s6 hp6 W m1 m12 ga=>?_⟩;refine⟨_,rfl,wa,t,m,us,ars,rfl,W,ga,m1,m12,fun lh ws T H7 s7 hlh0 hlh tp HU lw=>?_⟩;have W7:=W.mono s7;have hp7:=hp6.mono s7;refine⟨_,rfl,_,rfl,wa,t,lh,m,us,ars,ws,T,rfl,⟨W7,ga,m1,m12,HU⟩,hlh,tp,lw,fun H8 s8=>⟨_,rfl,iteF ?_⟩⟩;refine⟨_,rfl,wa,t,m,us,ars,rfl,W7.mono s8,ga,m1,m12,fun H9 s9=>⟨_,rfl,iteF ?_⟩⟩;have W9:=W7.mono (s8.trans s9);have hp9:=hp7.mono (s8.trans s9);have k9:=s6.trans (s7.trans (s8.trans s9)).but;refine⟨c0,fun e1 he1=>?_⟩;have s10:=Same.upd (o:=.tup []) he1;refine Jw ?_;dsimp only[List.set];refine⟨fun μ σ Hz=>∃(c:VB)(bs:List Bool),σ=[some (.ref a),some (.int n),some (.ref p),some (.ref wa),some (.ref lh),some (.ref c)]/\SameBut p H5 Hz/\PenAt Hz p/\WB Hz wa t c m us ars bs/\μ=m.toNat-bs.length,⟨_,e1,[],rfl,k9.trans s10.but,hp9.mono s10,⟨W9.mono s10,ga,Jc,by show((0:Nat):Int)<=m;omega⟩,rfl⟩,?_⟩;rintro μ σ Hz ⟨c,bs,rfl,sz,hpz,B,rfl⟩;have bl:=B.len;refine⟨_,rfl,c,_,rfl,.inr (SqT.of B.at_),_,rfl,wa,_,_,.int m,rfl,rfl,SqT.of B.web.top,rfl,_,_,rfl,rfl,_,rfl,ite2 (fun lt=>?_) (fun ge=>?_)⟩
   ·refine ⟨fun σ' H'=>∃ (c':VB) (bs':List Bool),σ'=[some (.ref a),some (.int n),some (.ref p),some (.ref wa),some (.ref lh),some (.ref c')]/\SameBut p H5 H'/\PenAt H' p/\WB H' wa t c' m us ars bs'/\bs'.length=bs.length + 1,?_,?_⟩
    ·rintro σ' H' ⟨c',bs',rfl,q1,q2,q3,q4⟩;have lt':((bs.length:Nat):Int)<m:=by simpa using lt
     exact⟨_,by omega,c',bs',rfl,q1,q2,q3,rfl⟩
    refine⟨_,rfl,_,rfl,wa,t,c,m,us,ars,bs,rfl,B,m1,m12,fun H11 s11=>⟨_,rfl,iteF ?_⟩⟩;refine Jgu ?_;refine⟨_,rfl,_,rfl,p,2,rfl,hpz.mono s11,by decide,by decide,fun r H12 r0 r1 s12 hp12=>?_⟩;have B12:=(B.mono s11).but (hpz.mono s11) s12;refine⟨rfl,c1,fun e2 he2=>?_⟩;have s13:=Same.upd (o:=.tup [.bl (decide (V.int r=V.int 0))]) he2;have hp13:=hp12.mono s13;have B13:=B12.mono s13;refine⟨c,e2,_,_,rfl,rfl,B13.at_,Jc,?_,fun e3 H14 s14 he3=>?_⟩
    ·rw [List.length_map];show bs.length+1<=16777216;omega
    refine Jw ?_;dsimp only[List.set];refine⟨e3,bs++[decide (V.int r=V.int 0)],rfl,(sz.trans s11.but).trans (s12.trans (s13.trans s14).but),hp13.mono s14,⟨(B13.mono s14).web,ga,?_,?_⟩,by rw[List.length_append];rfl⟩
    ·rw [he3,List.map_append];rfl
    ·have lt':((bs.length:Nat):Int) < m:=by simpa using lt
     rw[List.length_append];show((bs.length+1:Nat):Int)<=m;omega
   ·refine ⟨_,rfl,_,rfl,wa,t,c,m,us,ars,bs,rfl,B,m1,m12,fun H11 s11=>⟨_,rfl,iteF ?_⟩⟩;exact⟨_,_,_,_,_,rfl,up (sz.trans s11.but)⟩
  ·rintro σ H4 ⟨_,_,_,_,_,rfl,_⟩;exact kk _
end
structure DF(K:Frag)(x:Str)(st:Stmt):Prop where
 ex:∃(f:VB)(oc:VR)(od an:Option VB)(osl:Array (VH))(kV doc pm cdv ct:VR),nsIn K mainGlobals x=some (some (.ref f)) /\
  K.lookup f=some ⟨oc,od,.func (fnOf x x (ZD st) (Za st) (Jh st) .none kV doc pm an cdv ct),osl⟩/\codeIn K cdv x=true/\keepIn K (.ref f)=true
theorem DF.of{K:Frag}{x:Str}{st:Stmt}{f:VB}{oc:VR}{od an:Option VB}{osl:Array (VH)}{kV doc pm cdv ct:VR}(a:nsIn K mainGlobals x=some (some (.ref f)))
  (l:K.lookup f=some ⟨oc,od,.func (fnOf x x (ZD st) (Za st) (Jh st) .none kV doc pm an cdv ct),osl⟩) (c:codeIn K cdv x=true) (k:keepIn K (.ref f)=true):DF K x st:=⟨⟨f,oc,od,an,osl,kV,doc,pm,cdv,ct,a,l,c,k⟩⟩
theorem DF.at{K:Frag}{h:Heap}{mg:VZ}{x:Str}{st:Stmt}{ps:VJ}(D:DF K x st)(X:K.In h)(G:h.Ns mainGlobals mg)
  (hb:∀(kV doc pm:VR)(an:Option VB)(cdv ct:VR)(us:VU),us.length=ps.length->bindArgs (fnOf x x (ZD st) (Za st) (Jh st) .none kV doc pm an cdv ct) ⟨us,[]⟩=pure (ps.zip us)):DefAt K mg x st ps:=by
 obtain⟨f,oc,od,an,osl,kV,doc,pm,cdv,ct,a,l,c,k⟩:=D.ex;exact⟨f,_,Jht l c k,mg_of X G a,(Jht l c k).binds hb⟩
theorem fr0{mg:VZ}:Free mg []:=fun _ h=>(nomatch h)
theorem fr1{mg:VZ}{x:Str}{l:VJ}(h:mg x=none)(t:Free mg l):Free mg (x::l):=fun z hz=>by
 rcases List.mem_cons.mp hz with q|q
 ·rw [q]; exact h
 ·exact t z q
theorem all_mk{P:VC}{w:VF}{K:Frag}{h:Heap}{mg:VZ}{fa:VB}(X:K.In h)(G:h.Ns mainGlobals mg)(hfa:mg "law"=some (.ref fa))
  {tGMOST_TRIED:Tok} (gnMOST_TRIED:nsIn K mainGlobals "MOST_TRIED"=some (some (.int 12 tGMOST_TRIED)))
  (d0:DF K "whole_good" UQ) (d1:DF K "place_good" UR) (d2:DF K "rises" Jis) (d3:DF K "places_good" Us) (d4:DF K "pair_good" WA) (d5:DF K "all_leads" WI) (d6:DF K "unlike_places" Zg) (d7:DF K "ring_good" Wz) (d8:DF K "ready_places" Zp) (d9:DF K "ring_among" Wb) (d10:DF K "order_of" Uy) (d11:DF K "marked" WD) (d13:DF K "tied_arrows" ZE) (d14:DF K "lost_places" ZH) (d15:DF K "hold_good" WE) (d16:DF K "first_fault" ZL) (d17:DF K "fault_good" Wg) (d18:DF K "truths_good" Ur) (d19:DF K "places_with" ZF) (d20:DF K "hold_of" Qv) (d21:DF K "ringless_order" YT) (d22:DF K "one_hold" Uz) (d23:DF K "refuse_too_great" YF) (d24:DF K "refuse_no_beginning" Yi) (d25:DF K "tied_begun" ZZ) (d26:DF K "lost_begun" Wd) (d27:DF K "fault_begun" ZM) (d28:DF K "paper_good" Ye) (d29:DF K "cases_good" Wh) (d30:DF K "paper_for" Yq) (d31:DF K "cases_for" WF) (d32:DF K "all_marks" WH) (d33:DF K "all_holds" WJ) (d34:DF K "holds_count" ZJ) (d35:DF K "nth_hold" UB) (d36:DF K "rank_of" Qu) (d37:DF K "next_hold" WC) (d38:DF K "marks_begun" ZG) (d39:DF K "holds_begun" ZK) (d40:DF K "next_marks" Wc) (d41:DF K "always_in" WG) (d42:DF K "never_in" UC) (d43:DF K "odd_way_back" Zq) (d44:DF K "odd_ring" UA) (d45:DF K "settled_by" Wa) (d46:DF K "settled_marks" Zh) (d47:DF K "_law_cell_at" ZI) (d48:DF K "_law_next" UD) (d49:DF K "_law_pen_of" Wf) (d50:DF K "_law_draw" UE) (d51:DF K "_law_web_by" We) (d52:DF K "_law_small_web" Zi) (d53:DF K "_law_list_right" YU) (d54:DF K "_law_begun_right" YJ) (d55:DF K "_law_settled_right" Yv) (d56:DF K "law" Jap)
  (z0:nsIn K mainGlobals "all"=some none) (z1:nsIn K mainGlobals "any"=some none) (z2:nsIn K mainGlobals "bool"=some none) (z3:nsIn K mainGlobals "dict"=some none) (z4:nsIn K mainGlobals "enumerate"=some none) (z5:nsIn K mainGlobals "int"=some none) (z6:nsIn K mainGlobals "isinstance"=some none) (z7:nsIn K mainGlobals "len"=some none) (z8:nsIn K mainGlobals "max"=some none) (z9:nsIn K mainGlobals "min"=some none) (z10:nsIn K mainGlobals "range"=some none) (z11:nsIn K mainGlobals "set"=some none) (z12:nsIn K mainGlobals "sorted"=some none) (z13:nsIn K mainGlobals "sum"=some none) (z14:nsIn K mainGlobals "tuple"=some none) (z15:nsIn K mainGlobals "zip"=some none) :
  ∃fd:FuncData,(∀(s:VP)(v:VR),BindsTo s fd ⟨[v],[]⟩ [("script",v)])/\∀base:Heap,K.In base->base.Ns mainGlobals mg->FnOk P w K mg base CX0 21 fa fd ["script"] (Jiq K):=by
 have D0:=d0.at (ps:=["thing"]) X G fun _ _ _ _ _ _ us hl=>match us,hl with|[_],_=>rfl
 have D1:=d1.at (ps:=["web","thing"]) X G fun _ _ _ _ _ _ us hl=>match us,hl with|[_,_],_=>rfl
 have D2:=d2.at (ps:=["things"]) X G fun _ _ _ _ _ _ us hl=>match us,hl with|[_],_=>rfl
 have D3:=d3.at (ps:=["web","thing"]) X G fun _ _ _ _ _ _ us hl=>match us,hl with|[_,_],_=>rfl
 have D4:=d4.at (ps:=["web","thing"]) X G fun _ _ _ _ _ _ us hl=>match us,hl with|[_,_],_=>rfl
 have D5:=d5.at (ps:=["web"]) X G fun _ _ _ _ _ _ us hl=>match us,hl with|[_],_=>rfl
 have D6:=d6.at (ps:=["web","thing"]) X G fun _ _ _ _ _ _ us hl=>match us,hl with|[_,_],_=>rfl
 have D7:=d7.at (ps:=["web","thing"]) X G fun _ _ _ _ _ _ us hl=>match us,hl with|[_,_],_=>rfl
 have D8:=d8.at (ps:=["leads","done"]) X G fun _ _ _ _ _ _ us hl=>match us,hl with|[_,_],_=>rfl
 have D9:=d9.at (ps:=["leads","rest"]) X G fun _ _ _ _ _ _ us hl=>match us,hl with|[_,_],_=>rfl
 have D10:=d10.at (ps:=["web"]) X G fun _ _ _ _ _ _ us hl=>match us,hl with|[_],_=>rfl
 have D11:=d11.at (ps:=["places"]) X G fun _ _ _ _ _ _ us hl=>match us,hl with|[_],_=>rfl
 have D13:=d13.at (ps:=["web","places"]) X G fun _ _ _ _ _ _ us hl=>match us,hl with|[_,_],_=>rfl
 have D14:=d14.at (ps:=["web","places"]) X G fun _ _ _ _ _ _ us hl=>match us,hl with|[_,_],_=>rfl
 have D15:=d15.at (ps:=["web","thing"]) X G fun _ _ _ _ _ _ us hl=>match us,hl with|[_,_],_=>rfl
 have D16:=d16.at (ps:=["tied","lost"]) X G fun _ _ _ _ _ _ us hl=>match us,hl with|[_,_],_=>rfl
 have D17:=d17.at (ps:=["web","tied","lost","thing"]) X G fun _ _ _ _ _ _ us hl=>match us,hl with|[_,_,_,_],_=>rfl
 have D18:=d18.at (ps:=["thing"]) X G fun _ _ _ _ _ _ us hl=>match us,hl with|[_],_=>rfl
 have D19:=d19.at (ps:=["truths","wanted"]) X G fun _ _ _ _ _ _ us hl=>match us,hl with|[_,_],_=>rfl
 have D20:=d20.at (ps:=["web","marks"]) X G fun _ _ _ _ _ _ us hl=>match us,hl with|[_,_],_=>rfl
 have D21:=d21.at (ps:=["web"]) X G fun _ _ _ _ _ _ us hl=>match us,hl with|[_],_=>rfl
 have D22:=d22.at (ps:=["web"]) X G fun _ _ _ _ _ _ us hl=>match us,hl with|[_],_=>rfl
 have D23:=d23.at (ps:=["web"]) X G fun _ _ _ _ _ _ us hl=>match us,hl with|[_],_=>rfl
 have D24:=d24.at (ps:=["web","thing"]) X G fun _ _ _ _ _ _ us hl=>match us,hl with|[_,_],_=>rfl
 have D25:=d25.at (ps:=["web","begun"]) X G fun _ _ _ _ _ _ us hl=>match us,hl with|[_,_],_=>rfl
 have D26:=d26.at (ps:=["web","begun"]) X G fun _ _ _ _ _ _ us hl=>match us,hl with|[_,_],_=>rfl
 have D27:=d27.at (ps:=["web","begun"]) X G fun _ _ _ _ _ _ us hl=>match us,hl with|[_,_],_=>rfl
 have D28:=d28.at (ps:=["web","begun","thing"]) X G fun _ _ _ _ _ _ us hl=>match us,hl with|[_,_,_],_=>rfl
 have D29:=d29.at (ps:=["web","begun","thing"]) X G fun _ _ _ _ _ _ us hl=>match us,hl with|[_,_,_],_=>rfl
 have D30:=d30.at (ps:=["web","begun"]) X G fun _ _ _ _ _ _ us hl=>match us,hl with|[_,_],_=>rfl
 have D31:=d31.at (ps:=["web","begun"]) X G fun _ _ _ _ _ _ us hl=>match us,hl with|[_,_],_=>rfl
 have D32:=d32.at (ps:=["web"]) X G fun _ _ _ _ _ _ us hl=>match us,hl with|[_],_=>rfl
 have D33:=d33.at (ps:=["web"]) X G fun _ _ _ _ _ _ us hl=>match us,hl with|[_],_=>rfl
 have D34:=d34.at (ps:=["web"]) X G fun _ _ _ _ _ _ us hl=>match us,hl with|[_],_=>rfl
 have D35:=d35.at (ps:=["web","number"]) X G fun _ _ _ _ _ _ us hl=>match us,hl with|[_,_],_=>rfl
 have D36:=d36.at (ps:=["web","hold"]) X G fun _ _ _ _ _ _ us hl=>match us,hl with|[_,_],_=>rfl
 have D37:=d37.at (ps:=["web","hold"]) X G fun _ _ _ _ _ _ us hl=>match us,hl with|[_,_],_=>rfl
 have D38:=d38.at (ps:=["web","begun"]) X G fun _ _ _ _ _ _ us hl=>match us,hl with|[_,_],_=>rfl
 have D39:=d39.at (ps:=["web","begun"]) X G fun _ _ _ _ _ _ us hl=>match us,hl with|[_,_],_=>rfl
 have D40:=d40.at (ps:=["web","begun"]) X G fun _ _ _ _ _ _ us hl=>match us,hl with|[_,_],_=>rfl
 have D41:=d41.at (ps:=["web"]) X G fun _ _ _ _ _ _ us hl=>match us,hl with|[_],_=>rfl
 have D42:=d42.at (ps:=["web"]) X G fun _ _ _ _ _ _ us hl=>match us,hl with|[_],_=>rfl
 have D43:=d43.at (ps:=["leads","start"]) X G fun _ _ _ _ _ _ us hl=>match us,hl with|[_,_],_=>rfl
 have D44:=d44.at (ps:=["web"]) X G fun _ _ _ _ _ _ us hl=>match us,hl with|[_],_=>rfl
 have D45:=d45.at (ps:=["settled","beneath"]) X G fun _ _ _ _ _ _ us hl=>match us,hl with|[_,_],_=>rfl
 have D46:=d46.at (ps:=["web"]) X G fun _ _ _ _ _ _ us hl=>match us,hl with|[_],_=>rfl
 have D47:=d47.at (ps:=["script","k"]) X G fun _ _ _ _ _ _ us hl=>match us,hl with|[_,_],_=>rfl
 have D48:=d48.at (ps:=["seed"]) X G fun _ _ _ _ _ _ us hl=>match us,hl with|[_],_=>rfl
 have D49:=d49.at (ps:=["cell"]) X G fun _ _ _ _ _ _ us hl=>match us,hl with|[_],_=>rfl
 have D50:=d50.at (ps:=["pen","many"]) X G fun _ _ _ _ _ _ us hl=>match us,hl with|[_,_],_=>rfl
 have D51:=d51.at (ps:=["pen","most"]) X G fun _ _ _ _ _ _ us hl=>match us,hl with|[_,_],_=>rfl
 have D52:=d52.at (ps:=["pen"]) X G fun _ _ _ _ _ _ us hl=>match us,hl with|[_],_=>rfl
 have D53:=d53.at (ps:=["web","holds"]) X G fun _ _ _ _ _ _ us hl=>match us,hl with|[_,_],_=>rfl
 have D54:=d54.at (ps:=["web","begun"]) X G fun _ _ _ _ _ _ us hl=>match us,hl with|[_,_],_=>rfl
 have D55:=d55.at (ps:=["web"]) X G fun _ _ _ _ _ _ us hl=>match us,hl with|[_],_=>rfl
 obtain⟨f,oc,od,an,osl,kV,doc,pm,cdv,ct,a,l,c,k⟩:=d56.ex;have e:=hfa.symm.trans (mg_of X G a);cases e;have F:=Jht (st:=Jap) l c k;have y0:=mg_none_of X G z0;have y1:=mg_none_of X G z1;have y2:=mg_none_of X G z2;have y3:=mg_none_of X G z3;have y4:=mg_none_of X G z4;have y5:=mg_none_of X G z5;have y6:=mg_none_of X G z6;have y7:=mg_none_of X G z7;have y8:=mg_none_of X G z8;have y9:=mg_none_of X G z9;have y10:=mg_none_of X G z10;have y11:=mg_none_of X G z11;have y12:=mg_none_of X G z12;have y13:=mg_none_of X G z13;have y14:=mg_none_of X G z14;have y15:=mg_none_of X G z15;have G_MOST_TRIED:GlobI mg "MOST_TRIED" 12:=⟨⟨_,mg_of X G gnMOST_TRIED⟩⟩;refine⟨fnOf "law" "law" (ZD Jap) (Za Jap) (Jh Jap) .none kV doc pm an cdv ct,fun s v=>.of_eq rfl,fun base _ _=>?_⟩;have K0:=Jor (P:=P) (w:=w) (base:=base) D0 (fr1 y6 (fr1 y5 (fr1 y2 fr0))) ;have K1:=Joz (P:=P) (w:=w) (base:=base) D1  K0;have K2:=Jov (P:=P) (w:=w) (base:=base) D2 (fr1 y0 (fr1 y15 fr0)) ;have K3:=Jlp (P:=P) (w:=w) (base:=base) D3 (fr1 y6 (fr1 y14 (fr1 y0 fr0))) K1 K2;have K4:=Jpc (P:=P) (w:=w) (base:=base) D4 (fr1 y6 (fr1 y14 (fr1 y7 fr0))) K1;have K5:=Jfx (P:=P) (w:=w) (base:=base) D5 (fr1 y10 fr0) ;have K6:=Jvh (P:=P) (w:=w) (base:=base) D6 (fr1 y0 (fr1 y6 (fr1 y7 (fr1 y11 (fr1 y14 fr0))))) K1;have K7:=Jvk (P:=P) (w:=w) (base:=base) D7 (fr1 y0 (fr1 y7 (fr1 y15 fr0))) K6;have K8:=Jox (P:=P) (w:=w) (base:=base) D8 (fr1 y0 (fr1 y7 (fr1 y10 fr0))) ;have K9:=Jow (P:=P) (w:=w) (base:=base) D9 (fr1 y14 fr0) ;have K10:=Jvs (P:=P) (w:=w) (base:=base) D10 (fr1 y10 (fr1 y14 fr0)) K5 K8 K9;have K11:=Jlr (P:=P) (w:=w) (base:=base) D11  ;have K12:=Jhp (P:=P) (w:=w) (base:=base) D11  ;have K13:=Jrz (P:=P) (w:=w) (base:=base) D13  K11;have K14:=Jse (P:=P) (w:=w) (base:=base) D14 (fr1 y3 (fr1 y10 fr0)) K11;have K15:=Jsf (P:=P) (w:=w) (base:=base) D15  K3 K13 K14;have K16:=kn_ff (P:=P) (w:=w) (base:=base) D16  ;have K17:=Jvw (P:=P) (w:=w) (base:=base) D17 (fr1 y6 (fr1 y7 (fr1 y14 fr0))) K1 K4;have K18:=Jlo (P:=P) (w:=w) (base:=base) D18 (fr1 y6 (fr1 y14 (fr1 y0 (fr1 y2 fr0)))) ;have K19:=Jvl (P:=P) (w:=w) (base:=base) D19 (fr1 y14 (fr1 y4 fr0)) ;have K20:=Jls (P:=P) (w:=w) (base:=base) D20  K19;have K21:=Jou (P:=P) (w:=w) (base:=base) D21  K10;have K22:=Jsb (P:=P) (w:=w) (base:=base) D22 (fr1 y1 (fr1 y12 (fr1 y14 fr0))) K5 K21;have K23:=Jvj (P:=P) (w:=w) (base:=base) D23  G_MOST_TRIED;have K24:=Jsa (P:=P) (w:=w) (base:=base) D24 (fr1 y7 fr0) K18;have K25:=kn_tb (P:=P) (w:=w) (base:=base) D25  K13 K19;have K26:=kn_lb (P:=P) (w:=w) (base:=base) D26 (fr1 y0 fr0) K5 K12 K19;have K27:=kn_fb (P:=P) (w:=w) (base:=base) D27  K16 K25 K26;have K28:=kn_pg (P:=P) (w:=w) (base:=base) D28 (fr1 y6 (fr1 y7 (fr1 y14 fr0))) K17 K25 K26;have K29:=Jvx (P:=P) (w:=w) (base:=base) D29  K24 K28;have K30:=kn_pf (P:=P) (w:=w) (base:=base) D30 (fr1 y7 fr0) K27;have K31:=Jvy (P:=P) (w:=w) (base:=base) D31  K23 K24 K30;have K32:=Jvz (P:=P) (w:=w) (base:=base) D32 (fr1 y10 fr0) K27;have K33:=kn_ah (P:=P) (w:=w) (base:=base) D33 (fr1 y12 fr0) K23 K32 K20;have K34:=kn_hc (P:=P) (w:=w) (base:=base) D34 (fr1 y7 fr0) K33;have K35:=Jsc (P:=P) (w:=w) (base:=base) D35 (fr1 y7 fr0) K33 K0;have K36:=Joy (P:=P) (w:=w) (base:=base) D36  K23 K15 K33;have K37:=Jlq (P:=P) (w:=w) (base:=base) D37 (fr1 y7 fr0) K36 K33;have K38:=Jvu (P:=P) (w:=w) (base:=base) D38 (fr1 y7 fr0) K23 K24 K32;have K39:=Jvv (P:=P) (w:=w) (base:=base) D39 (fr1 y7 fr0) K38;have K40:=Jvt (P:=P) (w:=w) (base:=base) D40 (fr1 y7 (fr1 y11 (fr1 y12 fr0))) K38;have K41:=kn_ai (P:=P) (w:=w) (base:=base) D41 (fr1 y10 (fr1 y14 (fr1 y0 fr0))) K33;have K42:=kn_ni (P:=P) (w:=w) (base:=base) D42 (fr1 y10 (fr1 y14 (fr1 y1 fr0))) K33;have K43:=Jvr (P:=P) (w:=w) (base:=base) D43 (fr1 y7 fr0) ;have K44:=Jpd (P:=P) (w:=w) (base:=base) D44 (fr1 y7 (fr1 y9 (fr1 y10 fr0))) K5 K43;have K45:=Jvi (P:=P) (w:=w) (base:=base) D45 (fr1 y1 (fr1 y0 fr0)) ;have K46:=Jho (P:=P) (w:=w) (base:=base) D46 (fr1 y10 fr0) K5 K45;have K47:=Jsh (P:=P) (w:=w) (base:=base) D47 (fr1 y7 fr0) ;have K48:=Jsd (P:=P) (w:=w) (base:=base) D48  ;have K49:=Jvq (P:=P) (w:=w) (base:=base) D49 (fr1 y8 (fr1 y5 fr0)) ;have K50:=Jsg (P:=P) (w:=w) (base:=base) D50  K48;have K51:=Jos (P:=P) (w:=w) (base:=base) D51 (fr1 y10 (fr1 y14 (fr1 y12 fr0))) K50;have K52:=Jot (P:=P) (w:=w) (base:=base) D52 (fr1 y10 (fr1 y14 (fr1 y12 fr0))) K50 K51;have K53:=kn_lr (P:=P) (w:=w) (base:=base) D53 (fr1 y0 (fr1 y4 (fr1 y7 fr0))) K34 K15 K35 K36 K37 K44 K7 K10 K22;have K54:=kn_br (P:=P) (w:=w) (base:=base) D54 (fr1 y5 (fr1 y7 (fr1 y13 fr0))) K39 K31 K29 K40;have K55:=kn_sr (P:=P) (w:=w) (base:=base) D55 (fr1 y4 (fr1 y5 fr0)) K41 K42 K46;exact Juw F (fr1 y7 fr0) K47 K49 K50 K52 K33 K53 K55 K54
theorem walk{l:OpenLaw}{q:VC}{loose:VJ}{XP:(VZ)->Heap->Prop}{YP:VF->Heap->Prop}{d:DefRec}{K:Params->Frag}(hn:l.most=some 63)(hdf:d.params.defaults=[])
  (hY:∀(w:VF)(h:Heap),YP w h->(K w.params).In h)
  (F:∀ (w:VF) (mg:VZ) (fa:VB) (h:Heap),(K w.params).In h->h.Ns mainGlobals mg->mg d.name=some (.ref fa) ->
   ∃ fd:FuncData,(∀ (s:VP) (u:VR),BindsTo s fd ⟨[u],[]⟩ [("script",u)])/\∀ base:Heap,(K w.params).In base->base.Ns mainGlobals mg->FnOk l.prog w (K w.params) mg base CX0 21 fa fd ["script"] (Jiq (K w.params))) :
  WalkO q loose XP YP l.row.toRowW d [] (fun f vs=>PySem.call f vs) :=
 L2.walk_of (n:=63) (k:=21) (x:="script") (CX:=fun _=>CX0) (sp:=fun w=>Jiq (K w.params)) hn (by decide) hdf ⟨rfl,by decide,by decide,rfl⟩ hY F (fun _ _ a ns hl _ hS=>⟨a,ns,rfl,hS,hl,fun _=>rfl⟩) fun _ _ _ _ _ z=>z
end Hk
open PySem PySem.W PyProof.Rows
set_option maxRecDepth 100000 in
set_option maxHeartbeats 0 in
theorem PySem.Challenge.cw_holdsets_k30_whole_holds_counted_holds : PySem.Challenge.rw_holdsets_k30_whole_holds_counted.Holds := by
 w_on;o_law;k_head;(case hw=>w_witness2)
 k_fill
 refine Hk.walk (l:=PySem.Challenge.rw_holdsets_k30_whole_holds_counted) rfl rfl (fun w h Y=>kIn_of Y) ?F
 case F =>
  intro w mg fa h KX G hmg;refine' Hk.all_mk KX G hmg ?gnMOST_TRIED ?d0 ?d1 ?d2 ?d3 ?d4 ?d5 ?d6 ?d7 ?d8 ?d9 ?d10 ?d11 ?d13 ?d14 ?d15 ?d16 ?d17 ?d18 ?d19 ?d20 ?d21 ?d22 ?d23 ?d24 ?d25 ?d26 ?d27 ?d28 ?d29 ?d30 ?d31 ?d32 ?d33 ?d34 ?d35 ?d36 ?d37 ?d38 ?d39 ?d40 ?d41 ?d42 ?d43 ?d44 ?d45 ?d46 ?d47 ?d48 ?d49 ?d50 ?d51 ?d52 ?d53 ?d54 ?d55 ?d56 ?z0 ?z1 ?z2 ?z3 ?z4 ?z5 ?z6 ?z7 ?z8 ?z9 ?z10 ?z11 ?z12 ?z13 ?z14 ?z15
  (case gnMOST_TRIED=>k_is)
  (case d0=>refine' Hk.DF.of ?a ?l ?c ?k;(case a=>k_is);(case l=>k_is);(case c=>k_is);(case k=>k_is))
  (case d1=>refine' Hk.DF.of ?a ?l ?c ?k;(case a=>k_is);(case l=>k_is);(case c=>k_is);(case k=>k_is))
  (case d2=>refine' Hk.DF.of ?a ?l ?c ?k;(case a=>k_is);(case l=>k_is);(case c=>k_is);(case k=>k_is))
  (case d3=>refine' Hk.DF.of ?a ?l ?c ?k;(case a=>k_is);(case l=>k_is);(case c=>k_is);(case k=>k_is))
  (case d4=>refine' Hk.DF.of ?a ?l ?c ?k;(case a=>k_is);(case l=>k_is);(case c=>k_is);(case k=>k_is))
  (case d5=>refine' Hk.DF.of ?a ?l ?c ?k;(case a=>k_is);(case l=>k_is);(case c=>k_is);(case k=>k_is))
  (case d6=>refine' Hk.DF.of ?a ?l ?c ?k;(case a=>k_is);(case l=>k_is);(case c=>k_is);(case k=>k_is))
  (case d7=>refine' Hk.DF.of ?a ?l ?c ?k;(case a=>k_is);(case l=>k_is);(case c=>k_is);(case k=>k_is))
  (case d8=>refine' Hk.DF.of ?a ?l ?c ?k;(case a=>k_is);(case l=>k_is);(case c=>k_is);(case k=>k_is))
  (case d9=>refine' Hk.DF.of ?a ?l ?c ?k;(case a=>k_is);(case l=>k_is);(case c=>k_is);(case k=>k_is))
  (case d10=>refine' Hk.DF.of ?a ?l ?c ?k;(case a=>k_is);(case l=>k_is);(case c=>k_is);(case k=>k_is))
  (case d11=>refine' Hk.DF.of ?a ?l ?c ?k;(case a=>k_is);(case l=>k_is);(case c=>k_is);(case k=>k_is))
  (case d13=>refine' Hk.DF.of ?a ?l ?c ?k;(case a=>k_is);(case l=>k_is);(case c=>k_is);(case k=>k_is))
  (case d14=>refine' Hk.DF.of ?a ?l ?c ?k;(case a=>k_is);(case l=>k_is);(case c=>k_is);(case k=>k_is))
  (case d15=>refine' Hk.DF.of ?a ?l ?c ?k;(case a=>k_is);(case l=>k_is);(case c=>k_is);(case k=>k_is))
  (case d16=>refine' Hk.DF.of ?a ?l ?c ?k;(case a=>k_is);(case l=>k_is);(case c=>k_is);(case k=>k_is))
  (case d17=>refine' Hk.DF.of ?a ?l ?c ?k;(case a=>k_is);(case l=>k_is);(case c=>k_is);(case k=>k_is))
  (case d18=>refine' Hk.DF.of ?a ?l ?c ?k;(case a=>k_is);(case l=>k_is);(case c=>k_is);(case k=>k_is))
  (case d19=>refine' Hk.DF.of ?a ?l ?c ?k;(case a=>k_is);(case l=>k_is);(case c=>k_is);(case k=>k_is))
  (case d20=>refine' Hk.DF.of ?a ?l ?c ?k;(case a=>k_is);(case l=>k_is);(case c=>k_is);(case k=>k_is))
  (case d21=>refine' Hk.DF.of ?a ?l ?c ?k;(case a=>k_is);(case l=>k_is);(case c=>k_is);(case k=>k_is))
  (case d22=>refine' Hk.DF.of ?a ?l ?c ?k;(case a=>k_is);(case l=>k_is);(case c=>k_is);(case k=>k_is))
  (case d23=>refine' Hk.DF.of ?a ?l ?c ?k;(case a=>k_is);(case l=>k_is);(case c=>k_is);(case k=>k_is))
  (case d24=>refine' Hk.DF.of ?a ?l ?c ?k;(case a=>k_is);(case l=>k_is);(case c=>k_is);(case k=>k_is))
  (case d25=>refine' Hk.DF.of ?a ?l ?c ?k;(case a=>k_is);(case l=>k_is);(case c=>k_is);(case k=>k_is))
  (case d26=>refine' Hk.DF.of ?a ?l ?c ?k;(case a=>k_is);(case l=>k_is);(case c=>k_is);(case k=>k_is))
  (case d27=>refine' Hk.DF.of ?a ?l ?c ?k;(case a=>k_is);(case l=>k_is);(case c=>k_is);(case k=>k_is))
  (case d28=>refine' Hk.DF.of ?a ?l ?c ?k;(case a=>k_is);(case l=>k_is);(case c=>k_is);(case k=>k_is))
  (case d29=>refine' Hk.DF.of ?a ?l ?c ?k;(case a=>k_is);(case l=>k_is);(case c=>k_is);(case k=>k_is))
  (case d30=>refine' Hk.DF.of ?a ?l ?c ?k;(case a=>k_is);(case l=>k_is);(case c=>k_is);(case k=>k_is))
  (case d31=>refine' Hk.DF.of ?a ?l ?c ?k;(case a=>k_is);(case l=>k_is);(case c=>k_is);(case k=>k_is))
  (case d32=>refine' Hk.DF.of ?a ?l ?c ?k;(case a=>k_is);(case l=>k_is);(case c=>k_is);(case k=>k_is))
  (case d33=>refine' Hk.DF.of ?a ?l ?c ?k;(case a=>k_is);(case l=>k_is);(case c=>k_is);(case k=>k_is))
  (case d34=>refine' Hk.DF.of ?a ?l ?c ?k;(case a=>k_is);(case l=>k_is);(case c=>k_is);(case k=>k_is))
  (case d35=>refine' Hk.DF.of ?a ?l ?c ?k;(case a=>k_is);(case l=>k_is);(case c=>k_is);(case k=>k_is))
  (case d36=>refine' Hk.DF.of ?a ?l ?c ?k;(case a=>k_is);(case l=>k_is);(case c=>k_is);(case k=>k_is))
  (case d37=>refine' Hk.DF.of ?a ?l ?c ?k;(case a=>k_is);(case l=>k_is);(case c=>k_is);(case k=>k_is))
  (case d38=>refine' Hk.DF.of ?a ?l ?c ?k;(case a=>k_is);(case l=>k_is);(case c=>k_is);(case k=>k_is))
  (case d39=>refine' Hk.DF.of ?a ?l ?c ?k;(case a=>k_is);(case l=>k_is);(case c=>k_is);(case k=>k_is))
  (case d40=>refine' Hk.DF.of ?a ?l ?c ?k;(case a=>k_is);(case l=>k_is);(case c=>k_is);(case k=>k_is))
  (case d41=>refine' Hk.DF.of ?a ?l ?c ?k;(case a=>k_is);(case l=>k_is);(case c=>k_is);(case k=>k_is))
  (case d42=>refine' Hk.DF.of ?a ?l ?c ?k;(case a=>k_is);(case l=>k_is);(case c=>k_is);(case k=>k_is))
  (case d43=>refine' Hk.DF.of ?a ?l ?c ?k;(case a=>k_is);(case l=>k_is);(case c=>k_is);(case k=>k_is))
  (case d44=>refine' Hk.DF.of ?a ?l ?c ?k;(case a=>k_is);(case l=>k_is);(case c=>k_is);(case k=>k_is))
  (case d45=>refine' Hk.DF.of ?a ?l ?c ?k;(case a=>k_is);(case l=>k_is);(case c=>k_is);(case k=>k_is))
  (case d46=>refine' Hk.DF.of ?a ?l ?c ?k;(case a=>k_is);(case l=>k_is);(case c=>k_is);(case k=>k_is))
  (case d47=>refine' Hk.DF.of ?a ?l ?c ?k;(case a=>k_is);(case l=>k_is);(case c=>k_is);(case k=>k_is))
  (case d48=>refine' Hk.DF.of ?a ?l ?c ?k;(case a=>k_is);(case l=>k_is);(case c=>k_is);(case k=>k_is))
  (case d49=>refine' Hk.DF.of ?a ?l ?c ?k;(case a=>k_is);(case l=>k_is);(case c=>k_is);(case k=>k_is))
  (case d50=>refine' Hk.DF.of ?a ?l ?c ?k;(case a=>k_is);(case l=>k_is);(case c=>k_is);(case k=>k_is))
  (case d51=>refine' Hk.DF.of ?a ?l ?c ?k;(case a=>k_is);(case l=>k_is);(case c=>k_is);(case k=>k_is))
  (case d52=>refine' Hk.DF.of ?a ?l ?c ?k;(case a=>k_is);(case l=>k_is);(case c=>k_is);(case k=>k_is))
  (case d53=>refine' Hk.DF.of ?a ?l ?c ?k;(case a=>k_is);(case l=>k_is);(case c=>k_is);(case k=>k_is))
  (case d54=>refine' Hk.DF.of ?a ?l ?c ?k;(case a=>k_is);(case l=>k_is);(case c=>k_is);(case k=>k_is))
  (case d55=>refine' Hk.DF.of ?a ?l ?c ?k;(case a=>k_is);(case l=>k_is);(case c=>k_is);(case k=>k_is))
  (case d56=>refine' Hk.DF.of ?a ?l ?c ?k;(case a=>k_is);(case l=>k_is);(case c=>k_is);(case k=>k_is))
  (case z0=>k_is)
  (case z1=>k_is)
  (case z2=>k_is)
  (case z3=>k_is)
  (case z4=>k_is)
  (case z5=>k_is)
  (case z6=>k_is)
  (case z7=>k_is)
  (case z8=>k_is)
  (case z9=>k_is)
  (case z10=>k_is)
  (case z11=>k_is)
  (case z12=>k_is)
  (case z13=>k_is)
  (case z14=>k_is)
  (case z15=>k_is)
