import PyProof.Rows.All
import Wide.All
import OpenK.AllK
import Wide.FinOn
import PyProof.EqAt
import PyProof.EqKinds
import PyProof.TupleCall
import KE.BitLaws
import Open.SpecLaws
import KE.OsHead
import KE.OsGo
import PyProof.ExcBaseAll.ValueError
import OpenK.KMore
import PyProof.RaisesMany
import PyProof.RulesAs
import PyProof.NsDelKeeps
import PyProof.ExcArgsOwn
import PyProof.ListRange
import PyVbenab
import PySem.Challenge.RW_notchcodes_s01_answers
import PyProof.Draws
import PyProof.EnumMake
open Array (length_toList toList getElem?_toList push)
open Bool (and_eq_true or_eq_true noConfusion and_eq_false_iff)
open Int (toNat_natCast toNat)
open List (mem_filter mem_range filterMap_cons mem_cons_self mem_cons_of_mem mem_cons mem_append mem_append_left getElem_inj getElem?_set_self getElem?_set_ne mem_append_right length_cons map_cons length_map append_nil nodup_cons of_mem_zip replicate length length_take getElem?_map mem_of_getElem? length_append length_drop size_toArray length_set all_cons any_cons replicate_succ flatten_cons foldl append_assoc foldl_cons nil_append map_nil take_of_length_le getD_eq_getElem?_getD range_succ_eq_map all_map lookup_cons getElem?_eq_none mem_map all_eq_true find?_cons length_nil contains_cons length_eq_zero_iff map_map length_range range' zipIdx_append filter_append map_append filter_cons_of_neg range_add map_congr_left mem_zipIdx_iff_getElem? any_eq_true mem_singleton ext_getElem? getElem?_eq_getElem getElem_mem getElem?_range filter_cons_of_pos any_nil take_length range_succ foldl_append head? filter_congr count_cons mem_range'_1 range'_concat flatMap_cons sum_cons drop_eq_getElem_cons map_drop map_take take_zero drop_length map_id drop_eq_nil_of_le isEmpty_iff length_filter_le length_range' filter_nil any_map flatMap_append getElem_range drop_drop drop_eq_nil_iff map_set length_reverse reverse_cons all_nil)
open Nat (lt_of_lt_of_le lt_irrefl ne_of_lt le_trans le_of_lt ne_of_gt le_refl zero_le le_of_eq lt_succ_self le_succ mul_comm le_of_succ_le lt_trans pow_succ zero_add one_mul min_eq_left not_lt_zero sub_self lt_or_ge add_sub_cancel)
open Option (getD_none isSome_some isSome_map bind_some map_some)
open PySem.F (excBase_ValueError plainAttrs_list slot_list_pop type_list_pop slot_list_extend type_list_extend)
open PySem.W (instObj methodObj lookIn plainGet hasDictIn findIn handedIn plainGet_of findObj_own isFn plainOver takerIn set_plain any_some Looks looks_clsIn makesIn typeIn InitBack emptyDict looks_findIn bind_fn keepIn callWith_K methodCall_KW callWith_K0 cellsFrom_some fnOf codeIn WRecords WalkOS clsIn looks_mroIn mroIn check_slot osa_eq nsIn mg_of mg_none_of kIn_of)
open PyVbenab (shape answers_asked answers)
open VbenCore (isBetween sortBy between natText cut isName isDigit natOf MOSTDIGITS isZeroLed ahead digitsUp digitsFast lengthFuel bytesIn faultAt)
open Vbenab (costs codeWords depths fewest shallowest accepts build tree State partsAll inside apart isRising Answer onHoles onValues count valueOf wordAt fallen nested nearest slips num marksIn valueIn valuesIn taken weighs weightsIn chosen over readCode codeText nameOf lineEnds newline VALUES words HOLES Call act listed onBytes LABELS)
set_option Elab.async false
set_option linter.all false
set_option maxRecDepth 100000
set_option maxHeartbeats 4000000
namespace L2
open PySem PySem.Spec PyProof.Rows
abbrev Key:=Sum Int Str
def we:Key→Value→Bool
 | .inl k,v=>Value.isInt k v
 | .inr x,v=>Value.isStrOf x v
def TH(w:World):Key→Int
 | .inl k=>hashInt k
 | .inr x=>hashStr w x
theorem cx:∀ {k:Key} {v:Value},we k v=true→(∃ i t,k=Sum.inl i∧v=Value.int i t)∨(∃ x t,k=Sum.inr x∧v=Value.str x t)
 | .inl i,v,h=>by
  obtain ⟨t,e⟩:=Value.isInt_shape (k:=i) (v:=v) h;exact .inl ⟨i,t,rfl,e⟩
 | .inr x,v,h=>by
  obtain ⟨t,e⟩:=Value.isStrOf_shape (x:=x) (v:=v) h;exact .inr ⟨x,t,rfl,e⟩
theorem pV(i:Int)(t:Tok):we (.inl i) (.int i t)=true:=by simp [we,Value.isInt]
theorem Fy(x:Str)(t:Tok):we (.inr x) (.str x t)=true:=by simp [we,Value.isStrOf]
theorem N1(a b:Int):decide ((Sum.inl a:Key)=Sum.inl b)=(a==b):=by
 by_cases e:a=b
 ·subst e; simp
 ·have h:¬ (Sum.inl a:Key)=Sum.inl b:=fun q=>e (Sum.inl.inj q);rw [decide_eq_false h];exact (beq_eq_false_iff_ne.mpr e).symm
theorem N2(a b:Str):decide ((Sum.inr a:Key)=Sum.inr b)=decide (a=b):=by
 by_cases e:a=b
 ·subst e; simp
 ·have h:¬ (Sum.inr a:Key)=Sum.inr b:=fun q=>e (Sum.inr.inj q);rw [decide_eq_false h,decide_eq_false e]
theorem N3(a:Int)(b:Str):decide ((Sum.inl a:Key)=Sum.inr b)=false:=decide_eq_false (fun q=>nomatch q)
theorem N4(a:Str)(b:Int):decide ((Sum.inr a:Key)=Sum.inl b)=false:=decide_eq_false (fun q=>nomatch q)
def cH(prog:Program)(w:World):PySem.KeyKind prog w Key where
 is:=we
 hash:=TH w
 inj:=fun v a b ha hb=>by
  rcases cx ha with ⟨i,t,rfl,rfl⟩ | ⟨x,t,rfl,rfl⟩
  ·rcases cx hb with ⟨j,u,rfl,e⟩ | ⟨y,u,rfl,e⟩
   ·injection e with e1 _; rw [e1]
   ·exact nomatch e
  ·rcases cx hb with ⟨j,u,rfl,e⟩ | ⟨y,u,rfl,e⟩
   ·exact nomatch e
   ·injection e with e1 _; rw [e1]
 byValue:=fun k v h=>by
  rcases cx h with ⟨i,t,rfl,rfl⟩ | ⟨x,t,rfl,rfl⟩ <;> rfl
 pyHash:=fun hv h=>by
  rcases cx hv with ⟨i,t,rfl,rfl⟩ | ⟨x,t,rfl,rfl⟩
  ·exact wpAny_pyHash_int h
  ·exact wpAny_pyHash_str h
 eqBool:=fun hu hv h=>by
  rcases cx hu with ⟨i,t,rfl,rfl⟩ | ⟨x,t,rfl,rfl⟩
  ·rcases cx hv with ⟨j,u,rfl,rfl⟩ | ⟨y,u,rfl,rfl⟩
   ·rw [N1] at h; exact wpAny_eqBool_int h
   ·rw [N3] at h; exact SeqAt.EqAt.int_str i t y u _ _ _ _ h
  ·rcases cx hv with ⟨j,u,rfl,rfl⟩ | ⟨y,u,rfl,rfl⟩
   ·rw [N4] at h; exact SeqAt.EqAt.str_int x t j u _ _ _ _ h
   ·rw [N2] at h; exact wpAny_eqBool_str h
 «strs»:=fun k x t v h=>by
  rcases cx h with ⟨i,u,rfl,e⟩ | ⟨y,u,rfl,e⟩
  ·exact nomatch e
  ·injection e with e1 _;subst e1;cases v <;> rfl
theorem zw(prog:Program)(w:World)(i:Int)(t:Tok):(cH prog w).is (.inl i) (.int i t)=true:=pV i t
theorem zx(prog:Program)(w:World)(x:Str)(t:Tok):(cH prog w).is (.inr x) (.str x t)=true:=Fy x t
end L2
namespace L2
open PySem PySem.Spec PyProof.Rows
inductive V where
 | non | bl (b:Bool) | int (i:Int) | str (x:Str) | byt (b:Array UInt8) | flt (b:UInt64) | ref (a:Addr) | ty (n:String)
 deriving DecidableEq
def RelV:V→Value→Prop
 | .non,u=>u=Value.none
 | .bl b,u=>u=Value.bool b
 | .int i,u=>∃ t,u=Value.int i t
 | .str x,u=>∃ t,u=Value.str x t
 | .byt b,u=>∃ t,u=Value.bytes b t
 | .flt b,u=>∃ t,u=Value.float b t
 | .ref a,u=>u=Value.ref a
 | .ty n,u=>u=Value.type n
abbrev Vals:List V→List Value→Prop:=Paired RelV
theorem Vals.length{xs:List V}{us:List Value}(r:Vals xs us):xs.length=us.length:=Paired.length r
theorem Vals.get:∀ {xs:List V} {us:List Value} {i:Nat} {x:V},Vals xs us→xs[i]? = some x→∃ u,us[i]? = some u∧RelV x u
 | _,_,_,_,.nil,e=>by simp at e
 | _,_,0,_,.cons r _,e=>by simp at e; subst e; exact ⟨_,rfl,r⟩
 | _,_,i+1,x,.cons _ t,e=>by
  obtain ⟨u,h1,h2⟩:=Vals.get (i:=i) (x:=x) t (by simpa using e);exact ⟨u,by simpa using h1,h2⟩
theorem Vals.set{x:V}{u:Value}(r:RelV x u):∀ {xs:List V} {us:List Value} (i:Nat),Vals xs us→Vals (xs.set i x) (us.set i u)
 | _,_,_,.nil=>.nil
 | _,_,0,.cons _ t=>.cons r t
 | _,_,i+1,.cons q t=>.cons q (Vals.set r i t)
theorem Vals.append:∀ {xs ys:List V} {us ws:List Value},Vals xs us→Vals ys ws→Vals (xs++ys) (us++ws)
 | _,_,_,_,.nil,s=>s
 | _,_,_,_,.cons r t,s=>.cons r (Vals.append t s)
theorem Vals.take:∀ {xs:List V} {us:List Value} (n:Nat),Vals xs us→Vals (xs.take n) (us.take n)
 | _,_,0,_=>.nil
 | _,_,_+1,.nil=>.nil
 | _,_,n+1,.cons r t=>.cons r (Vals.take n t)
theorem Vals.drop:∀ {xs:List V} {us:List Value} (n:Nat),Vals xs us→Vals (xs.drop n) (us.drop n)
 | _,_,0,r=>r
 | _,_,_+1,.nil=>.nil
 | _,_,n+1,.cons _ t=>Vals.drop n t
def jF:Option V→Option Value→Prop
 | some v,some u=>RelV v u
 | none,none=>True
 | _,_=>False
def KV{κ : Type}:List (κ×V)→List (κ×Value)→Prop:=Paired fun (p : κ×V) (q : κ×Value)=>p.1=q.1∧RelV p.2 q.2
def kV:Key→V
 | .inl i=>.int i
 | .inr x=>.str x
inductive HO where
 | lst (xs:List V)
 | tup (xs:List V)
 | dK (kvs:List (Key×V)) | dT (kvs:List (List Key×V))
 | set (S:Int→Bool) (n:Nat)
 | ins (C dx:Addr) (fs:List (Str×V))
 | own (x:Addr)
 | xd (fs:List (Str×V))
 | met (f x:Addr)
 | rng (lo hi:Int)
 | frz (o:Obj) (u:HO)
 | tbl (ps:Array Value)
 | ext (φ : Heap→Prop)
abbrev Hp:=Addr→Option HO
def upd(H:Hp)(a:Addr)(o:HO):Hp:=fun b=>if b=a then some o else H b
theorem ae{H:Hp}{a:Addr}{o:HO}:upd H a o a=some o:=by unfold upd; rw [if_pos rfl]
theorem aq{H:Hp}{a b:Addr}{o:HO}(h:b≠a):upd H a o b=H b:=by unfold upd; rw [if_neg h]
theorem bQ{H:Hp}{a:Addr}{o u:HO}:upd (upd H a o) a u=upd H a u:=by
 funext b; unfold upd; split <;> rfl
theorem aW{H:Hp}{a b:Addr}{o u:HO}(h:H a=some o)(h':H b=some u)(d:o≠u):a≠b:=by
 intro e; subst e; rw [h] at h'; exact d (Option.some.inj h')
theorem ak{H:Hp}{a b:Addr}{o:HO}(h:H a=some o)(h':H b=none):a≠b:=by
 intro e; subst e; rw [h] at h'; cases h'
section
variable (P:Program)(w:World)
def b7(H:Hp)(h:Heap)(a:Addr):HO→Prop
 | .lst xs=>xs.length≤sizeLine∧∃ (its:List Value) (n:Nat),Vals xs its∧h.get? a=some { cls:=.type "list",data:=.seq its.toArray n }
 | .tup xs=>xs.length≤sizeLine∧∃ its:List Value,Vals xs its∧IsTup h a its.toArray
 | .dK kvs=>kvs.length≤sizeLine∧(a==sysModules)=false∧∃ vs,KV kvs vs∧h.DictOf (cH P w) a vs
 | .dT kvs=>kvs.length≤sizeLine∧(a==sysModules)=false∧∃ xs:List (List Key×Addr×Value),
   Paired (fun (p:List Key×V) (q:List Key×Addr×Value)=>p.1=q.1∧H q.2.1=some (.tup (p.1.map kV))∧RelV p.2 q.2.2) kvs xs ∧
   ∃ o es ep,h.get? a=some o∧o.ExactDict∧o.data = .dict es ep∧es.toList=xs.map (entryOfKey (tupleKind (cH P w)))∧(xs.map (·.1)).Nodup
 | .set S n=>h.SetOf (intKind P w) a S n
 | .ins C dx fs=>H dx=some (.own a)∧fs.length≤1000∧dx≠a∧h.get? a=some (instObj C dx) ∧
   ∃ mA,h.Ns1 dx mA∧(∀ f,jF (fs.lookup f) (mA f))∧PySem.Within mA (fs.map (·.1))
 | .own _=>∃ o,h.get? a=some o
 | .xd fs=>∃ mA,h.Ns1 a mA∧∀ f,jF (fs.lookup f) (mA f)
 | .rng lo hi=>∃ t u v,h.get? a=some { cls:=.type "range",data:=.fields #[.int lo t,.int hi u,.int 1 v] }
 | .frz o u=>h.get? a=some o∧b7 H h a u
 | .tbl ps=>h.get? a=some { cls:=.none,data:=.fields ps }
 | .met f x=>h.get? a=some (methodObj (.ref f) (.ref x))
 | .ext φ=>φ h∧(∃ o,h.get? a=some o)∧∀ h1 h2:Heap,φ h1→(∀ o,h1.get? a=some o→h2.get? a=some o)→φ h2
def HOk(H:Hp)(h:Heap):Prop:=∀ a o,H a=some o→b7 P w H h a o
end
section
variable {P:Program}{w:World}{H H':Hp}{h h':Heap}{a:Addr}{o:HO}
theorem b7.lt(x:b7 P w H h a o):a<h.objs.size:=by
 cases o with
 | lst xs=>obtain ⟨_,_,_,_,e⟩:=x; exact Heap.lt_size e
 | tup xs=>obtain ⟨_,_,_,p⟩:=x; exact p.lt
 | dK kvs=>obtain ⟨_,_,_,_,o,_,_,e,_⟩:=x; exact Heap.lt_size e
 | dT kvs=>obtain ⟨_,_,_,_,o,_,_,e,_⟩:=x; exact Heap.lt_size e
 | set S n=>obtain ⟨o,_,_,_,e,_⟩:=x; exact Heap.lt_size e
 | ins C dx fs=>obtain ⟨_,_,_,e,_⟩:=x; exact Heap.lt_size e
 | own y=>obtain ⟨_,e⟩:=x; exact Heap.lt_size e
 | xd fs=>obtain ⟨_,⟨_,_,_,e,_⟩,_⟩:=x; exact Heap.lt_size e
 | rng lo hi=>obtain ⟨_,_,_,e⟩:=x; exact Heap.lt_size e
 | frz ob u=>obtain ⟨e,_⟩:=x; exact Heap.lt_size e
 | tbl ps=>exact Heap.lt_size (show h.get? a=some _ from x)
 | met f y=>exact Heap.lt_size (show h.get? a=some _ from x)
 | ext φ=>obtain ⟨_,⟨_,e⟩,_⟩:=x; exact Heap.lt_size e
theorem Paired.N5{α β:Type}{F G : α→β→Prop}:∀ {l₁:List α} {l₂:List β},Paired F l₁ l₂→(∀ a b,F a b→G a b)→Paired G l₁ l₂
 | _,_,.nil,_=>.nil
 | _,_,.cons r t,f=>.cons (f _ _ r) (Paired.N5 t f)
theorem b7.mf(x:b7 P w H h a o)(k:∀ b u,(b=a∨H b=some (.own a))→h.get? b=some u→h'.get? b=some u)
  (ho:∀ b,H b=some (.own a)→H' b=some (.own a)) (ht:∀ b xs,H b=some (.tup xs)→H' b=some (.tup xs)):b7 P w H' h' a o:=by
 induction o with
 | lst xs=>obtain ⟨z,its,n,r,e⟩:=x; exact ⟨z,its,n,r,k _ _ (.inl rfl) e⟩
 | tup xs=>obtain ⟨z,its,r,ob,e,c⟩:=x; exact ⟨z,its,r,ob,k _ _ (.inl rfl) e,c⟩
 | dK kvs=>obtain ⟨z,y,vs,r,ob,es,ep,e,c⟩:=x; exact ⟨z,y,vs,r,ob,es,ep,k _ _ (.inl rfl) e,c⟩
 | dT kvs=>
  obtain ⟨z,y,xs,r,ob,es,ep,e,c⟩:=x;exact ⟨z,y,xs,Paired.N5 r fun p q z=>⟨z.1,ht _ _ z.2.1,z.2.2⟩,ob,es,ep,k _ _ (.inl rfl) e,c⟩
 | set S n=>obtain ⟨ob,es,ep,t,e,c⟩:=x; exact ⟨ob,es,ep,t,k _ _ (.inl rfl) e,c⟩
 | ins C dx fs=>
  obtain ⟨d,z,ne,e,mA,⟨od,es,ep,e2,c⟩,r⟩:=x;exact ⟨ho _ d,z,ne,k _ _ (.inl rfl) e,mA,⟨od,es,ep,k _ _ (.inr d) e2,c⟩,r⟩
 | own y=>obtain ⟨ob,e⟩:=x; exact ⟨ob,k _ _ (.inl rfl) e⟩
 | xd fs=>obtain ⟨mA,⟨od,es,ep,e,c⟩,r⟩:=x; exact ⟨mA,⟨od,es,ep,k _ _ (.inl rfl) e,c⟩,r⟩
 | rng lo hi=>obtain ⟨t,u,v,e⟩:=x; exact ⟨t,u,v,k _ _ (.inl rfl) e⟩
 | frz ob u ih=>obtain ⟨e,q⟩:=x; exact ⟨k _ _ (.inl rfl) e,ih q⟩
 | tbl ps=>
  have e:h.get? a=some { cls:=.none,data:=.fields ps }:=x;show h'.get? a=some { cls:=.none,data:=.fields ps };exact k a _ (.inl rfl) e
 | met f y=>
  have e:h.get? a=some (methodObj (.ref f) (.ref y)):=x;show h'.get? a=some (methodObj (.ref f) (.ref y));exact k a _ (.inl rfl) e
 | ext φ=>obtain ⟨p,⟨o,e⟩,st⟩:=x; exact ⟨st _ _ p fun o q=>k _ _ (.inl rfl) q,⟨o,k _ _ (.inl rfl) e⟩,st⟩
theorem HOk.lt(x:HOk P w H h)(e:H a=some o):a<h.objs.size:=(x a o e).lt
theorem HOk.fresh(x:HOk P w H h)(e:h.objs.size≤a):H a=none:=by
 cases q:H a with
 | none=>rfl
 | some u=>exact absurd (lt_of_lt_of_le (x.lt q) e) (lt_irrefl _)
theorem HOk.kept(x:HOk P w H h)(k:∀ b u,h.get? b=some u→h'.get? b=some u):HOk P w H h':=fun a o e=>
 (x a o e).mf (fun b u _ q=>k b u q) (fun _ q=>q) fun _ _ q=>q
theorem HOk.laid(x:HOk P w H h)(k:∀ b u,h.get? b=some u→h'.get? b=some u)(hp:h.objs.size≤a)(new:b7 P w (upd H a o) h' a o):HOk P w (upd H a o) h':=fun b u e=>by
 have hn:=x.fresh hp;by_cases hb:b=a
 ·subst hb; rw [ae] at e; cases e; exact new
 ·rw [aq hb] at e;exact (x b u e).mf (fun c v _ q=>k c v q) (fun c q=>by rw [aq (ak q hn)]; exact q) fun c xs q=>by rw [aq (ak q hn)]; exact q
end
def Rd(H:Hp)(a:Addr)(u:HO):Prop:=H a=some u∨∃ o,H a=some (.frz o u)
theorem Rd.ok{P:Program}{w:World}{H:Hp}{h:Heap}{a:Addr}{u:HO}(r:Rd H a u)(x:HOk P w H h):b7 P w H h a u:=by
 rcases r with r | ⟨o,r⟩
 ·exact x a u r
 ·obtain ⟨_,q⟩:=x a _ r;exact q
def Mut:Option HO→Prop
 | some (.lst _)=>True
 | some (.dK _)=>True
 | some (.dT _)=>True
 | some (.set _ _)=>True
 | some (.ins _ _ _)=>True
 | some (.ext _)=>True
 | _=>False
section
variable {P:Program}{w:World}{H:Hp}{h h':Heap}{x e:Addr}{o':HO}
theorem HOk.write(ok:HOk P w H h)(mu:Mut (H x))(he:e=x∨H e=some (.own x))(k:∀ b u,b≠e→h.get? b=some u→h'.get? b=some u)(heo:∃ u,h'.get? e=some u)
  (new:b7 P w (upd H x o') h' x o'):HOk P w (upd H x o') h':=fun b u q=>by
 have nown:∀ c y,H c=some (.own y)→c≠x:=fun c y r z=>by subst z; rw [r] at mu; exact mu
 have ntup:∀ c xs,H c=some (.tup xs)→c≠x:=fun c xs r z=>by subst z; rw [r] at mu; exact mu
 by_cases hb:b=x
 ·subst hb; rw [ae] at q; cases q; exact new
 ·rw [aq hb] at q;by_cases hbe:b=e
  ·have q':H b=some (.own x):=by
    rcases he with z | z
    ·exact absurd (hbe.trans z) hb
    ·rw [hbe]; exact z
   rw [q] at q'; cases q';obtain ⟨v,hv⟩:=heo;exact ⟨v,by rw [hbe]; exact hv⟩
  ·refine (ok b u q).mf (fun c v hc r=>k c v ?_ r) (fun c r=>by rw [aq (nown c b r)]; exact r) fun c xs r=>by rw [aq (ntup c xs r)]; exact r
   rcases hc with rfl | hc
   ·exact hbe
   ·rintro rfl;rcases he with z | z
    ·exact nown c b hc z
    ·rw [hc] at z; cases z; exact hb rfl
end
structure Un(fs ex:List Addr)(H H':Hp)(h h':Heap):Prop where
 keep:∀ b o,h.get? b=some o→H b=none→b ∉ fs→b ∉ ex→h'.get? b=some o
 slot:∀ b o,h.get? b=some o→H b=none→b∈fs→b ∉ ex→∃ sl,h'.get? b=some { o with slots:=sl }
 free:∀ b o,h.get? b=some o→H b=none→b ∉ ex→H' b=none
 there:∀ b o,h.get? b=some o→b ∉ ex→∃ o',h'.get? b=some o'
 vk:∀ b xs,H b=some (.tup xs)→H' b=some (.tup xs)
 rB:∀ b o u,H b=some (.frz o u)→H' b=some (.frz o u)
 vm:∀ b ps,H b=some (.tbl ps)→∃ more,H' b=some (.tbl (ps++more))
section
variable {fs fs' ex ex':List Addr}{H H1 H2:Hp}{h h1 h2 h':Heap}{a x e:Addr}{o:HO}
theorem Un.any(u:Un fs ex H H1 h h1){b:Addr}{ob:Obj}(q:h.get? b=some ob)(n:H b=none)(hx:b ∉ ex):∃ sl,h1.get? b=some { ob with slots:=sl }:=by
 by_cases hb:b∈fs
 ·exact u.slot b ob q n hb hx
 ·exact ⟨ob.slots,u.keep b ob q n hb hx⟩
theorem Un.kept(k:∀ b u,h.get? b=some u→h'.get? b=some u):Un fs ex H H h h':=
 ⟨fun b ob q _ _ _=>k b ob q,fun b ob q _ _ _=>⟨ob.slots,k b ob q⟩,fun _ _ _ n _=>n,fun b ob q _=>⟨ob,k b ob q⟩,fun _ _ q=>q,fun _ _ _ q=>q,fun _ ps q=>⟨#[],by rw [q]; simp⟩⟩
theorem Un.refl:Un fs ex H H h h:=Un.kept fun _ _ q=>q
theorem Un.laid(k:∀ b u,h.get? b=some u→h'.get? b=some u)(hp:h.objs.size≤a)(hn:H a=none):Un fs ex H (upd H a o) h h' where
 keep:=fun b u q _ _ _=>k b u q
 slot:=fun b u q _ _ _=>⟨u.slots,k b u q⟩
 free:=fun b u q n _=>by rw [aq (ne_of_lt (lt_of_lt_of_le (Heap.lt_size q) hp))]; exact n
 there:=fun b u q _=>⟨u,k b u q⟩
 vk:=fun b xs q=>by rw [aq (ak q hn)]; exact q
 rB:=fun b u xs q=>by rw [aq (ak q hn)]; exact q
 vm:=fun b ps q=>⟨#[],by rw [aq (ak q hn),q]; simp⟩
theorem Un.write(mu:Mut (H x))(he:e=x∨H e=some (.own x))(k:∀ b u,b≠e→h.get? b=some u→h'.get? b=some u)(heo:∃ u,h'.get? e=some u):Un fs ex H (upd H x o) h h':=by
 have hx:∀ b,H b=none→b≠x:=fun b n z=>by subst z; rw [n] at mu; exact mu
 have hb:∀ b,H b=none→b≠e:=fun b n z=>by
  subst z;rcases he with r | r
  ·exact hx b n r
  ·rw [n] at r; cases r
 have hm:∀ b u,H b=some u→¬ Mut (some u)→b≠x:=fun b u q nm z=>by subst z; rw [q] at mu; exact nm mu
 refine ⟨fun b u q n _ _=>k b u (hb b n) q,fun b u q n _ _=>⟨u.slots,k b u (hb b n) q⟩,fun b u q n _=>by rw [aq (hx b n)]; exact n,fun b u q _=>?_,
  fun b xs q=>by rw [aq (hm b _ q fun z=>z)]; exact q,fun b u xs q=>by rw [aq (hm b _ q fun z=>z)]; exact q,fun b ps q=>⟨#[],by rw [aq (hm b _ q fun z=>z),q]; simp⟩⟩
 by_cases hbe:b=e
 ·subst hbe; exact heo
 ·exact ⟨u,k b u hbe q⟩
end
def trk(h:Heap)(H:Hp):List Addr:=(List.range h.objs.size).filter fun a=>(H a).isSome
def xP(h:Heap)(H:Hp):Heap:=PySem.W.hideAll h (trk h H)
theorem Fz(h:Heap)(H:Hp):(xP h H).objs.size=h.objs.size:=PySem.W.hideAll_size _ _
theorem HA{h:Heap}{H:Hp}{b:Addr}{o:Obj}(e:h.get? b=some o)(n:H b=none):(xP h H).get? b=some o:=
 PySem.W.hideAll_get _ e fun hm=>by
  have q:(H b).isSome=true:=(mem_filter.mp hm).2;rw [n] at q; simp at q
theorem Ld{h:Heap}{H:Hp}{b:Addr}{o:Obj}(e:(xP h H).get? b=some o):h.get? b=some o∧H b=none:=by
 have e':h.get? b=some o:=PySem.W.of_hideAll (trk h H) e;refine ⟨e',?_⟩;cases q:H b with
 | none=>rfl
 | some x=>
  have hm:b∈trk h H:=mem_filter.mpr ⟨mem_range.mpr (Heap.lt_size e'),by simp [q]⟩;have z:(xP h H).get? b=none:=PySem.W.hideAll_none (trk h H) hm;rw [z] at e; cases e
end L2
namespace L2
open PySem PySem.Spec PyProof.Rows
structure Mod(K:PySem.W.Frag)(mg:Str→Option Value)(base:Heap):Prop where
 kin:K.In base
 glob:base.Ns mainGlobals mg
 blt:∃ mb,base.Ns builtinsNs mb∧∀ x:Str,x≠"__name__"→mb x=bootBuiltins x
 nolimit:base.NoLimit
structure Cx where
 prog:Program
 w:World
 K:PySem.W.Frag
 mg:Str→Option Value
 base:Heap
 A:Around
 N:List Str
 s_0:Shared
 H_0:Hp
 env:Env
 outer:List Env
 stack:List Env
 ex:List Addr
 fn:Str→Bool
 calm:Bool
 pn:List (Addr×Obj)
 xe:Value→Shared→Prop
def frs(l:List Env):List Addr:=l.filterMap (·.frame)
abbrev Cx.fs(X:Cx):List Addr:=frs X.outer
def Vis(sc:Scope)(x:Str):Prop:=sc.names.lookup x=some .local∨sc.names.lookup x=some .cell∨sc.names.lookup x=some .free
def Loc(sc:Scope)(x:Str):Prop:=sc.names.lookup x=some .local∨sc.names.lookup x=some .cell
def Look(env:Env)(h:Heap)(m:Str→Option Value)(x:Str)(u:Value):Prop:=
 (env.kindOf x=some .local∧m x=some u)∨((env.kindOf x=some .cell∨env.kindOf x=some .free)∧∃ c,env.cells.lookup x=some c∧h.IsCell c (some u))
structure Cx.Ok(X:Cx):Prop where
 mod:Mod X.K X.mg X.base
 kind:X.env.scope.kind = .function
 glob:X.env.globals=mainGlobals
 blt:X.env.builtins=builtinsNs
 above:X.s_0.heap.objs.size≤X.env.locals
 inj:∀ x y c,X.env.cells.lookup x=some c→X.env.cells.lookup y=some c→x=y
 has:∀ x,(X.env.kindOf x=some .cell∨X.env.kindOf x=some .free)→∃ c,X.env.cells.lookup x=some c
 cab:∀ x c,X.fn x=true→X.env.cells.lookup x=some c→X.s_0.heap.objs.size≤c
 hd:X.calm=true→X.A.handled=none
 frames:X.A.frames=some X.stack
 stk:X.stack=X.outer∨(X.stack=X.env::X.outer∧X.env.frame=some X.env.locals)
 exf:∀ b∈X.ex,b≠X.env.locals∧∀ x c,X.env.cells.lookup x=some c→c≠b
 bs:∀ b o,X.base.get? b=some o→X.s_0.heap.get? b=some o∧X.H_0 b=none
 bsz:X.base.objs.size≤X.s_0.heap.objs.size
 xQ:∀ b o,X.base.get? b=some o→b ∉ X.ex
 xR:∀ b∈X.ex,b ∉ X.fs
 lP:X.s_0.heap.FunFrames X.base X.outer
 frf:∀ b∈X.fs,X.H_0 b=none
structure Inv(X:Cx)(pins:List (Addr×Obj))(σ:List (Option V))(H:Hp)(s:Shared):Prop where
 ok:X.Ok
 os:s.os=X.s_0.os
 bare:AllBare s.gens
 base:Un X.fs X.ex X.H_0 H X.s_0.heap s.heap
 loc:∃ m,s.heap.Ns X.env.locals m∧∀ (i:Nat) (x:Str) (v:V),X.N[i]? = some x→σ[i]? = some (some v)→Vis X.env.scope x→∃ u,RelV v u∧Look X.env s.heap m x u
 cell:∀ x c,X.env.cells.lookup x=some c→∃ v,s.heap.IsCell c v
 free:H X.env.locals=none
 dG:∀ x c,X.env.cells.lookup x=some c→H c=none
 pin:∀ p∈X.pn++pins,s.heap.get? p.1=some p.2∧H p.1=none∧p.1≠X.env.locals∧p.1 ∉ X.fs∧∀ v,p.2.data≠.cell v
 hok:HOk X.prog X.w H s.heap
 len : σ.length=X.N.length
section
variable {X:Cx}{pins:List (Addr×Obj)}{σ:List (Option V)}{H H':Hp}{s:Shared}{h':Heap}
theorem Cx.Ok.TJ(ok:X.Ok){b:Addr}{o:Obj}(e:X.base.get? b=some o):b ∉ X.fs:=fun hb=>by
 have:=(ok.lP.mem hb).1;rw [e] at this; cases this
theorem Inv.bs(I:Inv X pins σ H s):∀ b o,X.base.get? b=some o→s.heap.get? b=some o∧H b=none:=fun b o e=>
 ⟨I.base.keep b o (I.ok.bs b o e).1 (I.ok.bs b o e).2 (I.ok.TJ e) (I.ok.xQ b o e),I.base.free b o (I.ok.bs b o e).1 (I.ok.bs b o e).2 (I.ok.xQ b o e)⟩
theorem Inv.bk(I:Inv X pins σ H s):∀ b o,X.base.get? b=some o→s.heap.get? b=some o:=fun b o e=>(I.bs b o e).1
theorem Inv.mod(I:Inv X pins σ H s):Mod X.K X.mg X.base:=I.ok.mod
theorem Inv.kIn(I:Inv X pins σ H s):X.K.In s.heap:=I.ok.mod.kin.keeps I.bk
theorem Inv.fr(I:Inv X pins σ H s):∃ m,Fr X.base X.env.locals s.heap m:=
 let ⟨m,hn,_⟩:=I.loc
 ⟨m,hn,I.bk,le_trans I.ok.bsz I.ok.above⟩
theorem Inv.lt(I:Inv X pins σ H s):X.env.locals<s.heap.objs.size:=let ⟨_,hn,_⟩:=I.loc; hn.lt
theorem Inv.sz(I:Inv X pins σ H s):X.s_0.heap.objs.size≤s.heap.objs.size:=le_trans I.ok.above (le_of_lt I.lt)
theorem Inv.TM(I:Inv X pins σ H s){a:Addr}(h:s.heap.objs.size≤a):a ∉ X.fs:=fun hb=>by
 obtain ⟨_,o,ho,_⟩:=I.ok.lP.mem hb;exact absurd (lt_of_lt_of_le (Heap.lt_size ho) (le_trans I.sz h)) (lt_irrefl _)
theorem Inv.cne(I:Inv X pins σ H s):∀ x c,X.env.cells.lookup x=some c→c≠X.env.locals:=fun x c e z=>by
 obtain ⟨v,o,ho,hd⟩:=I.cell x c e;obtain ⟨m,⟨o',es,ep,ho',hd',_⟩,_⟩:=I.loc;rw [z,ho'] at ho; cases ho; rw [hd'] at hd; cases hd
theorem Inv.lP(I:Inv X pins σ H s):s.heap.FunFrames X.base X.outer:=by
 have all:∀ (l:List Env),(∀ b∈frs l,b∈X.fs)→X.s_0.heap.FunFrames X.base l→s.heap.FunFrames X.base l:=by
  intro l
  induction l with
  | nil=>intro _ _; trivial
  | cons env r ih=>
   intro hs hl;obtain ⟨hk,⟨L,o,hf,hn,ho,hd⟩,hr⟩:=hl;have hL:L∈X.fs:=hs L (by unfold frs; rw [filterMap_cons,hf]; exact mem_cons_self);obtain ⟨sl,e⟩:=I.base.slot L o ho (I.ok.frf L hL) hL fun z=>I.ok.xR L z hL;exact ⟨hk,⟨L,_,hf,hn,e,hd⟩,ih (fun b hb=>hs b (by unfold frs; rw [filterMap_cons,hf]; exact mem_cons_of_mem _ hb)) hr⟩
 exact all X.outer (fun _ hb=>hb) I.ok.lP
theorem Inv.stack(I:Inv X pins σ H s):s.heap.FunFrames X.base X.stack:=by
 rcases I.ok.stk with e | ⟨e,hf⟩
 ·rw [e]; exact I.lP
 ·rw [e];obtain ⟨m,hn,_⟩:=I.loc;refine .cons (by rw [I.ok.kind]; decide) hf hn ?_ I.lP;exact Heap.get?_none_of_le (le_trans I.ok.bsz I.ok.above)
theorem Inv.Bx(I:Inv X pins σ H s):∀ b∈frs X.stack,b∈X.env.locals::X.fs:=fun b hb=>by
 rcases I.ok.stk with e | ⟨e,hf⟩
 ·rw [e] at hb; exact mem_cons_of_mem _ hb
 ·rw [e] at hb;unfold frs at hb;rw [filterMap_cons,hf] at hb;exact hb
theorem Inv.xS(I:Inv X pins σ H s):∀ b∈frs X.stack,H b=none:=fun b hb=>by
 rcases mem_cons.mp (I.Bx b hb) with e | hb
 ·rw [e]; exact I.free
 ·obtain ⟨_,o,ho,_⟩:=I.ok.lP.mem hb;exact I.base.free b o ho (I.ok.frf b hb) fun z=>I.ok.xR b z hb
theorem Inv.step{g':Array GenState}{t':Nat}{d':Drawn}{ch:List Addr}(I:Inv X pins σ H s)
  (hch:∀ b∈ch,(b∈X.ex∨X.s_0.heap.objs.size≤b)∧b≠X.env.locals∧(∀ x c,X.env.cells.lookup x=some c→c≠b)∧∀ p∈X.pn++pins,p.1≠b)
  (keep:∀ b o,b≠X.env.locals→b ∉ X.fs→b ∉ ch→s.heap.get? b=some o→H b=none→h'.get? b=some o)
  (slot:∀ b o,b≠X.env.locals→b∈X.fs→b ∉ ch→s.heap.get? b=some o→H b=none→∃ sl,h'.get? b=some { o with slots:=sl }) (free:∀ b o,b ∉ ch→s.heap.get? b=some o→H b=none→H' b=none)
  (there:∀ b o,b ∉ ch→s.heap.get? b=some o→∃ o',h'.get? b=some o')
  (vk:∀ b xs,H b=some (.tup xs)→H' b=some (.tup xs)) (rB:∀ b o u,H b=some (.frz o u)→H' b=some (.frz o u)) (vm:∀ b ps,H b=some (.tbl ps)→∃ more,H' b=some (.tbl (ps++more)))
  (ns:∀ m,s.heap.Ns X.env.locals m→h'.Ns X.env.locals m) (hok:HOk X.prog X.w H' h') (hg:AllBare g') :
  Inv X pins σ H' { s with heap:=h',gens:=g',drawn:=d',toks:=t' }:=by
 have neL:∀ b o,X.s_0.heap.get? b=some o→b≠X.env.locals:=fun b o e=>ne_of_lt (lt_of_lt_of_le (Heap.lt_size e) I.ok.above);have neC:∀ b o,X.s_0.heap.get? b=some o→b ∉ X.ex→b ∉ ch:=fun b o e hx hb=>by
  rcases (hch b hb).1 with z | z
  ·exact hx z
  ·exact absurd (lt_of_lt_of_le (Heap.lt_size e) z) (lt_irrefl _)
 have cellK:∀ x c,X.env.cells.lookup x=some c→∀ v,s.heap.IsCell c v→h'.IsCell c v:=fun x c e v ⟨o,ho,hd⟩=>by
  have nch:c ∉ ch:=fun z=>(hch c z).2.2.1 x c e rfl;by_cases hc:c∈X.fs
  ·obtain ⟨sl,q⟩:=slot c o (I.cne x c e) hc nch ho (I.dG x c e);exact ⟨_,q,hd⟩
  ·exact ⟨o,keep c o (I.cne x c e) hc nch ho (I.dG x c e),hd⟩
 refine ⟨I.ok,I.os,hg,⟨fun b o e n hb hx=>?_,fun b o e n hb hx=>?_,fun b o e n hx=>?_,fun b o e hx=>?_,fun b xs e=>vk b xs (I.base.vk b xs e),fun b o xs e=>rB b o xs (I.base.rB b o xs e),fun b ps e=>?_⟩,?_,fun x c e=>?_,?_,fun x c e=>?_,fun p hp=>?_,hok,I.len⟩
 ·exact keep b o (neL b o e) hb (neC b o e hx) (I.base.keep b o e n hb hx) (I.base.free b o e n hx)
 ·obtain ⟨sl,e1⟩:=I.base.slot b o e n hb hx;obtain ⟨sl',e2⟩:=slot b _ (neL b o e) hb (neC b o e hx) e1 (I.base.free b o e n hx);exact ⟨sl',e2⟩
 ·obtain ⟨o',e1⟩:=I.base.there b o e hx;exact free b o' (neC b o e hx) e1 (I.base.free b o e n hx)
 ·obtain ⟨o',e1⟩:=I.base.there b o e hx;exact there b o' (neC b o e hx) e1
 ·obtain ⟨m1,e1⟩:=I.base.vm b ps e;obtain ⟨m2,e2⟩:=vm b _ e1;exact ⟨m1++m2,by rw [e2,Array.append_assoc]⟩
 ·obtain ⟨m,hn,hl⟩:=I.loc;refine ⟨m,ns m hn,fun i x v e1 e2 e3=>?_⟩;obtain ⟨u,r,l⟩:=hl i x v e1 e2 e3;refine ⟨u,r,?_⟩;rcases l with l | ⟨k,c,e,z⟩
  ·exact .inl l
  ·exact .inr ⟨k,c,e,cellK x c e _ z⟩
 ·obtain ⟨v,z⟩:=I.cell x c e;exact ⟨v,cellK x c e v z⟩
 ·obtain ⟨m,⟨o,_,_,ho,_⟩,_⟩:=I.loc;exact free _ o (fun z=>(hch _ z).2.1 rfl) ho I.free
 ·obtain ⟨v,o,ho,hd⟩:=I.cell x c e;exact free c o (fun z=>(hch c z).2.2.1 x c e rfl) ho (I.dG x c e)
 ·obtain ⟨e,n,ne,nf,d⟩:=I.pin p hp;have nch:p.1 ∉ ch:=fun z=>(hch p.1 z).2.2.2 p hp rfl;exact ⟨keep p.1 p.2 ne nf nch e n,free p.1 p.2 nch e n,ne,nf,d⟩
theorem Inv.un{t':Nat}(I:Inv X pins σ H s)(u:Un X.fs [] H H' s.heap h')(hok:HOk X.prog X.w H' h'):Inv X pins σ H' { s with heap:=h',toks:=t' }:=by
 obtain ⟨m,⟨o,es,ep,ho,r⟩,_⟩:=id I.loc;obtain ⟨sl,hL⟩:=u.any ho I.free (by simp);exact I.step (g':=s.gens) (d':=s.drawn) (ch:=[]) (fun _ z=>nomatch z) (fun b o _ hb _ e n=>u.keep b o e n hb (by simp)) (fun b o _ hb _ e n=>u.slot b o e n hb (by simp)) (fun b o _ e n=>u.free b o e n (by simp)) (fun b o _ e=>u.there b o e (by simp)) u.vk u.rB u.vm (fun m' hm=>by
  obtain ⟨o',es',ep',ho',r'⟩:=hm;rw [ho] at ho'; cases ho';exact ⟨_,es',ep',hL,r'⟩) hok I.bare
theorem Inv.call{g':Array GenState}{t':Nat}{d':Drawn}{ch:List Addr}(I:Inv X pins σ H s)(u:Un (frs X.stack) ch H H' s.heap h')(hok:HOk X.prog X.w H' h')(hg:AllBare g')
  (hch:∀ b∈ch,(b∈X.ex∨X.s_0.heap.objs.size≤b)∧b≠X.env.locals∧(∀ x c,X.env.cells.lookup x=some c→c≠b)∧∀ p∈X.pn++pins,p.1≠b) :
  Inv X pins σ H' { s with heap:=h',gens:=g',drawn:=d',toks:=t' }:=by
 obtain ⟨m,⟨o,es,ep,ho,r⟩,_⟩:=id I.loc;obtain ⟨sl,hL⟩:=u.any ho I.free fun z=>(hch _ z).2.1 rfl;exact I.step (ch:=ch) hch (fun b o hL hb hc e n=>u.keep b o e n (fun z=>(mem_cons.mp (I.Bx b z)).elim hL hb) hc) (fun b o _ _ hc e n=>u.any e n hc) (fun b o hc e n=>u.free b o e n hc) (fun b o hc e=>u.there b o e hc) u.vk u.rB u.vm (fun m' hm=>by
  obtain ⟨o',es',ep',ho',r'⟩:=hm;rw [ho] at ho'; cases ho';exact ⟨_,es',ep',hL,r'⟩) hok hg
theorem Inv.turned{t':Nat}{it:Addr}(I:Inv X pins σ H s)(k:∀ b o,b≠it→s.heap.get? b=some o→h'.get? b=some o)(hn:H it=none)(hL:it≠X.env.locals)
  (h1:it∈X.ex∨X.s_0.heap.objs.size≤it) (h2:∀ x c,X.env.cells.lookup x=some c→c≠it) (h3:∀ p∈X.pn++pins,p.1≠it):Inv X pins σ H { s with heap:=h',toks:=t' }:=by
 have nit:∀ b u,H b=some u→b≠it:=fun b u e z=>by rw [z,hn] at e; cases e
 refine I.step (g':=s.gens) (d':=s.drawn) (ch:=[it]) (fun b hb=>?_) (fun b o _ _ hc e _=>k b o (fun z=>hc (by simp [z])) e) (fun b o _ _ hc e _=>⟨o.slots,k b o (fun z=>hc (by simp [z])) e⟩) (fun _ _ _ _ n=>n)
  (fun b o hc e=>⟨o,k b o (fun z=>hc (by simp [z])) e⟩) (fun _ _ e=>e) (fun _ _ _ e=>e) (fun b ps e=>⟨#[],by rw [e]; simp⟩) (fun m hm=>?_) (fun b u e=>?_) I.bare
 ·have e:b=it:=by simpa using hb
  subst e;exact ⟨h1,hL,h2,h3⟩
 ·obtain ⟨o,es,ep,ho,r⟩:=hm;exact ⟨o,es,ep,k _ o (Ne.symm hL) ho,r⟩
 ·refine (I.hok b u e).mf (fun c v hc q=>k c v ?_ q) (fun _ q=>q) fun _ _ q=>q;rcases hc with z | z
  ·rw [z]; exact nit b u e
  ·exact nit c _ z
theorem Inv.tok(I:Inv X pins σ H s)(t:Nat):Inv X pins σ H { s with toks:=t }:=I.un (h':=s.heap) (t':=t) Un.refl I.hok
theorem Inv.kept{t':Nat}(I:Inv X pins σ H s)(k:∀ b u,s.heap.get? b=some u→h'.get? b=some u):Inv X pins σ H { s with heap:=h',toks:=t' }:=I.un (Un.kept k) (I.hok.kept k)
theorem Inv.laid{a:Addr}{o:HO}{t':Nat}(I:Inv X pins σ H s)(k:∀ b u,s.heap.get? b=some u→h'.get? b=some u)(hp:s.heap.objs.size≤a)(new:b7 X.prog X.w (upd H a o) h' a o) :
  Inv X pins σ (upd H a o) { s with heap:=h',toks:=t' }:=I.un (Un.laid k hp (I.hok.fresh hp)) (I.hok.laid k hp new)
theorem Inv.write{x e:Addr}{o:HO}{t':Nat}(I:Inv X pins σ H s)(mu:Mut (H x))(he:e=x∨H e=some (.own x))(k:∀ b u,b≠e→s.heap.get? b=some u→h'.get? b=some u)(heo:∃ u,h'.get? e=some u)
  (new:b7 X.prog X.w (upd H x o) h' x o):Inv X pins σ (upd H x o) { s with heap:=h',toks:=t' }:=I.un (Un.write mu he k heo) (I.hok.write mu he k heo new)
theorem Inv.weak{σ':List (Option V)}(I:Inv X pins σ H s)(hl : σ'.length=σ.length)(w:∀ (i:Nat) v,σ'[i]? = some (some v)→σ[i]? = some (some v)):Inv X pins σ' H s:=
 ⟨I.ok,I.os,I.bare,I.base,let ⟨m,hn,hl'⟩:=I.loc; ⟨m,hn,fun i x v e1 e2 e3=>hl' i x v e1 (w i v e2) e3⟩,I.cell,I.free,I.dG,I.pin,I.hok,hl.trans I.len⟩
theorem Inv.Ek{pins':List (Addr×Obj)}(I:Inv X pins σ H s)(h:∀ p∈pins',s.heap.get? p.1=some p.2∧H p.1=none∧p.1≠X.env.locals∧p.1 ∉ X.fs∧∀ v,p.2.data≠.cell v):Inv X pins' σ H s:=
 ⟨I.ok,I.os,I.bare,I.base,I.loc,I.cell,I.free,I.dG,fun p hp=>(mem_append.mp hp).elim (fun z=>I.pin p (mem_append_left _ z)) (h p),I.hok,I.len⟩
theorem oA{N:List Str}(hN:N.Nodup){i j:Nat}{x:Str}(a:N[i]? = some x)(b:N[j]? = some x):i=j:=by
 obtain ⟨h1,e1⟩:=List.getElem?_eq_some_iff.mp a;obtain ⟨h2,e2⟩:=List.getElem?_eq_some_iff.mp b;exact (getElem_inj hN).mp (e1.trans e2.symm)
theorem wg{M:Model}{A:Around}{E:Value→Shared→Prop}{i:Nat}{x:Str}{v:V}{u:Value}{Q:Unit→Shared→Prop}(I:Inv X pins σ H s)(hN:X.N.Nodup)(hi:X.N[i]? = some x)(hx:Loc X.env.scope x)(r:RelV v u)
  (h:∀ s',Inv X pins (σ.set i (some v)) H s'→(∃ a,Heap.SameBut a s.heap s'.heap∧(a=X.env.locals∨X.env.cells.lookup x=some a))→Q () s') (hf:X.fn x=true∨X.env.scope.names.lookup x=some .local:=by first | exact .inl rfl | exact .inr rfl | assumption):wpAny M A (storeName X.env x u) Q E s:=by
 obtain ⟨m,hn,hl⟩:=id I.loc;have hcls:(X.env.scope.kind == .class || (X.env.scope.kind == .module&&X.env.locals != X.env.globals))=false:=by rw [I.ok.kind]; rfl
 have hiσ:i<σ.length:=by rw [I.len]; exact (List.getElem?_eq_some_iff.mp hi).1
 have cne:=I.cne;have tracked:∀ {a:Addr} {h':Heap},(∃ o,s.heap.get? a=some o∧H a=none)→Heap.SameBut a s.heap h'→HOk X.prog X.w H h':=fun {a h'} ha hs b ob e=>by
  obtain ⟨_,_,hfree⟩:=ha;refine (I.hok b ob e).mf (fun c w' hc q=>(hs.2 c ?_).trans q) (fun _ q=>q) fun _ _ q=>q;rintro rfl;rcases hc with rfl | hc
  ·rw [hfree] at e; cases e
  ·rw [hfree] at hc; cases hc
 rcases hx with hk | hk
 ·refine wpAny_storeName_local hk hn (fun h' hn' hs=>?_) hcls;obtain ⟨oL,_,_,hoL,_⟩:=id hn;refine h _ ⟨I.ok,I.os,I.bare,⟨fun b o e n hb hx=>?_,fun b o e n hb hx=>?_,I.base.free,fun b o e hx=>?_,I.base.vk,I.base.rB,I.base.vm⟩,⟨_,hn',fun j y v' e1 e2 e3=>?_⟩,fun y c e=>?_,I.free,I.dG,fun p hp=>?_,tracked ⟨oL,hoL,I.free⟩ hs,by simpa using I.len⟩ ⟨_,hs,.inl rfl⟩
  ·exact (hs.2 b (ne_of_lt (lt_of_lt_of_le (Heap.lt_size e) I.ok.above))).trans (I.base.keep b o e n hb hx)
  ·obtain ⟨sl,e1⟩:=I.base.slot b o e n hb hx;exact ⟨sl,(hs.2 b (ne_of_lt (lt_of_lt_of_le (Heap.lt_size e) I.ok.above))).trans e1⟩
  ·obtain ⟨o',e1⟩:=I.base.there b o e hx;exact ⟨o',(hs.2 b (ne_of_lt (lt_of_lt_of_le (Heap.lt_size e) I.ok.above))).trans e1⟩
  ·by_cases hj:j=i
   ·subst hj;rw [hi] at e1; cases e1;rw [getElem?_set_self hiσ] at e2;cases e2;exact ⟨u,r,.inl ⟨hk,by simp⟩⟩
   ·rw [getElem?_set_ne (Ne.symm hj)] at e2;obtain ⟨u',r',q⟩:=hl j y v' e1 e2 e3;refine ⟨u',r',?_⟩;rcases q with ⟨k,e⟩ | ⟨k,c,e,z⟩
    ·refine .inl ⟨k,?_⟩;have:y≠x:=fun e=>hj (oA hN e1 (e ▸ hi));simp [this,e]
    ·exact .inr ⟨k,c,e,z.sameBut hs (cne y c e)⟩
  ·obtain ⟨w',z⟩:=I.cell y c e;exact ⟨w',z.sameBut hs (cne y c e)⟩
  ·obtain ⟨e,n,ne,nf,d⟩:=I.pin p hp;exact ⟨(hs.2 p.1 ne).trans e,n,ne,nf,d⟩
 ·have hfn:X.fn x=true:=by
   rcases hf with z | z
   ·exact z
   ·rw [z] at hk; cases hk
  obtain ⟨c,hc⟩:=I.ok.has x (.inl hk);obtain ⟨w',z⟩:=I.cell x c hc;refine wpAny_storeName_cell I.ok.kind hk hc z (fun h' hc' hs=>?_);obtain ⟨oc,hoc,hocd⟩:=id z;refine h { s with heap:=h' } ⟨I.ok,I.os,I.bare,⟨fun b o e n hb hx=>?_,fun b o e n hb hx=>?_,I.base.free,fun b o e hx=>?_,I.base.vk,I.base.rB,I.base.vm⟩,⟨m,hn.sameBut hs (Ne.symm (cne x c hc)),fun j y v' e1 e2 e3=>?_⟩,fun y c' e=>?_,I.free,I.dG,fun p hp=>?_,tracked ⟨oc,hoc,I.dG x c hc⟩ hs,by simpa using I.len⟩ ⟨c,hs,.inr hc⟩
  ·exact (hs.2 b (ne_of_lt (lt_of_lt_of_le (Heap.lt_size e) (I.ok.cab x c hfn hc)))).trans (I.base.keep b o e n hb hx)
  ·obtain ⟨sl,e1⟩:=I.base.slot b o e n hb hx;exact ⟨sl,(hs.2 b (ne_of_lt (lt_of_lt_of_le (Heap.lt_size e) (I.ok.cab x c hfn hc)))).trans e1⟩
  ·obtain ⟨o',e1⟩:=I.base.there b o e hx;exact ⟨o',(hs.2 b (ne_of_lt (lt_of_lt_of_le (Heap.lt_size e) (I.ok.cab x c hfn hc)))).trans e1⟩
  ·by_cases hj:j=i
   ·subst hj;rw [hi] at e1; cases e1;rw [getElem?_set_self hiσ] at e2;cases e2;exact ⟨u,r,.inr ⟨.inl hk,c,hc,hc'⟩⟩
   ·rw [getElem?_set_ne (Ne.symm hj)] at e2;obtain ⟨u',r',q⟩:=hl j y v' e1 e2 e3;refine ⟨u',r',?_⟩;rcases q with q | ⟨k,c',e,z'⟩
    ·exact .inl q
    ·refine .inr ⟨k,c',e,z'.sameBut hs ?_⟩;rintro rfl;exact hj (oA hN e1 (I.ok.inj _ _ _ e hc ▸ hi))
  ·by_cases hcc:c'=c
   ·subst hcc; exact ⟨_,hc'⟩
   ·obtain ⟨w2,z2⟩:=I.cell y c' e;exact ⟨w2,z2.sameBut hs hcc⟩
  ·obtain ⟨e,n,ne,nf,d⟩:=I.pin p hp;refine ⟨(hs.2 p.1 ?_).trans e,n,ne,nf,d⟩;intro q;rw [q,hoc] at e;have q':oc=p.2:=Option.some.inj e;exact d w' (by rw [← q']; exact hocd)
theorem oB{M:Model}{A:Around}{E:Value→Shared→Prop}{i:Nat}{x:Str}{v:V}{u:Value}{Q:Unit→Shared→Prop}(I:Inv X pins σ H s)(hN:X.N.Nodup)(hi:X.N[i]? = some x)(hx:Loc X.env.scope x)(r:RelV v u)
  (h:∀ s',Inv X pins (σ.set i (some v)) H s'→Q () s') (hf:X.fn x=true∨X.env.scope.names.lookup x=some .local:=by first | exact .inl rfl | exact .inr rfl | assumption):wpAny M A (storeName X.env x u) Q E s:=
 wg I hN hi hx r (fun s' I' _=>h s' I') hf
theorem Inv.Nh{s':Shared}{ch:List Addr}(I:Inv X pins σ H s)(ho:s'.os=s.os)(u:Un (frs X.stack) ch H H' s.heap s'.heap)(hok:HOk X.prog X.w H' s'.heap)(hg:AllBare s'.gens)
  (hch:∀ b∈ch,(b∈X.ex∨X.s_0.heap.objs.size≤b)∧b≠X.env.locals∧(∀ x c,X.env.cells.lookup x=some c→c≠b)∧∀ p∈X.pn++pins,p.1≠b):Inv X pins σ H' s':=by
 obtain ⟨h',g',d',t',o'⟩:=s';have e:o'=s.os:=ho;subst e;exact I.call (g':=g') (t':=t') (d':=d') u hok hg hch
end
abbrev XK:=Value→Option Addr→Hp→Prop
abbrev St:=List (Option V)
abbrev VK:=V→Hp→Prop
abbrev TE:=St→Hp→VK→Prop
abbrev TT:=St→Hp→(Bool→Hp→Prop)→Prop
abbrev TA:=St→Hp→(List V→Hp→Prop)→Prop
structure Ends where
 nx:St→Hp→Prop
 rt:VK
 bk:St→Hp→Prop:=fun _ _=>False
 ct:St→Hp→Prop:=fun _ _=>False
abbrev TS:=Ends→St→Hp→Prop
def EP(X:Cx)(pins:List (Addr×Obj))(σ:St)(Q:VK)(u:Value)(s':Shared):Prop:=∃ v H',Inv X pins σ H' s'∧RelV v u∧Q v H'
def TP(X:Cx)(pins:List (Addr×Obj))(σ:St)(Q:Bool→Hp→Prop)(b:Bool)(s':Shared):Prop:=∃ H',Inv X pins σ H' s'∧Q b H'
def AP(X:Cx)(pins:List (Addr×Obj))(σ:St)(Q:List V→Hp→Prop)(us:List Value)(s':Shared):Prop:=∃ vs H',Inv X pins σ H' s'∧Vals vs us∧Q vs H'
def SP(X:Cx)(pins:List (Addr×Obj))(D:Ends)(f:Flow)(s':Shared):Prop:=
 match f with
 | .next=>∃ σ' H',Inv X pins σ' H' s'∧D.nx σ' H'
 | .brk=>∃ σ' H',Inv X pins σ' H' s'∧D.bk σ' H'
 | .cont=>∃ σ' H',Inv X pins σ' H' s'∧D.ct σ' H'
 | .ret u=>∃ v σ' H',Inv X pins σ' H' s'∧RelV v u∧D.rt v H'
def PE(X:Cx)(e:Expr)(t:TE):Prop:=
 ∀ (pins:List (Addr×Obj)) (s:Shared) (σ:St) (H:Hp) (Q:VK),Inv X pins σ H s→t σ H Q→wpAny (model X.prog X.w) X.A (eval e X.env) (EP X pins σ Q) X.xe s
def PT(X:Cx)(e:Expr)(t:TT):Prop:=
 ∀ (pins:List (Addr×Obj)) (s:Shared) (σ:St) (H:Hp) (Q:Bool→Hp→Prop),Inv X pins σ H s→t σ H Q→wpAny (model X.prog X.w) X.A (isTrue e X.env (eval e X.env)) (TP X pins σ Q) X.xe s
def PW(X:Cx)(e:Expr)(t:TT):Prop:=
 ∀ (whole:Sem Value) (pins:List (Addr×Obj)) (s:Shared) (σ:St) (H:Hp) (Q:Bool→Hp→Prop),Inv X pins σ H s→t σ H Q→wpAny (model X.prog X.w) X.A (isTrue e X.env whole) (TP X pins σ Q) X.xe s
theorem PW.pt{X:Cx}{e:Expr}{t:TT}(h:PW X e t):PT X e t:=h _
def PA(X:Cx)(es:List Expr)(t:TA):Prop:=
 ∀ (pos:Pos) (pins:List (Addr×Obj)) (s:Shared) (σ:St) (H:Hp) (Q:List V→Hp→Prop),Inv X pins σ H s→t σ H Q→wpAny (model X.prog X.w) X.A (spliced (backTo pos (starEach es X.env))) (AP X pins σ Q) X.xe s
def PS(X:Cx)(st:Stmt)(t:TS):Prop:=
 ∀ (pins:List (Addr×Obj)) (s:Shared) (σ:St) (H:Hp) (D:Ends),Inv X pins σ H s→t D σ H→wpAny (model X.prog X.w) X.A (exec st X.env) (SP X pins D) X.xe s
def PSs(X:Cx)(st:List Stmt)(t:TS):Prop:=
 ∀ (pins:List (Addr×Obj)) (s:Shared) (σ:St) (H:Hp) (D:Ends),Inv X pins σ H s→t D σ H→wpAny (model X.prog X.w) X.A (execs st X.env) (SP X pins D) X.xe s
theorem thn{α:Type}{t:Sem α}{Q Q' : α→Shared→Prop}{M:Model}{A:Around}{E:Value→Shared→Prop}{s:Shared}(h:wpAny M A t Q E s)(hQ:∀ a s,Q a s→Q' a s):wpAny M A t Q' E s:=wpAny_mono h hQ fun _ _ x=>x
end L2
namespace L2
open PySem PySem.Spec PyProof.Rows
section
variable {X:Cx}
def zy(i:Nat):TE:=fun σ H Q=>∃ v,σ[i]? = some (some v)∧Q v H
def tC(v:V):TE:=fun _ H Q=>Q v H
theorem HB{i:Nat}{x:Str}{pos:Pos}(hN:X.N[i]? = some x)(hv:Vis X.env.scope x)(hd:(x==("__debug__":Str))=false:=by decide)(hcd:(x==("__classdict__":Str))=false:=by decide):PE X (.Name x pos) (zy i):=by
 intro pins s σ H Q I h;obtain ⟨v,e,h⟩:=h;obtain ⟨m,hn,hl⟩:=I.loc;obtain ⟨u,r,l⟩:=hl i x v hN e hv;have fin:EP X pins σ Q u s:=⟨v,H,I,r,h⟩;rcases l with ⟨hk,hm⟩ | ⟨hk,c,hc,hcell⟩
 ·exact wpAny_Name (wpAny_loadName_local I.ok.kind hk hn hm fin) hd
 ·rcases hk with hk | hk
  ·exact wpAny_Name (wpAny_loadName_cell I.ok.kind hk hc hcell fin) hd
  ·exact wpAny_Name (wpAny_loadName_free I.ok.kind hk hc hcell fin hcd) hd
theorem au{i j pos}:PE X (.Constant (.int i) j pos) (tC (.int i)):=fun _ _ _ H _ I h=>wpAny_Constant_int ⟨.int i,H,I.tok _,⟨_,rfl⟩,h⟩
theorem oC{b j pos}:PE X (.Constant (.bool b) j pos) (tC (.bl b)):=fun _ _ _ H _ I h=>Constant_bool ⟨.bl b,H,I,rfl,h⟩
theorem N6{j pos}:PE X (.Constant .none j pos) (tC .non):=fun _ _ _ H _ I h=>Constant_none ⟨.non,H,I,rfl,h⟩
theorem dq{x j pos}:PE X (.Constant (.str x) j pos) (tC (.str x)):=fun _ _ _ H _ I h=>Calls.Constant_str ⟨.str x,H,I.tok _,⟨_,rfl⟩,h⟩
def Gl(X:Cx)(x:Str):Prop:=X.env.kindOf x=some .globalImplicit
theorem gj{E:Value→Shared→Prop}{pins:List (Addr×Obj)}{s:Shared}{σ:St}{H:Hp}{x:Str}{u:Value}{pos:Pos}{Q:Value→Shared→Prop}(I:Inv X pins σ H s)(hg:Gl X x)(hm:X.mg x=some u)(h:Q u s)
  (hd:(x==("__debug__":Str))=false:=by decide):wpAny (model X.prog X.w) X.A (eval (.Name x pos) X.env) Q E s:=
 Calls.Name_function_global I.ok.kind hg (Calls.loadGlobal_global (by rw [I.ok.glob]; exact I.mod.glob.keeps I.bk) hm h) hd
theorem mi{E:Value→Shared→Prop}{pins:List (Addr×Obj)}{s:Shared}{σ:St}{H:Hp}{x:Str}{u:Value}{pos:Pos}{Q:Value→Shared→Prop}(I:Inv X pins σ H s)(hg:Gl X x)(hm:X.mg x=none)(hv:bootBuiltins x=some u)(h:Q u s)
  (hn:x≠"__name__":=by decide) (hd:(x==("__debug__":Str))=false:=by decide):wpAny (model X.prog X.w) X.A (eval (.Name x pos) X.env) Q E s:=by
 obtain ⟨mb,h1,h2⟩:=I.mod.blt;exact Calls.Name_function_global I.ok.kind hg (Calls.loadGlobal_builtin (by rw [I.ok.glob]; exact I.mod.glob.keeps I.bk) hm (by rw [I.ok.blt]; exact h1.keeps I.bk) ((h2 x hn).trans hv) h) hd
theorem iS{x:Str}{v:V}{u:Value}{pos:Pos}(hg:Gl X x)(hm:X.mg x=some u)(r:RelV v u)(hd:(x==("__debug__":Str))=false:=by decide):PE X (.Name x pos) (tC v):=
 fun _ _ _ H _ I h=>gj I hg hm ⟨v,H,I,r,h⟩ hd
variable {a b:Expr}{ta tb:TE}{pos:Pos}
def PC(X:Cx)(op:CmpOp)(a b:Expr)(t:TE):Prop:=
 ∀ (pins:List (Addr×Obj)) (s:Shared) (σ:St) (H:Hp) (Q:VK),Inv X pins σ H s→t σ H Q →
  wpAny (model X.prog X.w) X.A (eval a X.env) (fun v s₁=>wpAny (model X.prog X.w) X.A (eval b X.env) (fun u s₂=>wpAny (model X.prog X.w) X.A (compareOp op v u) (EP X pins σ Q) X.xe s₂) X.xe s₁) X.xe s
theorem HC(b:Expr){op:CmpOp}(h:op≠.In)(h2:op≠.NotIn):behindInMarks op b=false:=by
 have e1:(op==CmpOp.In)=false:=by cases op <;> first | rfl | exact absurd rfl h
 have e2:(op==CmpOp.NotIn)=false:=by cases op <;> first | rfl | exact absurd rfl h2
 cases b <;> simp [behindInMarks,e1,e2]
def TQ(ta:TE):TE:=fun σ H Q=>ta σ H fun x H1=>Q (.bl (decide (x = .non))) H1
theorem RelV.HD{x:V}{v:Value}(r:RelV x v):(v==Value.none)=decide (x = .non):=by
 cases x with
 | non=>cases r; rfl
 | bl _=>cases r; rfl
 | int _=>obtain ⟨t,rfl⟩:=r; rfl
 | str _=>obtain ⟨t,rfl⟩:=r; rfl
 | byt _=>obtain ⟨t,rfl⟩:=r; rfl
 | flt _=>obtain ⟨t,rfl⟩:=r; rfl
 | ref _=>cases r; rfl
 | ty _=>cases r; rfl
theorem N7{j pos'}(ha:PE X a ta):PC X .Is a (.Constant .none j pos') (TQ ta):=by
 intro pins s σ H Q I h;refine thn (ha pins s σ H _ I h) fun v s1 hq__=>?_;obtain ⟨x,H1,I1,r1,q1⟩:=hq__; exact Constant_none (is_none_gen ⟨.bl _,H1,I1,by rw [r1.HD]; rfl,q1⟩)
def tB(t:TE):TT:=fun σ H Q=>t σ H fun x H1=>∃ c,x = .bl c∧Q c H1
theorem By{op:CmpOp}{t:TE}(h:PC X op a b t)(h1:behindInMarks op b=false:=by first | exact HC _ (by decide) (by decide) | rfl):PT X (.Compare a [op] [b] pos) (tB t):=by
 intro pins s σ H Q I hw;refine wpAny_isTrue_Compare1 (thn (h pins s σ H _ I hw) fun v s1 h1=>thn h1 fun u s2 h2=>thn h2 fun c s3 hq__=>?_) h1;obtain ⟨x,H1,I1,r1,q1⟩:=hq__; obtain ⟨d,rfl,q⟩:=q1;cases r1;exact wpAny_truthy_bool ⟨H1,I1,q⟩
theorem bf{e:Expr}{t:TE}(h:PE X e t)(he:∀ whole,isTrue e X.env whole=(do let v ← whole; standAt e.pos; holding [v] (truthy v)):=by intro _; rfl):PT X e (tB t):=by
 intro pins s σ H Q I hw;refine isTrue_plain (thn (h pins s σ H _ I hw) fun v s1 hq__=>?_) (he _);obtain ⟨x,H1,I1,r1,q1⟩:=hq__; obtain ⟨d,rfl,q⟩:=q1;cases r1;exact wpAny_truthy_bool ⟨H1,I1,q⟩
variable {tA tB':TT}{rest:List Expr}
def TU(t u:TT):TT:=fun σ H Q=>t σ H fun c H1=>if c=true then u σ H1 Q else Q false H1
def tOr(t u:TT):TT:=fun σ H Q=>t σ H fun c H1=>if c=true then Q true H1 else u σ H1 Q
def TV(t:TT):TT:=fun σ H Q=>t σ H fun c H1=>Q (!c) H1
theorem oE(ha:PT X a tA):PW X (.BoolOp .And [a] pos) tA:=by
 intro wh pins s σ H Q I h;refine isTrue_and (thn (ha pins s σ H Q I h) fun c s1 e=>?_);cases c with
 | true=>exact isTrue_and_nil e
 | false=>exact e
theorem hJ(ha:PT X a tA):PW X (.BoolOp .Or [a] pos) tA:=by
 intro wh pins s σ H Q I h;refine isTrue_or (thn (ha pins s σ H Q I h) fun c s1 e=>?_);cases c with
 | false=>exact isTrue_or_nil e
 | true=>exact e
theorem sE(ha:PT X a tA)(hb:PW X (.BoolOp .And (b::rest) pos) tB'):PW X (.BoolOp .And (a::b::rest) pos) (TU tA tB'):=by
 intro wh pins s σ H Q I h;refine isTrue_and (thn (ha pins s σ H _ I h) fun c s1 hq__=>?_);obtain ⟨H1,I1,q1⟩:=hq__; cases c with
 | true=>exact hb wh pins s1 σ H1 Q I1 q1
 | false=>exact ⟨H1,I1,q1⟩
theorem jB(ha:PT X a tA)(hb:PW X (.BoolOp .Or (b::rest) pos) tB'):PW X (.BoolOp .Or (a::b::rest) pos) (tOr tA tB'):=by
 intro wh pins s σ H Q I h;refine isTrue_or (thn (ha pins s σ H _ I h) fun c s1 hq__=>?_);obtain ⟨H1,I1,q1⟩:=hq__; cases c with
 | true=>exact ⟨H1,I1,q1⟩
 | false=>exact hb wh pins s1 σ H1 Q I1 q1
theorem cq(ha:PT X a tA):PT X (.UnaryOp .Not a pos) (TV tA):=by
 intro pins s σ H Q I h;exact isTrue_not (ha pins s σ H (fun c H1=>Q (!c) H1) I h)
def Ni(ta tb:TE):TE:=fun σ H Q=>ta σ H fun x H1=>∃ c,x = .bl c∧if c=true then tb σ H1 Q else Q (.bl false) H1
theorem HE{op}{t:TE}(h:PE X a t):PE X (.BoolOp op [a] pos) t:=fun pins s σ H Q I hw=>BoolOp_one (h pins s σ H Q I hw)
theorem HF(ha:PE X a ta)(hb:PE X (.BoolOp .And (b::rest) pos) tb):PE X (.BoolOp .And (a::b::rest) pos) (Ni ta tb):=by
 intro pins s σ H Q I h;refine BoolOp_and (thn (ha pins s σ H _ I h) fun v s1 hq__=>?_);obtain ⟨x,H1,I1,r1,q1⟩:=hq__; obtain ⟨c,rfl,q1⟩:=q1;cases r1;refine wpAny_truthy_bool ?_;cases c with
 | true=>exact hb pins s1 σ H1 Q I1 q1
 | false=>exact ⟨.bl false,H1,I1,rfl,q1⟩
def tIf(t:TT)(ta tb:TE):TE:=fun σ H Q=>t σ H fun c H1=>if c=true then ta σ H1 Q else tb σ H1 Q
theorem iF{c:Expr}(hc:PT X c tA)(ha:PE X a ta)(hb:PE X b tb):PE X (.IfExp c a b pos) (tIf tA ta tb):=by
 intro pins s σ H Q I h;refine wpAny_IfExp (thn (hc pins s σ H _ I h) fun d s1 hq__=>?_);obtain ⟨H1,I1,q1⟩:=hq__; cases d with
 | true=>exact ha pins s1 σ H1 Q I1 q1
 | false=>exact hb pins s1 σ H1 Q I1 q1
end
end L2
namespace L2
open PySem PySem.Spec PyProof.Rows
def SqL(K:PySem.W.Frag)(H:Hp)(a:Addr)(xs:List V):Prop:=
 Rd H a (.lst xs) ∨
  ∃ (o:Obj) (its:Array Value) (n:Nat),K.lookup a=some o∧o.cls = .type "list"∧o.dict=none∧o.data = .seq its n∧its.size≤sizeLine∧Vals xs its.toList
def SqT(K:PySem.W.Frag)(H:Hp)(a:Addr)(xs:List V):Prop:=
 Rd H a (.tup xs) ∨
  ∃ (o:Obj) (its:Array Value) (n:Nat),K.lookup a=some o∧o.cls = .type "tuple"∧o.data = .seq its n∧its.size≤sizeLine∧Vals xs its.toList
def TX:Value→Option V
 | .none=>some .non
 | .bool b=>some (.bl b)
 | .int i _=>some (.int i)
 | .str x _=>some (.str x)
 | .bytes b _=>some (.byt b)
 | .float b _=>some (.flt b)
 | .ref a=>some (.ref a)
 | .type n=>some (.ty n)
 | _=>none
theorem RelV.abs{x:V}{u:Value}(r:RelV x u):TX u=some x:=by
 cases x with
 | non=>cases r; rfl
 | bl _=>cases r; rfl
 | int _=>obtain ⟨t,rfl⟩:=r; rfl
 | str _=>obtain ⟨t,rfl⟩:=r; rfl
 | byt _=>obtain ⟨t,rfl⟩:=r; rfl
 | flt _=>obtain ⟨t,rfl⟩:=r; rfl
 | ref _=>cases r; rfl
 | ty _=>cases r; rfl
theorem RelV.inj{x y:V}{u:Value}(r:RelV x u)(q:RelV y u):x=y:=Option.some.inj (r.abs.symm.trans q.abs)
theorem Vals.inj:∀ {xs ys:List V} {us:List Value},Vals xs us→Vals ys us→xs=ys
 | _,_,_,.nil,.nil=>rfl
 | _,_,_,.cons r t,.cons r' t'=>by rw [r.inj r',Vals.inj t t']
section
variable {X:Cx}{pins:List (Addr×Obj)}{σ:St}{H:Hp}{s:Shared}{a:Addr}{xs ys:List V}
theorem SqL.of{K:PySem.W.Frag}(h:H a=some (.lst xs)):SqL K H a xs:=.inl (.inl h)
theorem SqT.of{K:PySem.W.Frag}(h:H a=some (.tup xs)):SqT K H a xs:=.inl (.inl h)
theorem Inv.list(I:Inv X pins σ H s)(h:SqL X.K H a xs):∃ its:List Value,Vals xs its∧PlainL s.heap a its.toArray∧xs.length≤sizeLine:=by
 rcases h with h | ⟨o,its,n,hk,hc,hd,hs,hz,r⟩
 ·obtain ⟨z,its,n,r,e⟩:=h.ok I.hok;exact ⟨its,r,⟨_,n,e,rfl,rfl,rfl⟩,z⟩
 ·refine ⟨its.toList,r,⟨o,n,I.kIn a o hk,hc,hd,by simpa using hs⟩,?_⟩;have e:=r.length;simp only [length_toList] at e;omega
theorem Inv.tuple(I:Inv X pins σ H s)(h:SqT X.K H a xs):∃ its:List Value,Vals xs its∧IsTup s.heap a its.toArray∧xs.length≤sizeLine:=by
 rcases h with h | ⟨o,its,n,hk,hc,hs,hz,r⟩
 ·obtain ⟨z,its,r,p⟩:=h.ok I.hok;exact ⟨its,r,p,z⟩
 ·refine ⟨its.toList,r,⟨o,I.kIn a o hk,hc,n,by simpa using hs⟩,?_⟩;have e:=r.length;simp only [length_toList] at e;omega
theorem Inv.sF(I:Inv X pins σ H s)(h:SqL X.K H a xs)(h':SqL X.K H a ys):xs=ys:=by
 obtain ⟨its,r,⟨o,n,e,_,_,d⟩,_⟩:=I.list h;obtain ⟨its',r',⟨o',n',e',_,_,d'⟩,_⟩:=I.list h';rw [e] at e'; cases e';rw [d] at d';injection d' with d1 _;have:its=its':=by simpa using congrArg toList d1
 subst this;exact r.inj r'
end
abbrev Cx.vn(X:Cx)(E:Value→Shared→Prop):Cx:={ X with xe:=E }
abbrev Cx.nox(X:Cx):Cx:=X.vn fun _ _=>False
theorem Cx.Ok.vn{X:Cx}(ok:X.Ok)(E:Value→Shared→Prop):(X.vn E).Ok:=
 ⟨ok.mod,ok.kind,ok.glob,ok.blt,ok.above,ok.inj,ok.has,ok.cab,ok.hd,ok.frames,ok.stk,ok.exf,ok.bs,ok.bsz,ok.xQ,ok.xR,ok.lP,ok.frf⟩
theorem Cx.Ok.jH{X:Cx}{E:Value→Shared→Prop}(ok:(X.vn E).Ok):X.Ok:=
 ⟨ok.mod,ok.kind,ok.glob,ok.blt,ok.above,ok.inj,ok.has,ok.cab,ok.hd,ok.frames,ok.stk,ok.exf,ok.bs,ok.bsz,ok.xQ,ok.xR,ok.lP,ok.frf⟩
section
variable {X:Cx}{pins:List (Addr×Obj)}{σ:St}{H:Hp}{s:Shared}{E:Value→Shared→Prop}
theorem Inv.vn(I:Inv X pins σ H s)(E:Value→Shared→Prop):Inv (X.vn E) pins σ H s:=⟨I.ok.vn E,I.os,I.bare,I.base,I.loc,I.cell,I.free,I.dG,I.pin,I.hok,I.len⟩
theorem Inv.jH(I:Inv (X.vn E) pins σ H s):Inv X pins σ H s:=⟨I.ok.jH,I.os,I.bare,I.base,I.loc,I.cell,I.free,I.dG,I.pin,I.hok,I.len⟩
theorem SP.jH{D:Ends}{f:Flow}{s':Shared}(h:SP (X.vn E) pins D f s'):SP X pins D f s':=by
 cases f with
 | next=>obtain ⟨σ',H',I,q⟩:=h; exact ⟨σ',H',I.jH,q⟩
 | brk=>obtain ⟨σ',H',I,q⟩:=h; exact ⟨σ',H',I.jH,q⟩
 | cont=>obtain ⟨σ',H',I,q⟩:=h; exact ⟨σ',H',I.jH,q⟩
 | ret u=>obtain ⟨v,σ',H',I,r,q⟩:=h; exact ⟨v,σ',H',I.jH,r,q⟩
theorem PSs.nox{st:List Stmt}{t:TS}(h:PSs X.nox st t):PSs X st t:=fun pins s σ H D I hw=>
 wpAny_mono (h pins s σ H D (I.vn _) hw) (fun _ _ q=>q.jH) fun _ _ z=>False.elim z
end
section
variable {X:Cx}{st:Stmt}{rest:List Stmt}{t u:TS}{e:Expr}{te:TE}{pos:Pos}
def QT:TS:=fun D σ H=>D.nx σ H
def TY(t u:TS):TS:=fun D σ H=>t { D with nx:=u D } σ H
theorem aO:PSs X [] QT:=fun _ _ σ H _ I h=>wpAny_execs_nil ⟨σ,H,I,h⟩
theorem ag(h1:PS X st t)(h2:PSs X rest u):PSs X (st::rest) (TY t u):=by
 intro pins s σ H D I h;refine wpAny_execs_cons (thn (h1 pins s σ H { D with nx:=u D } I h) fun f s1 q=>?_);cases f with
 | next=>
  obtain ⟨σ',H',I',q⟩:=q;exact h2 pins s1 σ' H' D I' q
 | ret v=>exact q
 | brk=>exact q
 | cont=>exact q
theorem ai(h1:PS X st t):PSs X [st] t:=by
 intro pins s σ H D I h;refine wpAny_execs_cons (thn (h1 pins s σ H D I h) fun f s1 q=>?_);cases f with
 | next=>exact wpAny_execs_nil q
 | ret v=>exact q
 | brk=>exact q
 | cont=>exact q
theorem Inv.quiet{pins:List (Addr×Obj)}{σ:St}{H:Hp}{s:Shared}(I:Inv X pins σ H s):interactive X.env=false:=by simp [interactive,I.ok.kind]
def QU(te:TE):TS:=fun D σ H=>te σ H fun _ H1=>D.nx σ H1
theorem aV(he:PE X e te)(hs:swapsWith e none pos.line X.env=pure false:=by rfl):PS X (.Expr e pos) (QU te):=by
 intro pins s σ H D I h;exact wpAny_Expr_any (thn (he pins s σ H _ I h) fun v s1 ⟨x,H1,I1,r1,q1⟩=>⟨σ,H1,I1,q1⟩) I.quiet hs
def QV(te:TE):TS:=fun D σ H=>te σ H D.rt
theorem ay(he:PE X e te):PS X (.Return (some e) pos) (QV te):=by
 intro pins s σ H D I h;exact wpAny_Return_some (thn (he pins s σ H _ I h) fun v s1 ⟨x,H1,I1,r1,q1⟩=>⟨x,σ,H1,I1,r1,q1⟩)
def TZ(c:TT)(t u:TS):TS:=fun D σ H=>c σ H fun b H1=>if b=true then t D σ H1 else u D σ H1
theorem a0{c:Expr}{a b:List Stmt}{tc:TT}(hc:PT X c tc)(ha:PSs X a t)(hb:PSs X b u):PS X (.If c a b pos) (TZ tc t u):=by
 intro pins s σ H D I h;refine wpAny_If (thn (hc pins s σ H _ I h) fun d s1 hq__=>?_);obtain ⟨H1,I1,q1⟩:=hq__; cases d with
 | true=>exact ha pins s1 σ H1 D I1 q1
 | false=>exact hb pins s1 σ H1 D I1 q1
end
abbrev TG:=V→St→Hp→(St→Hp→Prop)→Prop
abbrev TGs:=List V→St→Hp→(St→Hp→Prop)→Prop
def PG(X:Cx)(target:Expr)(t:TG):Prop:=
 ∀ (pins:List (Addr×Obj)) (s:Shared) (σ:St) (H:Hp) (v:V) (u:Value) (Q:St→Hp→Prop),Inv X pins σ H s→RelV v u→t v σ H Q →
  wpAny (model X.prog X.w) X.A (assign target X.env u) (fun _ s'=>∃ σ' H',Inv X pins σ' H' s'∧Q σ' H') X.xe s
def PGs(X:Cx)(ts:List Expr)(t:TGs):Prop:=
 ∀ (pins:List (Addr×Obj)) (s:Shared) (σ:St) (H:Hp) (vs:List V) (us:List Value) (Q:St→Hp→Prop),Inv X pins σ H s→Vals vs us→t vs σ H Q →
  wpAny (model X.prog X.w) X.A (assignInOrder ((assignEach ts X.env).map (·.2)) us) (fun _ s'=>∃ σ' H',Inv X pins σ' H' s'∧Q σ' H') X.xe s
abbrev N8:=V→V→V→Hp→(Hp→Prop)→Prop
def QW(X:Cx)(t:N8):Prop:=
 ∀ (pins:List (Addr×Obj)) (s:Shared) (σ:St) (H:Hp) (o i v:V) (ov iv u:Value) (Q:Hp→Prop),Inv X pins σ H s→RelV o ov→RelV i iv→RelV v u→t o i v H Q →
  wpAny (model X.prog X.w) X.A (setItem ov iv u) (fun _ s'=>∃ H',Inv X pins σ H' s'∧Q H') X.xe s
abbrev TIp:=V→V→Hp→VK→Prop
def PIp(X:Cx)(op:Operator)(t:TIp):Prop:=
 ∀ (pins:List (Addr×Obj)) (s:Shared) (σ:St) (H:Hp) (x y:V) (v u:Value) (Q:VK),Inv X pins σ H s→RelV x v→RelV y u→t x y H Q →
  wpAny (model X.prog X.w) X.A (inplaceOp op v u) (EP X pins σ Q) X.xe s
section
variable {X:Cx}{pos:Pos}
def sI(i:Nat):TG:=fun v σ H Q=>Q (σ.set i (some v)) H
theorem aM{i:Nat}{x:Str}(hN:X.N.Nodup)(hi:X.N[i]? = some x)(hx:Loc X.env.scope x)(hf:X.fn x=true∨X.env.scope.names.lookup x=some .local:=by first | exact .inl rfl | exact .inr rfl | assumption):PG X (.Name x pos) (sI i):=by
 intro pins s σ H v u Q I r h;exact wpAny_assign_Name (oB I hN hi hx r (fun s' I'=>⟨_,H,I',h⟩) hf)
def T5:TGs:=fun vs σ H Q=>vs=[]∧Q σ H
def QX(t:TG)(u:TGs):TGs:=fun vs σ H Q=>∃ v r,vs=v::r∧t v σ H fun σ' H'=>u r σ' H' Q
theorem da:PGs X [] T5:=by
 intro pins s σ H vs us Q I r h;obtain ⟨e,h⟩:=h;subst e;cases r;exact assignInOrder_nil ⟨σ,H,I,h⟩
theorem ba{e:Expr}{es:List Expr}{t:TG}{u:TGs}(h1:PG X e t)(h2:PGs X es u)
  (hs:(assignEach (e::es) X.env).map (·.2)=assign e X.env::(assignEach es X.env).map (·.2):=by rfl):PGs X (e::es) (QX t u):=by
 intro pins s σ H vs us Q I r h;obtain ⟨v,vr,e1,h⟩:=h;subst e1;cases r with
 | cons r rr=>
  rw [hs];refine assignInOrder_cons (thn (h1 pins s σ H _ _ _ I r h) fun _ s1 hq__=>?_);obtain ⟨σ1,H1,I1,q1⟩:=hq__; exact h2 pins s1 σ1 H1 _ _ Q I1 rr q1
def QY(K:PySem.W.Frag)(n:Nat)(t:TGs):TG:=fun v σ H Q=>∃ a xs,v = .ref a∧SqT K H a xs∧xs.length=n∧t xs σ H Q
theorem d7{es:List Expr}{k:Nat}{t:TGs}{n:Nat}(hc:X.calm=true)(h:PGs X es t)
  (hn:(assignEach es X.env).length=n:=by rfl) (hst:(assignEach es X.env).findIdx? (·.1)=none:=by rfl):PG X (.Tuple es k pos) (QY X.K n t):=by
 intro pins s σ H v u Q I r hw;obtain ⟨a,xs,e1,hq,hl,hw⟩:=hw;subst e1;cases r;obtain ⟨its,rv,ht,hz⟩:=I.tuple hq;refine assign_Tuple_tuple (I.ok.hd hc) ht (by simp [hn,← hl,rv.length]) hst fun h' hx=>?_;have I1:Inv X pins σ H { s with heap:=h' }:=I.kept (t':=s.toks) fun b o e=>hx b o (ne_of_lt (Heap.lt_size e)) e;exact h pins _ σ H xs _ Q I1 (by simpa using rv) hw
def T6(to ti:TE)(t:N8):TG:=fun v σ H Q=>to σ H fun o H1=>ti σ H1 fun i H2=>t o i v H2 fun H3=>Q σ H3
theorem HG{o i:Expr}{to ti:TE}{t:N8}(ho:PE X o to)(hi:PE X i ti)(hs:QW X t)
  (ha:∀ v,assign (.Subscript o i pos) X.env v=(do
   let ov ← holding [v] (eval o X.env);let iv ← holding [v,ov] (eval i X.env)
   standAt pos
   holding [v,ov,iv] (setItem ov iv v)
   release [v,ov,iv] []):=by intro _; rfl):PG X (.Subscript o i pos) (T6 to ti t):=by
 intro pins s σ H v u Q I r h;rw [ha];refine wpAny_bind (wpAny_holding (thn (ho pins s σ H _ I h) fun ov s1 hq__=>?_));obtain ⟨x,H1,I1,r1,q1⟩:=hq__; refine wpAny_bind (wpAny_holding (thn (hi pins s1 σ H1 _ I1 q1) fun iv s2 ⟨y,H2,I2,r2,q2⟩=>?_));refine wpAny_bind (wpAny_standAt (wpAny_bind (wpAny_holding (thn (hs pins s2 σ H2 x y v ov iv u _ I2 r1 r2 r q2) fun _ s3 hq__=>?_))));obtain ⟨H3,I3,q3⟩:=hq__; exact wpAny_release ⟨σ,H3,I3,q3⟩
def N9(te:TE)(g:TG):TS:=fun D σ H=>te σ H fun x H1=>g x σ H1 D.nx
theorem HH{tg e:Expr}{te:TE}{g:TG}(he:PE X e te)(hg:PG X tg g)(hs:swapsWithSole [tg] e pos.line X.env=pure false:=by rfl)(hw:swappedStores [tg] e X.env=pure none:=by rfl)
  (h1:(assignEach [tg] X.env).map (·.2)=[assign tg X.env]:=by rfl):PS X (.Assign [tg] e pos) (N9 te g):=by
 intro pins s σ H D I h;refine wpAny_Assign_stores (thn (he pins s σ H _ I h) fun v s1 hq__=>?_) hs hw;obtain ⟨x,H1,I1,r1,q1⟩:=hq__; rw [h1];exact thn (hg pins s1 σ H1 x v _ I1 r1 q1) fun _ s2 q=>q
theorem az{i:Nat}{x:Str}{e:Expr}{te:TE}{pos':Pos}(hN:X.N.Nodup)(hi:X.N[i]? = some x)(hx:Loc X.env.scope x)(he:PE X e te)(hs:swapsWith e (some (.Name x pos')) pos.line X.env=pure false:=by rfl)(hf:X.fn x=true∨X.env.scope.names.lookup x=some .local:=by first | exact .inl rfl | exact .inr rfl | assumption) :
  PS X (.Assign [.Name x pos'] e pos) (N9 te (sI i)):=by
 intro pins s σ H D I h;refine wpAny_Assign_Name (thn (he pins s σ H _ I h) fun v s1 hq__=>?_) hs;obtain ⟨y,H1,I1,r1,q1⟩:=hq__; exact oB I1 hN hi hx r1 (fun s2 I2=>⟨_,H1,I2,q1⟩) hf
def T7(i:Nat)(te:TE)(ti:TIp):TS:=fun D σ H=>∃ x,σ[i]? = some (some x)∧te σ H fun y H1=>ti x y H1 fun z H2=>D.nx (σ.set i (some z)) H2
theorem mj{i:Nat}{x:Str}{e:Expr}{te:TE}{op:Operator}{ti:TIp}{pos':Pos}(hN:X.N.Nodup)(hi:X.N[i]? = some x)(hx:Loc X.env.scope x)(he:PE X e te)(ho:PIp X op ti)(hf:X.fn x=true∨X.env.scope.names.lookup x=some .local:=by first | exact .inl rfl | exact .inr rfl | assumption) :
  PS X (.AugAssign (.Name x pos') op e pos) (T7 i te ti):=by
 intro pins s σ H D I h;obtain ⟨v,e1,h⟩:=h;obtain ⟨m,hn,hl⟩:=I.loc;have vis:Vis X.env.scope x:=by rcases hx with k | k; exact .inl k; exact .inr (.inl k)
 obtain ⟨u,r,l⟩:=hl i x v hi e1 vis;refine wpAny_AugAssign_Name ?_;have go:wpAny (model X.prog X.w) X.A (eval e X.env) (fun w s₂=>wpAny (model X.prog X.w) X.A (inplaceOp op u w) (fun r s₃=>wpAny (model X.prog X.w) X.A (storeName X.env x r) (fun _=>SP X pins D .next) X.xe s₃) X.xe s₂) X.xe s:=by
  refine thn (he pins s σ H _ I h) fun w s1 hq__=>?_;obtain ⟨y,H1,I1,r1,q1⟩:=hq__; refine thn (ho pins s1 σ H1 v y u w _ I1 r r1 q1) fun z s2 ⟨zv,H2,I2,r2,q2⟩=>?_;exact oB I2 hN hi hx r2 (fun s3 I3=>⟨_,H2,I3,q2⟩) hf
 rcases l with ⟨hk,hm⟩ | ⟨hk,c,hc,hcell⟩
 ·exact wpAny_loadName_local I.ok.kind hk hn hm go
 ·rcases hk with hk | hk
  ·exact wpAny_loadName_cell I.ok.kind hk hc hcell go
  ·rcases hx with k | k
   ·have:X.env.scope.names.lookup x=some .free:=hk;rw [k] at this; cases this
   ·have:X.env.scope.names.lookup x=some .free:=hk;rw [k] at this; cases this
def Oa(c:TT)(tb:TS):TS:=fun D σ H=>∃ W:Nat→St→Hp→Prop,(∃ m,W m σ H)∧∀ m σ H,W m σ H →
 c σ H fun b H1=>if b=true then ∃ N:St→Hp→Prop,(∀ σ' H',N σ' H'→∃ m',m'<m∧W m' σ' H')∧tb { D with nx:=N,ct:=N,bk:=D.nx } σ H1 else D.nx σ H1
theorem cS{c:Expr}{body:List Stmt}{tc:TT}{tb:TS}(hp:PassesOwn (model X.prog X.w) X.A X.env X.xe)(hc:PT X c tc)(hb:PSs X body tb):PS X (.While c body [] pos) (Oa tc tb):=by
 intro pins s σ H D I h;obtain ⟨W,⟨m0,w0⟩,turn⟩:=h;refine wpAny_While (codeAny_whileLoop (fun n s'=>∃ σ' H',Inv X pins σ' H' s'∧W n σ' H') ?_ m0 ⟨σ,H,I,w0⟩);rintro n s1 ⟨σ1,H1,I1,w1⟩;refine wpAny_passesOwn hp (thn (hc pins s1 σ1 H1 _ I1 (turn n σ1 H1 w1)) fun b s2 hq__=>?_);obtain ⟨H2,I2,q2⟩:=hq__; cases b with
 | true=>
  obtain ⟨N,hN,q2⟩:=q2;rw [if_pos rfl];refine wpAny_passesOwn hp (thn (hb pins s2 σ1 H2 _ I2 q2) fun f s3 q3=>?_);cases f with
  | next=>
   obtain ⟨σ3,H3,I3,n3⟩:=q3;obtain ⟨m',hm,w3⟩:=hN σ3 H3 n3;exact ⟨m',hm,σ3,H3,I3,w3⟩
  | cont=>
   obtain ⟨σ3,H3,I3,n3⟩:=q3;obtain ⟨m',hm,w3⟩:=hN σ3 H3 n3;exact ⟨m',hm,σ3,H3,I3,w3⟩
  | brk=>exact q3
  | ret v=>exact q3
 | false=>
  rw [if_neg Bool.false_ne_true];exact wpAny_execs_nil ⟨σ1,H2,I2,q2⟩
end
structure It where
 go:Nat→Hp→Prop
 yld:Nat→Hp→V→Hp→Prop
 stop:Nat→Hp→Prop
def sJ(X:Cx)(pins:List (Addr×Obj))(H:Hp)(b:Addr):Prop:=
 H b=none∧b≠X.env.locals∧b ∉ X.fs∧(b∈X.ex∨X.s_0.heap.objs.size≤b)∧(∀ x c,X.env.cells.lookup x=some c→c≠b)∧∀ p∈X.pn++pins,p.1≠b
theorem Inv.FC{X:Cx}{pins:List (Addr×Obj)}{σ:St}{H H':Hp}{s:Shared}{b:Addr}(I:Inv X pins σ H s)(hb:s.heap.objs.size≤b)(hn:H' b=none):sJ X pins H' b:=by
 refine ⟨hn,ne_of_gt (lt_of_lt_of_le I.lt hb),I.TM hb,.inr (le_trans I.sz hb),fun x c e z=>?_,fun p hp z=>?_⟩
 ·obtain ⟨v,q⟩:=I.cell x c e;exact absurd (lt_of_lt_of_le q.lt (by rw [z]; exact hb)) (lt_irrefl _)
 ·exact absurd (lt_of_lt_of_le (Heap.lt_size (I.pin p hp).1) (by rw [z]; exact hb)) (lt_irrefl _)
structure Turn(P:Program)(w:World)(K:PySem.W.Frag)(tg:Expr)(J:It)(fp:List Addr)(it:Addr)(tn:Nat→Heap→Prop):Prop where
 mem:it∈fp
 obj:∀ i h,tn i h→∀ b∈fp,∃ o,h.get? b=some o∧∀ v,o.data≠.cell v
 keep:∀ i h h',tn i h→(∀ b∈fp,∀ o,h.get? b=some o→h'.get? b=some o)→tn i h'
 item:∀ (X:Cx),X.prog=P→X.w=w→X.K=K→X.calm=true→∀ (i:Nat) (pins:List (Addr×Obj)) (s:Shared) (σ:St) (H:Hp) (E:Value→Shared→Prop),Inv X pins σ H s→(∀ b∈fp,sJ X pins H b)→tn i s.heap→J.go i H →
  wpAny (model P w) X.A (pyNext (.ref it)) (fun r s1=>∃ u,r=some u ∧
   wpAny (model P w) X.A (letOwnedTupleGo tg (.ref it) u) (fun _ s2=>∃ x H',Inv X pins σ H' s2∧RelV x u∧J.yld i H x H'∧tn (i+1) s2.heap∧∀ b∈fp,H' b=none) E s1) E s
 done:∀ (X:Cx),X.prog=P→X.w=w→X.K=K→X.calm=true→∀ (i:Nat) (pins:List (Addr×Obj)) (s:Shared) (σ:St) (H:Hp) (E:Value→Shared→Prop),Inv X pins σ H s→(∀ b∈fp,sJ X pins H b)→tn i s.heap→J.stop i H →
  wpAny (model P w) X.A (pyNext (.ref it)) (fun r s1=>r=none∧Inv X pins σ H s1) E s
 self:∀ (A:Around) (i:Nat) (s:Shared) (Q:Value→Shared→Prop) (E:Value→Shared→Prop),tn i s.heap→Q (.ref it) s→wpAny (model P w) A (pyIter (.ref it)) Q E s
abbrev TI:=St→Hp→(It→Hp→Prop)→Prop
def PIE(X:Cx)(pins:List (Addr×Obj))(σ:St)(tg:Expr)(R:It→Hp→Prop)(itv:Value)(s2:Shared):Prop:=
 ∃ (it:Addr) (fp:List Addr) (tn:Nat→Heap→Prop) (J:It) (H':Hp),itv = .ref it∧Inv X pins σ H' s2∧Turn X.prog X.w X.K tg J fp it tn∧tn 0 s2.heap∧(∀ b∈fp,sJ X pins H' b)∧R J H'
def PI(X:Cx)(tg iter:Expr)(wi:TI):Prop:=
 ∀ (pins:List (Addr×Obj)) (s:Shared) (σ:St) (H:Hp) (R:It→Hp→Prop),Inv X pins σ H s→wi σ H R →
  wpAny (model X.prog X.w) X.A (eval iter X.env) (fun v s1=>wpAny (model X.prog X.w) X.A (pyIter v) (PIE X pins σ tg R) X.xe s1) X.xe s
theorem HI {M : Model} {A : Around} {E : Value → Shared → Prop} {s : Shared} {tg : Expr} {it : Addr} {u : Value} {o : Obj} {n : String} {vs : Array Value} {Q : Unit → Shared → Prop} (ho : s.heap.get? it = some o) (hc : o.cls = .type n) (hd : o.data = .fields vs)
    (hn : ["enumerate", "zip", "dict_itemiterator", "dict_reverseitemiterator", "odict_iterator", "itertools.zip_longest", "itertools.pairwise"].contains n = false) (hQ : Q () s) : wpAny M A (letOwnedTupleGo tg (.ref it) u) Q E s := by
  unfold letOwnedTupleGo;cases tg <;> first
    | exact wpAny_pure hQ
    | (cases u <;> first
        | exact wpAny_pure hQ
        | (refine wpAny_bind (wpAny_load ho ?_)
           rw [hc, hd];show wpAny M A (if (["enumerate", "zip", "dict_itemiterator", "dict_reverseitemiterator", "odict_iterator", "itertools.zip_longest", "itertools.pairwise"].contains n && vs[0]? == some (rawInt _)) = true then _ else _) Q E s;rw [if_neg (by intro h; rw [hn, Bool.false_and] at h; cases h)];exact wpAny_pure hQ))
def Itl(K:PySem.W.Frag)(a:Addr):It:=
 ⟨fun i H=>∃ xs x,SqL K H a xs∧xs[i]? = some x,fun i H x H'=>H'=H∧∀ xs,SqL K H a xs→xs[i]? = some x,fun i H=>∃ xs,SqL K H a xs∧xs.length≤i⟩
def Itr(lo:Int)(n:Nat):It:=⟨fun i _=>i<n,fun i H x H'=>H'=H∧x = .int (lo+i),fun i _=>n≤i⟩
theorem FF{P:Program}{w:World}{K:PySem.W.Frag}{tg:Expr}(a it:Addr):Turn P w K tg (Itl K a) [it] it (fun i h=>h.IsListIter it a i) where
 mem:=by simp
 obj:=fun i h st b hb=>by
  have e:b=it:=by simpa using hb
  subst e;obtain ⟨o,e,c,d⟩:=st;exact ⟨o,e,fun v z=>by rw [d] at z; cases z⟩
 keep:=fun i h h' st k=>st.at fun o e=>k it (by simp) o e
 item:=by
  intro X hP hw hK hc i pins s σ H E I hf st hg;subst hP hw hK;obtain ⟨xs,x,hq,hx⟩:=hg;obtain ⟨its,rv,p,hz⟩:=I.list hq;obtain ⟨u,hu,ru⟩:=rv.get hx;obtain ⟨f0,f1,f2,f3,f4,f5⟩:=hf it (by simp);refine wpAny_pyNext_list_item st p.isList (x:=u) (by simpa using hu) fun h' st' sb=>?_;have I1:Inv X pins σ H { s with heap:=h' }:=I.turned (t':=s.toks) (fun b o hb e=>(sb.2 b hb).trans e) f0 f1 f3 f4 f5;obtain ⟨o,e,c,d⟩:=id st';exact ⟨u,rfl,HI (s:={ s with heap:=h' }) e c d (by decide) ⟨x,H,I1,ru,⟨rfl,fun ys hy=>by rw [I.sF hy hq]; exact hx⟩,st',fun b hb=>(hf b hb).1⟩⟩
 done:=by
  intro X hP hw hK hc i pins s σ H E I hf st hg;subst hP hw hK;obtain ⟨xs,hq,hx⟩:=hg;obtain ⟨its,rv,p,hz⟩:=I.list hq;obtain ⟨f0,f1,f2,f3,f4,f5⟩:=hf it (by simp);have hl:=rv.length;exact wpAny_pyNext_list_end (I.ok.hd hc) st p.isList (by simp; omega) fun h' eb=>⟨rfl,I.turned (t':=s.toks) (fun b o hb e=>eb b o hb e) f0 f1 f3 f4 f5⟩
 self:=fun _ _ _ _ _ st h=>wpAny_pyIter_listiter st h
theorem Bz{P:Program}{w:World}{K:PySem.W.Frag}{tg:Expr}(it:Addr)(lo:Int)(n:Nat):Turn P w K tg (Itr lo n) [it] it (fun i h=>IsRangeIter h it (lo+(i:Nat)*1) ((n:Int)-(i:Nat)) 1) where
 mem:=by simp
 obj:=fun i h st b hb=>by
  have e:b=it:=by simpa using hb
  subst e;exact ⟨_,st,fun v z=>by
   have z':Data.fields _=Data.cell v:=z;cases z'⟩
 keep:=fun i h h' st k=>k it (by simp) _ st
 item:=by
  intro X hP hw hK hc i pins s σ H E I hf st hg;subst hP hw hK;obtain ⟨f0,f1,f2,f3,f4,f5⟩:=hf it (by simp);have W:=Walks.range (prog:=X.prog) (w:=X.w) (I.ok.hd hc) it lo 1 n;refine W.item i s _ _ hg st fun v h' tk hv st' kk=>?_;obtain ⟨t,rfl⟩:=hv;have I1:Inv X pins σ H { s with heap:=h',toks:=tk }:=I.turned (fun b o hb e=>kk b o (by simpa using hb) e) f0 f1 f3 f4 f5;refine ⟨_,rfl,HI (s:={ s with heap:=h',toks:=tk }) (n:="range_iterator") st' rfl rfl (by decide) ⟨.int (lo+i),H,I1,⟨t,?_⟩,⟨rfl,rfl⟩,st',fun b hb=>(hf b hb).1⟩⟩;rw [Int.mul_one]
 done:=by
  intro X hP hw hK hc i pins s σ H E I hf st hg;subst hP hw hK;obtain ⟨f0,f1,f2,f3,f4,f5⟩:=hf it (by simp);exact wpAny_pyNext_range_end (I.ok.hd hc) st (by have:n≤i:=hg; omega) fun h' eb=>⟨rfl,I.turned (t':=s.toks) (fun b o hb e=>eb b o hb e) f0 f1 f3 f4 f5⟩
 self:=fun _ _ _ _ _ st h=>wpAny_pyIter_rangeiter st h
end L2
namespace L2
open PySem PySem.Spec PyProof.Rows
section
variable {X:Cx}{tg:Expr}
def Nj(K:PySem.W.Frag)(tl:TE):TI:=fun σ H R=>tl σ H fun x H1=>∃ a,x = .ref a∧(∃ xs,SqL K H1 a xs)∧R (Itl K a) H1
theorem cI{l:Expr}{tl:TE}(hl:PE X l tl):PI X tg l (Nj X.K tl):=by
 intro pins s σ H R I h;refine thn (hl pins s σ H _ I h) fun v s1 hq__=>?_;obtain ⟨x,H1,I1,r1,q1⟩:=hq__; obtain ⟨a,e,⟨xs,hq⟩,q⟩:=q1;subst e;cases r1;obtain ⟨its,rv,p,hz⟩:=I1.list hq;refine wpAny_pyIter_list p.isList ?_;refine ⟨s1.heap.objs.size,[s1.heap.objs.size],_,_,H1,rfl,I1.kept (t':=s1.toks) fun b o e=>Heap.get?_push_of_some _ e,FF a _,⟨_,Heap.get?_push_size _ rfl,rfl,rfl⟩,fun b hb=>?_,q⟩;have e:b=s1.heap.objs.size:=by simpa using hb
 subst e;exact I1.FC (le_refl _) (I1.hok.fresh (le_refl _))
theorem zA{pins:List (Addr×Obj)}{σ:St}{H:Hp}{s:Shared}{R:It→Hp→Prop}{E:Value→Shared→Prop}{lo hi:Int}{t u v:Tok}{tk:Nat}(I:Inv X pins σ H s)(h1 : -(2 ^ 62)≤lo)(h2:lo<2 ^ 62)(h3 : -(2 ^ 62)≤hi)(h4:hi<2 ^ 62)
  (q:R (Itr lo (hi-lo).toNat) H):wpAny (model X.prog X.w) X.A (pyIter (.ref s.heap.objs.size)) (PIE X pins σ tg R) E { s with heap:=s.heap.push { cls:=.type "range",data:=.fields #[.int lo t,.int hi u,.int 1 v] },toks:=tk }:=by
 refine wpAny_pyIter_range (IsRange.new ..) (small_one h1 h2 h3 h4) ?_;have I1:Inv X pins σ H { s with heap:=s.heap.push { cls:=.type "range",data:=.fields #[.int lo t,.int hi u,.int 1 v] },toks:=tk }:=I.kept fun b o e=>Heap.get?_push_of_some _ e;refine ⟨(s.heap.push { cls:=.type "range",data:=.fields #[.int lo t,.int hi u,.int 1 v] }).objs.size,[(s.heap.push { cls:=.type "range",data:=.fields #[.int lo t,.int hi u,.int 1 v] }).objs.size],_,_,H,rfl,
  I1.kept (t':=tk) fun b o e=>Heap.get?_push_of_some _ e,Bz _ lo (hi-lo).toNat,?_,fun b hb=>?_,q⟩
 ·have e1:lo+((0:Nat):Int)*1=lo:=by simp
  have e2:(((hi-lo).toNat:Nat):Int)-((0:Nat):Int)=Builtin.Range.rangeSize lo hi 1:=by rw [rangeSize_one]; split <;> omega
  show IsRangeIter _ _ (lo+((0:Nat):Int)*1) ((((hi-lo).toNat:Nat):Int)-((0:Nat):Int)) 1;rw [e1,e2];exact Heap.get?_push_size _ rfl
 ·have e:b=(s.heap.push { cls:=.type "range",data:=.fields #[.int lo t,.int hi u,.int 1 v] }).objs.size:=by simpa using hb
  subst e;exact I1.FC (le_refl _) (I1.hok.fresh (le_refl _))
def QZ(ta:TA):TI:=fun σ H R=>ta σ H fun vs H1=>∃ j:Int,vs=[.int j]∧-(2 ^ 62)≤j∧j<2 ^ 62∧R (Itr 0 j.toNat) H1
def Q0(ta:TA):TI:=fun σ H R=>ta σ H fun vs H1=>∃ i j:Int,vs=[.int i,.int j]∧(-(2 ^ 62)≤i∧i<2 ^ 62∧-(2 ^ 62)≤j∧j<2 ^ 62)∧R (Itr i (j-i).toNat) H1
theorem lj{a:Expr}{ta:TA}{p pos:Pos}(hg:Gl X "range")(hm:X.mg "range"=none)(ha:PA X [a] ta)(hs:starEach [a] X.env=[(false,eval a X.env)]:=by rfl):PI X tg (.Call (.Name "range" p) [a] [] pos) (QZ ta):=by
 intro pins s σ H R I h;refine Call_ (mi I hg hm boot_range (PyProof.Rows.callWith_type1 (thn (ha pos pins s σ H _ I h) fun us s1 hq__=>?_) hs rfl));obtain ⟨vs,H1,I1,r1,q1⟩:=hq__; obtain ⟨j,e,q1,q2,q⟩:=q1;subst e;cases r1 with
 | cons r rr=>
  cases rr;obtain ⟨t,rfl⟩:=r;exact call_range_1 (zA I1 (by omega) (by omega) q1 q2 (by simpa using q))
theorem iG{a b:Expr}{ta:TA}{p pos:Pos}(hg:Gl X "range")(hm:X.mg "range"=none)(ha:PA X [a,b] ta)(hs:starEach [a,b] X.env=[(false,eval a X.env),(false,eval b X.env)]:=by rfl)(hs2:starEach [b] X.env=[(false,eval b X.env)]:=by rfl) :
  PI X tg (.Call (.Name "range" p) [a,b] [] pos) (Q0 ta):=by
 intro pins s σ H R I h;refine Call_ (mi I hg hm boot_range (PyProof.Rows.callWith_type1 (thn (ha pos pins s σ H _ I h) fun us s1 hq__=>?_) (by rw [hs,hs2]) (by rw [hs2]; rfl)));obtain ⟨vs,H1,I1,r1,q1⟩:=hq__; obtain ⟨i,j,e,⟨q1,q2,q3,q4⟩,q⟩:=q1;subst e;cases r1 with
 | cons r rr=>
  cases rr with
  | cons r' rr=>
   cases rr;obtain ⟨t,rfl⟩:=r;obtain ⟨t',rfl⟩:=r';exact call_range_2 (zA I1 q1 q2 q3 q4 q)
def T8(wi:TI)(g:TG)(tb:TS):TS:=fun D σ H=>wi σ H fun J H1=>∃ W:Nat→Nat→St→Hp→Prop,(∃ m,W 0 m σ H1)∧∀ i m σ H,W i m σ H →
 (J.stop i H∧D.nx σ H)∨(J.go i H∧∃ N:St→Hp→Prop,(∀ σ' H',N σ' H'→∃ m',m'<m∧W (i+1) m' σ' H')∧∀ x H',J.yld i H x H'→g x σ H' fun σ2 H2=>tb { D with nx:=N,ct:=N,bk:=D.nx } σ2 H2)
def sL(fp:List Addr)(h:Heap):List (Addr×Obj):=fp.filterMap fun b=>(h.get? b).map fun o=>(b,o)
theorem mm{fp:List Addr}{h:Heap}{b:Addr}{o:Obj}(hb:b∈fp)(e:h.get? b=some o):(b,o)∈sL fp h:=List.mem_filterMap.mpr ⟨b,hb,by rw [e]; rfl⟩
theorem FG{fp:List Addr}{h:Heap}{p:Addr×Obj}(hp:p∈sL fp h):p.1∈fp∧h.get? p.1=some p.2:=by
 obtain ⟨b,hb,e⟩:=List.mem_filterMap.mp hp;cases q:h.get? b with
 | none=>rw [q] at e; cases e
 | some o=>
  rw [q] at e;have e':(b,o)=p:=Option.some.inj e;subst e';exact ⟨hb,q⟩
theorem Inv.pinned{pins:List (Addr×Obj)}{σ:St}{H:Hp}{s:Shared}{fp:List Addr}(I:Inv X pins σ H s)(hf:∀ b∈fp,sJ X pins H b)(ho:∀ b∈fp,∃ o,s.heap.get? b=some o∧∀ v,o.data≠.cell v):Inv X (pins++sL fp s.heap) σ H s:=
 I.Ek fun p hp=>(mem_append.mp hp).elim (fun z=>I.pin p (mem_append_right _ z)) fun z=>by
  obtain ⟨hb,e⟩:=FG z;obtain ⟨f0,f1,f2,_⟩:=hf p.1 hb;obtain ⟨o,e',d⟩:=ho p.1 hb;rw [e] at e'; cases e';exact ⟨e,f0,f1,f2,d⟩
theorem Inv.oF{pins pl:List (Addr×Obj)}{σ:St}{H:Hp}{s:Shared}(I:Inv X (pins++pl) σ H s):Inv X pins σ H s:=I.Ek fun p hp=>I.pin p (mem_append_right _ (mem_append_left _ hp))
theorem cu{iter:Expr}{body:List Stmt}{wi:TI}{g:TG}{tb:TS}{pos:Pos}(hp:PassesOwn (model X.prog X.w) X.A X.env X.xe)(hc:X.calm=true)(hi:PI X tg iter wi)(hg:PG X tg g)(hb:PSs X body tb)
  (hs:∀ x,foldedSetIterable iter X.env x=pure x:=by intro _; rfl):PS X (.For tg iter body [] pos) (T8 wi g tb):=by
 intro pins s σ H D I h;refine wpAny_For (thn (hi pins s σ H _ I h) fun v s1 h1=>thn h1 fun itv s2 h2=>?_) hs;obtain ⟨it,fp,tn,J,H2,e,I2,T,st2,f2,W,⟨m0,w0⟩,turn⟩:=h2;subst e;have stat:∀ {H':Hp},(∀ b∈fp,H' b=none)→∀ b∈fp,sJ X pins H' b:=fun hn b hb=>⟨hn b hb,(f2 b hb).2⟩;refine codeAny_forLoop_any (fun n s'=>∃ i σ' H',Inv X pins σ' H' s'∧tn i s'.heap∧(∀ b∈fp,H' b=none)∧W i n σ' H') ?_ m0 ⟨0,σ,H2,I2,st2,fun b hb=>(f2 b hb).1,w0⟩;rintro n s3 ⟨i,σ3,H3,I3,st3,fr3,w3⟩;rcases turn i n σ3 H3 w3 with ⟨stop,qn⟩ | ⟨go,N,hN,step⟩
 ·refine wpAny_passesOwn hp (thn (T.done X rfl rfl rfl hc i pins s3 σ3 H3 X.xe I3 (stat fr3) st3 stop) fun r s4 hq__=>?_);obtain ⟨hr,I4⟩:=hq__; subst hr;exact wpAny_execs_nil ⟨σ3,H3,I4,qn⟩
 ·refine wpAny_passesOwn hp (thn (T.item X rfl rfl rfl hc i pins s3 σ3 H3 X.xe I3 (stat fr3) st3 go) fun r s4 hq__=>?_);obtain ⟨u,hr,h4⟩:=hq__; subst hr;refine wpAny_passesOwn hp (thn h4 fun _ s5 hq__=>?_);obtain ⟨x,H5,I5,r5,y5,st5,fr5⟩:=hq__; have I5':=I5.pinned (stat fr5) (T.obj _ _ st5);refine wpAny_passesOwn hp (thn (hg _ s5 σ3 H5 x u _ I5' r5 (step x H5 y5)) fun _ s6 hq__=>?_);obtain ⟨σ6,H6,I6,q6⟩:=hq__; refine wpAny_passesOwn hp (thn (hb _ s6 σ6 H6 _ I6 q6) fun f s7 q7=>?_);have again:∀ {σ7:St} {H7:Hp},Inv X (pins++sL fp s5.heap) σ7 H7 s7→N σ7 H7→∃ m,m<n∧∃ i σ' H',Inv X pins σ' H' s7∧tn i s7.heap∧(∀ b∈fp,H' b=none)∧W i m σ' H':=fun {σ7 H7} I7 n7=>by
   obtain ⟨m',hm,w7⟩:=hN σ7 H7 n7;refine ⟨m',hm,i+1,σ7,H7,I7.oF,T.keep _ _ _ st5 fun b hb o e=>(I7.pin (b,o) (mem_append_right _ (mem_append_right _ (mm hb e)))).1,fun b hb=>?_,w7⟩;obtain ⟨o,e,d⟩:=T.obj _ _ st5 b hb;exact (I7.pin (b,o) (mem_append_right _ (mem_append_right _ (mm hb e)))).2.1
  cases f with
  | next=>obtain ⟨σ7,H7,I7,n7⟩:=q7; exact again I7 n7
  | cont=>obtain ⟨σ7,H7,I7,n7⟩:=q7; exact again I7 n7
  | brk=>obtain ⟨σ7,H7,I7,q7⟩:=q7; exact ⟨σ7,H7,I7.oF,q7⟩
  | ret v=>obtain ⟨x7,σ7,H7,I7,r7,q7⟩:=q7; exact ⟨x7,σ7,H7,I7.oF,r7,q7⟩
end
theorem jI{K:PySem.W.Frag}{a:Addr}{xs:List V}{g:TG}{tb:TS}{D:Ends}{σ:St}{H:Hp}(Pv:Nat→St→Hp→Prop)(h0:Pv 0 σ H)(hl:∀ i σ H,i≤xs.length→Pv i σ H→SqL K H a xs)
  (hs:∀ i x σ H,xs[i]? = some x→Pv i σ H→g x σ H fun σ2 H2=>tb { D with nx:=Pv (i+1),ct:=Pv (i+1),bk:=D.nx } σ2 H2) (hd:∀ σ H,Pv xs.length σ H→D.nx σ H) :
  ∃ W:Nat→Nat→St→Hp→Prop,(∃ m,W 0 m σ H)∧∀ i m σ H,W i m σ H →
   ((Itl K a).stop i H∧D.nx σ H)∨((Itl K a).go i H∧∃ N:St→Hp→Prop,(∀ σ' H',N σ' H'→∃ m',m'<m∧W (i+1) m' σ' H')∧∀ x H',(Itl K a).yld i H x H'→g x σ H' fun σ2 H2=>tb { D with nx:=N,ct:=N,bk:=D.nx } σ2 H2):=by
 refine ⟨fun i m σ H=>m=xs.length-i∧i≤xs.length∧Pv i σ H,⟨xs.length,by simp,zero_le _,h0⟩,?_⟩;rintro i m σ H ⟨rfl,hi,p⟩;have q:=hl i σ H hi p;by_cases hlt:i<xs.length
 ·refine .inr ⟨⟨xs,xs[i],q,by simp [hlt]⟩,Pv (i+1),fun σ' H' p'=>⟨xs.length-(i+1),by omega,rfl,hlt,p'⟩,fun x H' y=>?_⟩;obtain ⟨e,y⟩:=y;subst e;exact hs i x σ _ (y xs q) p
 ·have e:i=xs.length:=by omega
  subst e;exact .inl ⟨⟨xs,q,le_refl _⟩,hd σ H p⟩
theorem dI{lo:Int}{n:Nat}{g:TG}{tb:TS}{D:Ends}{σ:St}{H:Hp}(Pv:Nat→St→Hp→Prop)(h0:Pv 0 σ H)
  (hs:∀ i σ H,i<n→Pv i σ H→g (.int (lo+i)) σ H fun σ2 H2=>tb { D with nx:=Pv (i+1),ct:=Pv (i+1),bk:=D.nx } σ2 H2) (hd:∀ σ H,Pv n σ H→D.nx σ H) :
  ∃ W:Nat→Nat→St→Hp→Prop,(∃ m,W 0 m σ H)∧∀ i m σ H,W i m σ H →
   ((Itr lo n).stop i H∧D.nx σ H)∨((Itr lo n).go i H∧∃ N:St→Hp→Prop,(∀ σ' H',N σ' H'→∃ m',m'<m∧W (i+1) m' σ' H')∧∀ x H',(Itr lo n).yld i H x H'→g x σ H' fun σ2 H2=>tb { D with nx:=N,ct:=N,bk:=D.nx } σ2 H2):=by
 refine ⟨fun i m σ H=>m=n-i∧i≤n∧Pv i σ H,⟨n,by simp,zero_le _,h0⟩,?_⟩;rintro i m σ H ⟨rfl,hi,p⟩;by_cases hlt:i<n
 ·refine .inr ⟨hlt,Pv (i+1),fun σ' H' p'=>⟨n-(i+1),by omega,rfl,hlt,p'⟩,fun x H' y=>?_⟩;obtain ⟨e,y⟩:=y;subst e y;exact hs i σ _ hlt p
 ·have e:i=n:=by omega
  subst e;exact .inl ⟨le_refl _,hd σ H p⟩
end L2
namespace L2
open PySem PySem.Spec PyProof.Rows
abbrev R2:=V→V→Hp→VK→Prop
def OpR(X:Cx)(f:Value→Value→Sem Value)(r:R2):Prop:=
 ∀ (pins:List (Addr×Obj)) (s:Shared) (σ:St) (H:Hp) (x y:V) (v u:Value) (Q:VK),Inv X pins σ H s→RelV x v→RelV y u→r x y H Q →
  wpAny (model X.prog X.w) X.A (f v u) (EP X pins σ Q) X.xe s
def UnR(X:Cx)(f:Value→Sem Value)(r:V→Hp→VK→Prop):Prop:=
 ∀ (pins:List (Addr×Obj)) (s:Shared) (σ:St) (H:Hp) (x:V) (v:Value) (Q:VK),Inv X pins σ H s→RelV x v→r x H Q →
  wpAny (model X.prog X.w) X.A (f v) (EP X pins σ Q) X.xe s
def gm(X:Cx)(f:Value)(r:List V→Hp→VK→Prop):Prop:=
 ∀ (pins:List (Addr×Obj)) (s:Shared) (σ:St) (H:Hp) (xs:List V) (us:List Value) (Q:VK),Inv X pins σ H s→Vals xs us→r xs H Q →
  wpAny (model X.prog X.w) X.A (call f us) (EP X pins σ Q) X.xe s
def tOp(r:R2)(ta tb:TE):TE:=fun σ H Q=>ta σ H fun x H1=>tb σ H1 fun y H2=>r x y H2 Q
def tUn(r:V→Hp→VK→Prop)(ta:TE):TE:=fun σ H Q=>ta σ H fun x H1=>r x H1 Q
def rI(C:Int→Int→Prop)(g:Int→Int→V):R2:=fun x y H Q=>∃ i j,x = .int i∧y = .int j∧C i j∧Q (g i j) H
def rI0(g:Int→Int→V):R2:=fun x y H Q=>∃ i j,x = .int i∧y = .int j∧Q (g i j) H
def rU(g:Int→V):V→Hp→VK→Prop:=fun x H Q=>∃ i,x = .int i∧Q (g i) H
section
variable {X:Cx}{a b c:Expr}{ta tb tc:TE}{pos:Pos}
theorem Ob(ha:PE X a ta)(hb:PE X b tb){pins:List (Addr×Obj)}{s:Shared}{σ:St}{H:Hp}{R:V→V→Hp→Prop}(I:Inv X pins σ H s)
  (h:ta σ H fun x H1=>tb σ H1 fun y H2=>R x y H2) {Q:Value→Shared→Prop} {f:Value→Value→Sem Value}
  (hf:∀ v u s2 x y H2,Inv X pins σ H2 s2→RelV x v→RelV y u→R x y H2→wpAny (model X.prog X.w) X.A (f v u) Q X.xe s2) :
  wpAny (model X.prog X.w) X.A (eval a X.env) (fun v s₁=>wpAny (model X.prog X.w) X.A (eval b X.env) (fun u s₂=>wpAny (model X.prog X.w) X.A (f v u) Q X.xe s₂) X.xe s₁) X.xe s:=by
 refine thn (ha pins s σ H _ I h) fun v s1 hq__=>?_;obtain ⟨x,H1,I1,r1,q1⟩:=hq__; refine thn (hb pins s1 σ H1 _ I1 q1) fun u s2 ⟨y,H2,I2,r2,q2⟩=>?_;exact hf v u s2 x y H2 I2 r1 r2 q2
theorem aU{op:Operator}{r:R2}(ho:OpR X (binaryOp op) r)(ha:PE X a ta)(hb:PE X b tb):PE X (.BinOp a op b pos) (tOp r ta tb):=by
 intro pins s σ H Q I h;exact wpAny_BinOp (Ob ha hb I h fun v u s2 x y H2 I2 rx ry q=>ho pins s2 σ H2 x y v u Q I2 rx ry q)
theorem wj{op:UnaryOp}{r:V→Hp→VK→Prop}(ho:UnR X (unaryOp op) r)(ha:PE X a ta):PE X (.UnaryOp op a pos) (tUn r ta):=by
 intro pins s σ H Q I h;exact UnaryOp_ (thn (ha pins s σ H _ I h) fun v s1 ⟨x,H1,I1,r1,q1⟩=>ho pins s1 σ H1 x v Q I1 r1 q1)
theorem opI{f:Value→Value→Sem Value}{C:Int→Int→Prop}{g:Int→Int→Int}
  (rule:∀ (i j:Int) (t u:Tok) (s:Shared) (Q:Value→Shared→Prop) (E:Value→Shared→Prop),C i j→Q (.int (g i j) s.toks) { s with toks:=s.toks+1 }→wpAny (model X.prog X.w) X.A (f (.int i t) (.int j u)) Q E s) :
  OpR X f (rI C fun i j=>.int (g i j)):=by
 intro pins s σ H x y v u Q I rx ry h;obtain ⟨i,j,rfl,rfl,hc,q⟩:=h;obtain ⟨t,rfl⟩:=rx;obtain ⟨t',rfl⟩:=ry;exact rule i j t t' s _ _ hc ⟨.int (g i j),H,I.tok _,⟨_,rfl⟩,q⟩
theorem zB{f:Value→Value→Sem Value}{g:Int→Int→Int}
  (rule:∀ (i j:Int) (t u:Tok) (s:Shared) (Q:Value→Shared→Prop) (E:Value→Shared→Prop),Q (.int (g i j) s.toks) { s with toks:=s.toks+1 }→wpAny (model X.prog X.w) X.A (f (.int i t) (.int j u)) Q E s) :
  OpR X f (rI0 fun i j=>.int (g i j)):=by
 intro pins s σ H x y v u Q I rx ry h;obtain ⟨i,j,rfl,rfl,q⟩:=h;obtain ⟨t,rfl⟩:=rx;obtain ⟨t',rfl⟩:=ry;exact rule i j t t' s _ _ ⟨.int (g i j),H,I.tok _,⟨_,rfl⟩,q⟩
theorem Oc{f:Value→Value→Sem Value}{g:Int→Int→Bool}
  (rule:∀ (i j:Int) (t u:Tok) (s:Shared) (Q:Value→Shared→Prop) (E:Value→Shared→Prop),Q (.bool (g i j)) s→wpAny (model X.prog X.w) X.A (f (.int i t) (.int j u)) Q E s) :
  OpR X f (rI0 fun i j=>.bl (g i j)):=by
 intro pins s σ H x y v u Q I rx ry h;obtain ⟨i,j,rfl,rfl,q⟩:=h;obtain ⟨t,rfl⟩:=rx;obtain ⟨t',rfl⟩:=ry;exact rule i j t t' s _ _ ⟨.bl (g i j),H,I,rfl,q⟩
def T9(i j:Int):Prop:=0<j∧j<1073741824
def Ua(i j:Int):Prop:=0≤j∧j≤1000000∧i.natAbs<2 ^ 64
def Le(i j:Int):Prop:=(-(2 ^ 64)<i∧i<2 ^ 64)∨(-(2 ^ 64)<j∧j<2 ^ 64)
theorem Le.ok{i j:Int}(h:Le i j):IntMulOk i j:=by
 rcases h with ⟨h1,h2⟩ | ⟨h1,h2⟩
 ·exact .of_left (intBits_le_64 h1 h2)
 ·exact .of_right (intBits_le_64 h1 h2)
theorem BA(k:Nat):(0:Int)≤2 ^ k:=by
 rw [two_pow_cast];exact Int.natCast_nonneg _
theorem cz:OpR X (binaryOp .Add) (rI0 fun i j=>.int (i+j)):=zB fun _ _ _ _ _ _ _ q=>add_int q
theorem cX:OpR X (binaryOp .Sub) (rI0 fun i j=>.int (i-j)):=zB fun _ _ _ _ _ _ _ q=>sub_int q
theorem xT:OpR X (binaryOp .Mult) (rI Le fun i j=>.int (i*j)):=opI fun _ _ _ _ _ _ _ hc q=>mul_int q hc.ok
theorem xU:OpR X (binaryOp .FloorDiv) (rI T9 fun i j=>.int (i / j)):=opI fun i j _ _ _ _ _ hc q=>by
 have h1:(0:Int)<j:=hc.1;have h2:j<1073741824:=hc.2;exact floordiv_int (by omega) (by rw [Int.fdiv_eq_ediv_of_nonneg i (by omega)]; exact q) (.inl (PyProof.noPylong_small (by omega)))
theorem Od:OpR X (binaryOp .LShift) (rI Ua fun i j=>.int (i*2 ^ j.toNat)):=opI fun _ _ _ _ _ _ _ hc q=>lshift_int_small hc.1 hc.2.1 hc.2.2 q
theorem pW:OpR X (binaryOp .BitAnd) (rI0 fun i j=>.int (Builtin.bitAnd i j)):=zB fun _ _ _ _ _ _ _ q=>and_int q
theorem Nk:OpR X (binaryOp .BitOr) (rI0 fun i j=>.int (Builtin.bitOr i j)):=zB fun _ _ _ _ _ _ _ q=>or_int q
theorem Oe:OpR X (binaryOp .BitXor) (rI0 fun i j=>.int (Builtin.bitXor i j)):=zB fun _ _ _ _ _ _ _ q=>xor_int q
theorem xV:OpR X (inplaceOp .Add) (rI0 fun i j=>.int (i+j)):=zB fun _ _ _ _ _ _ _ q=>iadd_int q
theorem Lf:OpR X (inplaceOp .Sub) (rI0 fun i j=>.int (i-j)):=zB fun _ _ _ _ _ _ _ q=>isub_int q
theorem Lg:OpR X (inplaceOp .Mult) (rI Le fun i j=>.int (i*j)):=opI fun _ _ _ _ _ _ _ hc q=>imul_int q hc.ok
theorem Lh:OpR X (inplaceOp .RShift) (rI (fun _ j=>0≤j) fun i j=>.int (i / 2 ^ j.toNat)):=opI fun i j _ _ _ _ _ hc q=>
 irshift_int hc (by rw [Int.fdiv_eq_ediv_of_nonneg i (BA _)]; exact q)
theorem Of:OpR X (inplaceOp .BitOr) (rI0 fun i j=>.int (Builtin.bitOr i j)):=zB fun _ _ _ _ _ _ _ q=>ior_int q
theorem unI{f:Value→Sem Value}{g:Int→Int}
  (rule:∀ (i:Int) (t:Tok) (s:Shared) (Q:Value→Shared→Prop) (E:Value→Shared→Prop),Q (.int (g i) s.toks) { s with toks:=s.toks+1 }→wpAny (model X.prog X.w) X.A (f (.int i t)) Q E s) :
  UnR X f (rU fun i=>.int (g i)):=by
 intro pins s σ H x v Q I rx h;obtain ⟨i,rfl,q⟩:=h;obtain ⟨t,rfl⟩:=rx;exact rule i t s _ _ ⟨.int (g i),H,I.tok _,⟨_,rfl⟩,q⟩
theorem pX:UnR X (unaryOp .USub) (rU fun i=>.int (-i)):=unI fun _ _ _ _ _ q=>neg_int q
end
def Q1:V→V→Bool
 | .non,.non=>true | .non,.int _=>true | .int _,.non=>true | .non,.bl _=>true | .bl _,.non=>true | .non,.str _=>true | .str _,.non=>true
 | .int _,.int _=>true | .bl _,.bl _=>true | .str _,.str _=>true | .byt _,.byt _=>true
 | .int _,.str _=>true | .str _,.int _=>true | .bl _,.str _=>true | .str _,.bl _=>true
 | _,_=>false
def rEq:R2:=fun x y H Q=>Q1 x y=true∧Q (.bl (decide (x=y))) H
def rNe:R2:=fun x y H Q=>Q1 x y=true∧Q (.bl (!decide (x=y))) H
theorem El{i j:Int}:decide (V.int i=V.int j)=(i==j):=by
 rw [Bool.eq_iff_iff];simp
theorem HJ{i j:Bool}:decide (V.bl i=V.bl j)=(i==j):=by
 rw [Bool.eq_iff_iff];simp
theorem Em{i j:Str}:decide (V.str i=V.str j)=(i==j):=by
 rw [Bool.eq_iff_iff];simp
theorem En{i j:Array UInt8}:decide (V.byt i=V.byt j)=(i.toList==j.toList):=by
 rw [Bool.eq_iff_iff];cases i;cases j;simp
section
variable {X:Cx}{a b c:Expr}{ta tb tc:TE}{pos:Pos}
theorem bx{pins:List (Addr×Obj)}{σ:St}{H:Hp}{s:Shared}{Q:VK}{k k':Bool}(I:Inv X pins σ H s)(q:Q (.bl k) H)(e:k=k'):EP X pins σ Q (.bool k') s:=by
 subst e;exact ⟨.bl k,H,I,rfl,q⟩
theorem dH:OpR X (compareOp .Eq) rEq:=by
 intro pins s σ H x y v u Q I rx ry h;obtain ⟨hs,q⟩:=h;cases x with
 | non=>
  cases rx;cases y with
  | non=>cases ry; exact PySem.EqNone.eq_none_none (bx I q (by simp))
  | bl j=>cases ry; exact PySem.EqNone.eq_none_bool (bx I q (by simp))
  | int j=>obtain ⟨t',rfl⟩:=ry; exact PySem.EqNone.eq_none_int (bx I q (by simp))
  | str j=>obtain ⟨t',rfl⟩:=ry; exact PySem.EqNone.eq_none_str (bx I q (by simp))
  | _=>exact absurd (show false=true from hs) Bool.false_ne_true
 | bl i=>
  cases rx;cases y with
  | non=>cases ry; exact PySem.EqNone.eq_bool_none (bx I q (by simp))
  | bl j=>cases ry; exact eq_bool (bx I q HJ)
  | str j=>obtain ⟨t',rfl⟩:=ry; exact PySem.EqMixed.eq_bool_str (bx I q (by simp))
  | _=>exact absurd (show false=true from hs) Bool.false_ne_true
 | int i=>
  obtain ⟨t,rfl⟩:=rx;cases y with
  | non=>cases ry; exact PySem.EqNone.eq_int_none (bx I q (by simp))
  | int j=>obtain ⟨t',rfl⟩:=ry; exact eq_int (bx I q El)
  | str j=>obtain ⟨t',rfl⟩:=ry; exact PySem.EqMixed.eq_int_str (bx I q (by simp))
  | _=>exact absurd (show false=true from hs) Bool.false_ne_true
 | str i=>
  obtain ⟨t,rfl⟩:=rx;cases y with
  | non=>cases ry; exact PySem.EqNone.eq_str_none (bx I q (by simp))
  | bl j=>cases ry; exact PySem.EqMixed.eq_str_bool (bx I q (by simp))
  | int j=>obtain ⟨t',rfl⟩:=ry; exact PySem.EqMixed.eq_str_int (bx I q (by simp))
  | str j=>obtain ⟨t',rfl⟩:=ry; exact eq_str (bx I q Em)
  | _=>exact absurd (show false=true from hs) Bool.false_ne_true
 | byt i=>
  obtain ⟨t,rfl⟩:=rx;cases y with
  | byt j=>obtain ⟨t',rfl⟩:=ry; exact PySem.W.eq_bytes (bx I q En)
  | _=>exact absurd (show false=true from hs) Bool.false_ne_true
 | _=>cases y <;> exact absurd (show false=true from hs) Bool.false_ne_true
theorem sM:OpR X (compareOp .NotEq) rNe:=by
 intro pins s σ H x y v u Q I rx ry h;obtain ⟨hs,q⟩:=h;cases x with
 | non=>
  cases rx;cases y with
  | non=>cases ry; exact PySem.EqNone.ne_none_none (bx I q (by simp))
  | bl j=>cases ry; exact PySem.EqNone.ne_none_bool (bx I q (by simp))
  | int j=>obtain ⟨t',rfl⟩:=ry; exact PySem.EqNone.ne_none_int (bx I q (by simp))
  | str j=>obtain ⟨t',rfl⟩:=ry; exact PySem.EqNone.ne_none_str (bx I q (by simp))
  | _=>exact absurd (show false=true from hs) Bool.false_ne_true
 | bl i=>
  cases rx;cases y with
  | non=>cases ry; exact PySem.EqNone.ne_bool_none (bx I q (by simp))
  | bl j=>cases ry; exact ne_bool (bx I q (congrArg not HJ))
  | str j=>obtain ⟨t',rfl⟩:=ry; exact PySem.EqMixed.ne_bool_str (bx I q (by simp))
  | _=>exact absurd (show false=true from hs) Bool.false_ne_true
 | int i=>
  obtain ⟨t,rfl⟩:=rx;cases y with
  | non=>cases ry; exact PySem.EqNone.ne_int_none (bx I q (by simp))
  | int j=>obtain ⟨t',rfl⟩:=ry; exact ne_int (bx I q (congrArg not El))
  | str j=>obtain ⟨t',rfl⟩:=ry; exact PySem.EqMixed.ne_int_str (bx I q (by simp))
  | _=>exact absurd (show false=true from hs) Bool.false_ne_true
 | str i=>
  obtain ⟨t,rfl⟩:=rx;cases y with
  | non=>cases ry; exact PySem.EqNone.ne_str_none (bx I q (by simp))
  | bl j=>cases ry; exact PySem.EqMixed.ne_str_bool (bx I q (by simp))
  | int j=>obtain ⟨t',rfl⟩:=ry; exact PySem.EqMixed.ne_str_int (bx I q (by simp))
  | str j=>obtain ⟨t',rfl⟩:=ry; exact ne_str (bx I q (congrArg not Em))
  | _=>exact absurd (show false=true from hs) Bool.false_ne_true
 | byt i=>
  obtain ⟨t,rfl⟩:=rx;cases y with
  | byt j=>obtain ⟨t',rfl⟩:=ry; exact PySem.W.ne_bytes (bx I q (congrArg not En))
  | _=>exact absurd (show false=true from hs) Bool.false_ne_true
 | _=>cases y <;> exact absurd (show false=true from hs) Bool.false_ne_true
theorem eZ:OpR X (compareOp .Lt) (rI0 fun i j=>.bl (decide (i<j))):=Oc fun _ _ _ _ _ _ _ q=>lt_int q
theorem oG:OpR X (compareOp .LtE) (rI0 fun i j=>.bl (decide (i≤j))):=Oc fun _ _ _ _ _ _ _ q=>le_int q
theorem eJ:OpR X (compareOp .Gt) (rI0 fun i j=>.bl (decide (j<i))):=Oc fun _ _ _ _ _ _ _ q=>gt_int q
theorem aN(b:Expr){op:CmpOp}(h:op≠.In:=by decide)(h2:op≠.NotIn:=by decide):behindInMarks op b=false:=by
 have e1:(op==CmpOp.In)=false:=by cases op <;> first | rfl | exact absurd rfl h
 have e2:(op==CmpOp.NotIn)=false:=by cases op <;> first | rfl | exact absurd rfl h2
 cases b <;> simp [behindInMarks,e1,e2]
theorem eL{op:CmpOp}{r:R2}(ho:OpR X (compareOp op) r)(ha:PE X a ta)(hb:PE X b tb)(hm:behindInMarks op b=false):PE X (.Compare a [op] [b] pos) (tOp r ta tb):=by
 intro pins s σ H Q I h;exact wpAny_Compare1 (Ob ha hb I h fun v u s2 x y H2 I2 rx ry q=>ho pins s2 σ H2 x y v u Q I2 rx ry q) hm
def Nl(t:TE):TT:=fun σ H Q=>t σ H fun x H'=>∃ k,x = .bl k∧Q k H'
theorem aK{op:CmpOp}{r:R2}(ho:OpR X (compareOp op) r)(ha:PE X a ta)(hb:PE X b tb)(hm:behindInMarks op b=false):PT X (.Compare a [op] [b] pos) (Nl (tOp r ta tb)):=by
 intro pins s σ H Q I h;refine wpAny_isTrue_Compare1 (thn (ha pins s σ H _ I h) fun v s1 ⟨x,H1,I1,r1,q1⟩=>thn (hb pins s1 σ H1 _ I1 q1) fun u s2 ⟨y,H2,I2,r2,q2⟩=>
  thn (ho pins s2 σ H2 x y v u _ I2 r1 r2 q2) fun c s3 ⟨z,H3,I3,r3,k,e,q3⟩=>?_) hm
 subst e;cases r3;exact wpAny_truthy_bool ⟨H3,I3,q3⟩
def BB(r r':R2)(ta tb tc:TE):TE:=fun σ H Q=>ta σ H fun x H1=>tb σ H1 fun y H2=>r x y H2 fun z H3=>∃ k,z = .bl k ∧
 (if k=true then tc σ H3 fun w' H4=>r' y w' H4 Q else Q (.bl false) H3)
theorem oH{op op':CmpOp}{r r':R2}(ho:OpR X (compareOp op) r)(ho':OpR X (compareOp op') r')(ha:PE X a ta)(hb:PE X b tb)(hc:PE X c tc)
  (hm:lastMarks [op,op'] [b,c]=false:=by with_unfolding_all rfl):PE X (.Compare a [op,op'] [b,c] pos) (BB r r' ta tb tc):=by
 intro pins s σ H Q I h;refine Compare_chain (thn (ha pins s σ H _ I h) fun v s1 ⟨x,H1,I1,r1,q1⟩=>chain_link (thn (hb pins s1 σ H1 _ I1 q1) fun u s2 ⟨y,H2,I2,r2,q2⟩=>
  thn (ho pins s2 σ H2 x y v u _ I2 r1 r2 q2) fun d s3 ⟨z,H3,I3,r3,k,e,q3⟩=>?_)) hm
 subst e;cases r3;refine wpAny_truthy_bool ?_;cases k with
 | false=>exact ite_ff ⟨.bl false,H3,I3,rfl,q3⟩
 | true=>exact ite_tt (chain_last (thn (hc pins s3 σ H3 _ I3 q3) fun w' s4 ⟨z',H4,I4,r4,q4⟩=>ho' pins s4 σ H4 y z' u w' Q I4 r2 r4 q4))
theorem xW:(sizeLine:Nat)<2 ^ 63:=by rw [sizeLine_eq]; decide
theorem vals1{x:V}{us:List Value}(r:Vals [x] us):∃ u,us=[u]∧RelV x u:=by
 cases r with
 | cons r1 r2=>cases r2; exact ⟨_,rfl,r1⟩
theorem vals2{x y:V}{us:List Value}(r:Vals [x,y] us):∃ u w',us=[u,w']∧RelV x u∧RelV y w':=by
 cases r with
 | cons r1 r2=>
  cases r2 with
  | cons r3 r4=>cases r4; exact ⟨_,_,rfl,r1,r3⟩
theorem wk(hc:X.calm=true):gm X (.builtin "max") (fun xs H Q=>∃ i j,xs=[.int i,.int j]∧Q (.int (if j > i then j else i)) H):=by
 intro pins s σ H xs us Q I r h;obtain ⟨i,j,rfl,q⟩:=h;obtain ⟨u,w',rfl,⟨t,rfl⟩,⟨t',rfl⟩⟩:=vals2 r;refine max_two_ints (I.ok.hd hc) fun h' tk k=>⟨_,H,I.kept k,?_,q⟩;by_cases hj:j > i
 ·rw [if_pos hj,if_pos hj]; exact ⟨_,rfl⟩
 ·rw [if_neg hj,if_neg hj]; exact ⟨_,rfl⟩
theorem xX:gm X (.type "str") (fun xs H Q=>∃ i,xs=[.int i]∧i.natAbs.log2<1920∧Q (.str (toString i)) H):=by
 intro pins s σ H xs us Q I r h;obtain ⟨i,rfl,hz,q⟩:=h;obtain ⟨u,rfl,t,rfl⟩:=vals1 r;exact PySem.P.str_of_int hz ⟨.str _,H,I.tok _,⟨_,rfl⟩,q⟩
theorem HK:gm X (.builtin "ord") (fun xs H Q=>∃ x,xs=[.str x]∧x.length=1∧Q (.int (x.cps.getD 0 0:Nat)) H):=by
 intro pins s σ H xs us Q I r h;obtain ⟨x,rfl,hz,q⟩:=h;obtain ⟨u,rfl,t,rfl⟩:=vals1 r;exact ord_of_one hz ⟨.int _,H,I.tok _,⟨_,rfl⟩,q⟩
end
end L2
namespace L2
open PySem PySem.Spec PyProof.Rows
structure BC(h:Heap)(x dx C:Addr)(mA:Str→Option Value):Prop where
 obj:h.get? x=some (instObj C dx)
 ns:h.Ns1 dx mA
 ne:dx≠x
theorem wm{h:Heap}{dx:Addr}{mA:Str→Option Value}(n:h.Ns1 dx mA):∃ od,h.get? dx=some od∧∀ name,lookIn name od=some (mA name):=by
 obtain ⟨o,es,ep,ho,hd,hk,_,hm⟩:=n;refine ⟨o,ho,fun name=>?_⟩;have e:=hm name;unfold nsFind findBy at e;rw [← Array.find?_toList] at e;unfold PySem.W.lookIn;rw [hd];dsimp only;split
 ·rename_i y q
  rw [q] at e;exact congrArg some e
 ·rename_i q
  rw [q] at e;have a:es.toList.any (·.refKey)=false:=by
   rw [List.any_eq_false];intro y hy;obtain ⟨z,t,hkey⟩:=hk y (Array.mem_toList_iff.mp hy);simp [DictEntry.refKey,hkey]
  have a':¬ es.toList.any (·.refKey)=true:=by rw [a]; exact Bool.false_ne_true
  rw [if_neg a'];exact congrArg some e
theorem BC.look{h:Heap}{x dx C:Addr}{mA:Str→Option Value}(I:BC h x dx C mA):∃ od,PySem.W.InstAt h x (instObj C dx) C (some od)∧∀ name,lookIn name od=some (mA name):=
 let ⟨od,ho,hl⟩:=wm I.ns
 ⟨od,⟨I.obj,rfl,rfl,ho⟩,hl⟩
section
variable {prog:Program}{w:World}{A:Around}{E:Value→Shared→Prop}{s:Shared}{K:PySem.W.Frag}{x dx C f:Addr}{mA:Str→Option Value}{name:Str}{v:Value}
theorem get_map{expr:Bool}{Q:Value→Shared→Prop}(X:K.In s.heap)(I:BC s.heap x dx C mA)(hg:plainGet K C name=true)(hh:hasDictIn K C=true)
  (ha:findIn K (.ref C) name=some none) (hv:mA name=some v) (hv':handedIn v=true) (h:Q v { s with toks:=s.toks+1 }) :
  wpAny (model prog w) A (getAttr (.ref x) name expr) Q E s:=by
 obtain ⟨od,J,hl⟩:=I.look;exact PySem.W.get_value X J (plainGet_of hg).1 (findObj_own hh ha rfl (by rw [hl,hv])) hv' h
theorem HL{pl:Sem Bool}{Q:Value×List Value→Shared→Prop}(X:K.In s.heap)(I:BC s.heap x dx C mA)(hg:plainGet K C name=true)
  (hf:findIn K (.ref C) name=some (some (.ref f))) (ht:isFn K (.ref f)=true) (hv:mA name=none) (h:Q (.ref f,[.ref x]) s) :
  wpAny (model prog w) A (getMethod (.ref x) name pl) Q E s:=by
 obtain ⟨od,J,hl⟩:=I.look;exact PySem.W.method_fn X J (plainGet_of hg).1 (plainGet_of hg).2 hf (beq_iff_eq.mp ht) (by show (lookIn name od).map (·.isSome)=some false; rw [hl,hv]; rfl) h
theorem Li{ns:List Str}{Q:Unit→Shared→Prop}(X:K.In s.heap)(I:BC s.heap x dx C mA)
  (hs:findIn K (.ref C) "__setattr__"=some (some (.builtin "object.__setattr__"))) (hp:plainOver K C=true) (ht:takerIn K C name=some none) (hh:hasDictIn K C=true)
  (hw:PySem.Within mA ns) (hsz:ns.length≤sizeLine)
  (h:∀ h',BC h' x dx C (fun y=>if y=name then some v else mA y)→Heap.SameBut dx s.heap h'→Q () { s with heap:=h',toks:=s.toks+2 }) :
  wpAny (model prog w) A (setAttr (.ref x) name v) Q E s:=by
 obtain ⟨od,J,hl⟩:=I.look;refine set_plain X J hs (PySem.W.osa_open (s:={ s with toks:=s.toks+1 }) (r:=none) X J hp ht fun b=>?_);obtain ⟨cd,hc,hd'⟩:=any_some hh;have hx:s.heap.get? x=some ⟨.ref C,some dx,.plain,#[]⟩:=I.obj;refine wpAny_bind (wpAny_pure (wpAny_bind (wpAny_bind (wpAny_loadPart hx (wpAny_bind (Looks.here (s:={ s with toks:=s.toks+1 }) (looks_clsIn X hc) ?_))))));rw [hd'];refine wpAny_pure (a:=some dx) (wpAny_bind (wpAny_pure (wpAny_bind ?_)));refine wpAny_nsSet1 (s:={ s with toks:=s.toks+1 }) I.ns fun h' hn2 hs2=>?_;obtain ⟨oD,esD,epD,hoD,hdD,hcD⟩:=hn2.count (PySem.Within.cons name v hw);refine wpAny_bind (wpAny_lookBehind hoD (by rw [hdD]; exact pastItsLine_dict (le_trans hcD (by rw [length_cons]; omega))) ?_);exact wpAny_pure (h _ ⟨(hs2.2 _ (Ne.symm I.ne)).trans I.obj,hn2,I.ne⟩ hs2)
theorem HM{R:Result→Shared→Prop}{vs:List Value}{kw:List (Str×Value)}(X:K.In s.heap)(hm:makesIn K C=true)
  (hi:findIn K (.ref C) "__init__"=some (some (.ref f))) (hf:typeIn K (.ref f)=some (.type "function"))
  (h:codeAny (model prog w) (A.under (.builtin "type.__call__" ⟨.ref C::vs,kw⟩)) (.call (.ref f) ⟨.ref (s.heap.objs.size+1)::vs,kw⟩) (InitBack (s.heap.objs.size+1) R)
   { s with heap:=(s.heap.push emptyDict).push (instObj C s.heap.objs.size) }) :
  codeAny (model prog w) A (.call (.ref C) ⟨vs,kw⟩) R s:=by
 obtain ⟨hh,g,d,t,os⟩:=s;exact PySem.W.make_core (PySem.W.makes_of X hm) (looks_findIn X hi) (fun self=>bind_fn X self hf) (.inl rfl) h
end
def cn(f:Str)(v:V):List (Str×V)→List (Str×V)
 | []=>[(f,v)]
 | (g,x)::r=>if g=f then (g,v)::r else (g,x)::cn f v r
theorem qK(f g:Str)(v:V):∀ fs:List (Str×V),(cn f v fs).lookup g=if g=f then some v else fs.lookup g
 | []=>by
  show List.lookup g [(f,v)]=_;by_cases h:g=f
  ·have hb:(g==f)=true:=beq_iff_eq.mpr h;simp only [List.lookup,hb,if_pos h]
  ·have hb:(g==f)=false:=beq_eq_false_iff_ne.mpr h;simp only [List.lookup,hb,if_neg h]
 | (k,x)::r=>by
  have ih:=qK f g v r;rw [show cn f v ((k,x)::r)=(if k=f then (k,v)::r else (k,x)::cn f v r) from rfl];by_cases hk:k=f
  ·rw [if_pos hk];by_cases h:g=k
   ·have hb:(g==k)=true:=beq_iff_eq.mpr h;simp only [List.lookup,hb,if_pos (h.trans hk)]
   ·have hb:(g==k)=false:=beq_eq_false_iff_ne.mpr h;simp only [List.lookup,hb,if_neg (fun e:g=f=>h (e.trans hk.symm))]
  ·rw [if_neg hk];by_cases h:g=k
   ·have hb:(g==k)=true:=beq_iff_eq.mpr h;simp only [List.lookup,hb,if_neg (fun e:g=f=>hk (h.symm.trans e))]
   ·have hb:(g==k)=false:=beq_eq_false_iff_ne.mpr h;simp only [List.lookup,hb];exact ih
theorem pY(f:Str)(v:V):∀ fs:List (Str×V),f∈(cn f v fs).map (·.1)∧∀ g,g∈fs.map (·.1)→g∈(cn f v fs).map (·.1)
 | []=>⟨by simp [cn],fun g h=>by simp at h⟩
 | (k,x)::r=>by
  obtain ⟨i1,i2⟩:=pY f v r;rw [show cn f v ((k,x)::r)=(if k=f then (k,v)::r else (k,x)::cn f v r) from rfl];by_cases hk:k=f
  ·rw [if_pos hk];subst hk;exact ⟨by simp,fun g h=>by simpa using h⟩
  ·rw [if_neg hk];refine ⟨?_,fun g h=>?_⟩
   ·rw [map_cons];exact mem_cons_of_mem _ i1
   ·rw [map_cons] at h ⊢;rcases mem_cons.mp h with e | e
    ·exact mem_cons.mpr (.inl e)
    ·exact mem_cons_of_mem _ (i2 g e)
theorem qL(f:Str)(v:V):∀ fs:List (Str×V),(cn f v fs).length≤fs.length+1
 | []=>by simp [cn]
 | (k,x)::r=>by
  have ih:=qL f v r;rw [show cn f v ((k,x)::r)=(if k=f then (k,v)::r else (k,x)::cn f v r) from rfl];by_cases hk:k=f
  ·rw [if_pos hk,length_cons,length_cons]; omega
  ·rw [if_neg hk,length_cons,length_cons]; omega
theorem jF.some_of{v:V}{o:Option Value}(r:jF (some v) o):∃ u,o=some u∧RelV v u:=by
 cases o with
 | none=>exact (show False from r).elim
 | some u=>exact ⟨u,rfl,r⟩
theorem jF.none_of{o:Option Value}(r:jF none o):o=none:=by
 cases o with
 | none=>rfl
 | some u=>exact (show False from r).elim
theorem wo{v:V}{u:Value}(r:RelV v u):handedIn u=true:=by
 cases v with
 | non=>cases (show u=Value.none from r); rfl
 | bl b=>cases (show u=Value.bool b from r); rfl
 | int i=>obtain ⟨t,e⟩:=(show ∃ t,u=Value.int i t from r); cases e; rfl
 | str x=>obtain ⟨t,e⟩:=(show ∃ t,u=Value.str x t from r); cases e; rfl
 | byt b=>obtain ⟨t,e⟩:=(show ∃ t,u=Value.bytes b t from r); cases e; rfl
 | flt b=>obtain ⟨t,e⟩:=(show ∃ t,u=Value.float b t from r); cases e; rfl
 | ref a=>cases (show u=Value.ref a from r); rfl
 | ty n=>cases (show u=Value.type n from r); rfl
section
variable {P:Program}{w:World}{H H':Hp}{h h':Heap}{a C dx:Addr}{fs fs':List (Str×V)}
theorem xY(hok:HOk P w H h)(e:H a=some (.ins C dx fs)):∃ mA,BC h a dx C mA∧(∀ f,jF (fs.lookup f) (mA f))∧PySem.Within mA (fs.map (·.1))∧fs.length≤1000∧H dx=some (.own a):=by
 obtain ⟨d,z,ne,ob,mA,n,r,q⟩:=(show b7 P w H h a (.ins C dx fs) from hok a _ e);exact ⟨mA,⟨ob,n,ne⟩,r,q,z,d⟩
end
structure Cls(K:PySem.W.Frag)(C:Addr):Prop where
 pg:plainGet K C Str.empty=true
 hd:hasDictIn K C=true
 po:plainOver K C=true
 sa:findIn K (.ref C) "__setattr__"=some (some (.builtin "object.__setattr__"))
theorem Cls.get{K:PySem.W.Frag}{C:Addr}(c:Cls K C)(f:Str):plainGet K C f=true:=c.pg
def aP(K:PySem.W.Frag)(C:Addr)(f:Str):Prop:=findIn K (.ref C) f=some none
theorem aP.Q3{K:PySem.W.Frag}{C:Addr}{f:Str}(n:aP K C f):takerIn K C f=some none:=by
 unfold PySem.W.takerIn;rw [show findIn K (.ref C) f=some none from n];rfl
structure Meth(K:PySem.W.Frag)(C:Addr)(m:Str)(f:Addr):Prop where
 at_:findIn K (.ref C) m=some (some (.ref f))
 fn:isFn K (.ref f)=true
 kp:keepIn K (.ref f)=true
section
variable {X:Cx}{pins:List (Addr×Obj)}{σ:St}{H:Hp}{s:Shared}{a C dx:Addr}{fs:List (Str×V)}{f:Str}{v:V}{A:Around}{E:Value→Shared→Prop}
theorem sN{b:Bool}{Q:Value→Shared→Prop}(I:Inv X pins σ H s)(e:H a=some (.ins C dx fs))(c:Cls X.K C)(n:aP X.K C f)(l:fs.lookup f=some v)
  (h:∀ u s',Inv X pins σ H s'→RelV v u→Q u s'):wpAny (model X.prog X.w) A (getAttr (.ref a) f b) Q E s:=by
 obtain ⟨mA,O,r,_,_,_⟩:=xY I.hok e;obtain ⟨u,hu,ru⟩:=jF.some_of (v:=v) (o:=mA f) (by rw [← l]; exact r f);exact get_map I.kIn O (c.get f) c.hd n hu (wo ru) (h u _ (I.tok _) ru)
theorem sO{m:Str}{g:Addr}{pl:Sem Bool}{Q:Value×List Value→Shared→Prop}(I:Inv X pins σ H s)(e:H a=some (.ins C dx fs))(c:Cls X.K C)(k:Meth X.K C m g)(l:fs.lookup m=none)
  (h:Q (.ref g,[.ref a]) s):wpAny (model X.prog X.w) A (getMethod (.ref a) m pl) Q E s:=by
 obtain ⟨mA,O,r,_,_,_⟩:=xY I.hok e;have hn:mA m=none:=jF.none_of (by rw [← l]; exact r m);exact HL I.kIn O (c.get m) k.at_ k.fn hn h
theorem sP{y:V}{u:Value}{Q:Unit→Shared→Prop}(I:Inv X pins σ H s)(e:H a=some (.ins C dx fs))(c:Cls X.K C)(n:aP X.K C f)(hl:fs.length<1000)(ry:RelV y u)
  (h:∀ s',Inv X pins σ (upd H a (.ins C dx (cn f y fs))) s'→Q () s'):wpAny (model X.prog X.w) A (setAttr (.ref a) f u) Q E s:=by
 obtain ⟨mA,O,r,wi,_,ho⟩:=xY I.hok e;have hz:(fs.map (·.1)).length≤sizeLine:=by rw [length_map,sizeLine_eq]; omega
 refine Li I.kIn O c.sa c.po n.Q3 c.hd wi hz fun h' O' sb=>h _ ?_;have hd:∃ o,h'.get? dx=some o:=let ⟨o,_,_,e',_⟩:=O'.ns; ⟨o,e'⟩;refine I.write (x:=a) (e:=dx) (by rw [e]; exact True.intro) (.inr ho) (fun b q hb z=>(sb.2 b hb).trans z) hd ?_;refine ⟨by rw [aq O.ne]; exact ho,?_,O.ne,O'.obj,_,O'.ns,fun g=>?_,fun g hg=>?_⟩
 ·have:=qL f y fs; omega
 ·show jF ((cn f y fs).lookup g) (if g=f then some u else mA g);rw [qK];by_cases q:g=f
  ·rw [if_pos q,if_pos q]; exact ry
  ·rw [if_neg q,if_neg q]; exact r g
 ·by_cases q:g=f
  ·rw [q]; exact (pY f y fs).1
  ·refine (pY f y fs).2 g (wi g fun z=>hg ?_);show (if g=f then some u else mA g)=none;rw [if_neg q]; exact z
theorem Inv.made(I:Inv X pins σ H s):Inv X pins σ (upd (upd H s.heap.objs.size (.own (s.heap.objs.size+1))) (s.heap.objs.size+1) (.ins C s.heap.objs.size []))
  { s with heap:=(s.heap.push emptyDict).push (instObj C s.heap.objs.size) }:=by
 have e1:(s.heap.push emptyDict).get? s.heap.objs.size=some emptyDict:=Heap.get?_push_size s.heap rfl;have e2:((s.heap.push emptyDict).push (instObj C s.heap.objs.size)).get? (s.heap.objs.size+1)=some (instObj C s.heap.objs.size):=by
  have:=Heap.get?_push_size (s.heap.push emptyDict) (o:=instObj C s.heap.objs.size) rfl
  rwa [Heap.size_push] at this
 have e3:(s.heap.push emptyDict).Ns s.heap.objs.size (fun _=>none):=⟨emptyDict,#[],_,e1,rfl,(fun e he=>absurd he (by simp)),fun _=>rfl⟩;have I1:=I.laid (a:=s.heap.objs.size) (o:=.own (s.heap.objs.size+1)) (h':=s.heap.push emptyDict) (t':=s.toks) (fun b u q=>Heap.get?_push_of_some _ q) (le_refl _) ⟨_,e1⟩;refine I1.laid (a:=s.heap.objs.size+1) (o:=.ins C s.heap.objs.size []) (t':=s.toks) (fun b u q=>Heap.get?_push_of_some _ q) (le_of_eq (Heap.size_push _ _)) ?_;have ne:s.heap.objs.size≠s.heap.objs.size+1:=ne_of_lt (lt_succ_self _);refine ⟨by rw [aq ne,ae],zero_le _,ne,e2,fun _=>none,(Heap.Ns1.of_empty e3).at fun o q=>Heap.get?_push_of_some _ q,fun _=>True.intro,fun y hy=>absurd rfl hy⟩
theorem Eo{prog:Program}{w:World}{env:Env}{e:Expr}{f:Str}{pos:Pos}{s:Shared}{Q:Value→Shared→Prop}(hb:attributeBase e f env (eval e env)=eval e env)
  (h:wpAny (model prog w) A (eval e env) (fun o s₁=>wpAny (model prog w) A (getAttr o f true) Q E s₁) E s):wpAny (model prog w) A (eval (.Attribute e f pos) env) Q E s:=
 Attribute_any_ h (by rw [arm_eval_Attribute,hb])
end
def FH(K:PySem.W.Frag)(ta:TE)(f:Str):TE:=fun σ H Q=>ta σ H fun x H1=>∃ a C dx fs v,x = .ref a∧H1 a=some (.ins C dx fs)∧Cls K C∧aP K C f∧fs.lookup f=some v∧Q v H1
def Ub(K:PySem.W.Frag)(ta tv:TE)(f:Str):TS:=fun D σ H=>tv σ H fun y H1=>ta σ H1 fun x H2=>∃ a C dx fs,x = .ref a∧H2 a=some (.ins C dx fs)∧Cls K C∧aP K C f∧fs.length<1000 ∧
 D.nx σ (upd H2 a (.ins C dx (cn f y fs)))
def Q4(X:Cx)(op:Operator)(rd:V→V→Hp→VK→Prop):Prop:=
 ∀ (pins:List (Addr×Obj)) (s:Shared) (σ:St) (H:Hp) (x y:V) (u v:Value) (Q:VK),Inv X pins σ H s→RelV x u→RelV y v→rd x y H Q→wpAny (model X.prog X.w) X.A (inplaceOp op u v) (EP X pins σ Q) X.xe s
def Lj(K:PySem.W.Frag)(ta tv:TE)(rd:V→V→Hp→VK→Prop)(f:Str):TS:=fun D σ H=>ta σ H fun x H1=>∃ a C dx fs v,x = .ref a∧H1 a=some (.ins C dx fs)∧Cls K C∧aP K C f∧fs.lookup f=some v ∧
 tv σ H1 fun y H2=>rd v y H2 fun z H3=>∃ dx' fs',H3 a=some (.ins C dx' fs')∧fs'.length<1000∧D.nx σ (upd H3 a (.ins C dx' (cn f z fs')))
section
variable {X:Cx}{o e value:Expr}{f:Str}{pos pos' tpos:Pos}{ta tv:TE}
theorem aB(he:PE X e ta)(hb:attributeBase e f X.env (eval e X.env)=eval e X.env):PE X (.Attribute e f pos) (FH X.K ta f):=by
 intro pins s σ H Q I h;refine Eo hb (thn (he pins s σ H _ I h) fun u s1 hq__=>?_);obtain ⟨x,H1,I1,rx,a,C,dx,fs,v,ex,ea,c,n,l,q⟩:=hq__; subst ex;obtain rfl:u=Value.ref a:=rx;exact sN I1 ea c n l fun u' s2 I2 ru=>⟨v,H1,I2,ru,q⟩
theorem b9(ha:PE X o ta)(hv:PE X value tv)(hs:swapsWith value (some (.Attribute o f pos')) pos.line X.env=pure false):PS X (.Assign [.Attribute o f pos'] value pos) (Ub X.K ta tv f):=by
 intro pins s σ H D I h;refine plainObj_wpAny_Assign_Attribute (thn (hv pins s σ H _ I h) fun u s1 ⟨y,H1,I1,ry,q⟩=>thn (ha pins s1 σ H1 _ I1 q) fun ov s2 hq__=>?_) hs;obtain ⟨x,H2,I2,rx,a,C,dx,fs,ex,ea,c,n,l,q2⟩:=hq__; subst ex;obtain rfl:ov=Value.ref a:=rx;exact sP I2 ea c n l ry fun s3 I3=>⟨σ,_,I3,q2⟩
theorem eQ{op:Operator}{rd:V→V→Hp→VK→Prop}(ha:PE X o ta)(hv:PE X value tv)(hop:Q4 X op rd):PS X (.AugAssign (.Attribute o f tpos) op value pos) (Lj X.K ta tv rd f):=by
 intro pins s σ H D I h;refine wpAny_AugAssign_AttributeAny (thn (ha pins s σ H _ I h) fun ov s1 hq__=>?_);obtain ⟨x,H1,I1,rx,a,C,dx,fs,v,ex,ea,c,n,l,q⟩:=hq__; subst ex;obtain rfl:ov=Value.ref a:=rx;refine sN I1 ea c n l fun u s2 I2 ru=>thn (hv pins s2 σ H1 _ I2 q) fun w3 s3 ⟨y,H2,I3,ry,q3⟩=>thn (hop pins s3 σ H2 v y u w3 _ I3 ru ry q3) fun w4 s4 hq__=>?_;obtain ⟨z,H3,I4,rz,dx',fs',ea',l',q4⟩:=hq__; exact sP I4 ea' c n l' rz fun s5 I5=>⟨σ,_,I5,q4⟩
def Uc:V→V→Hp→VK→Prop:=fun x y H Q=>∃ i j,x = .int i∧y = .int j∧Q (.int (i+j)) H
theorem pZ:Q4 X .Add Uc:=by
 rintro pins s σ H x y u v Q I rx ry ⟨i,j,rfl,rfl,q⟩;obtain ⟨t,rfl⟩:=(show ∃ t,u=Value.int i t from rx);obtain ⟨t',rfl⟩:=(show ∃ t',v=Value.int j t' from ry);exact PyProof.Rows.iadd_int ⟨.int (i+j),H,I.tok _,⟨_,rfl⟩,q⟩
end
section
variable {X:Cx}{pins:List (Addr×Obj)}{σ:St}{H:Hp}{s:Shared}{A:Around}{E:Value→Shared→Prop}{Q:Value→Shared→Prop}{c:Value}{b:Bool}
end
end L2
namespace L2
open PySem PySem.Spec PyProof.Rows
structure cM(k:Nat)(A:Around):Prop where
 hd:A.handled=none
 dp:A.depth+3*k+5<recursionLimit
 un:A.units+16*k+200<cLine
theorem cM.mono{j k:Nat}{A:Around}(r:cM k A)(h:j≤k):cM j A:=⟨r.hd,by have:=r.dp; omega,by have:=r.un; omega⟩
theorem cM.deeper{k:Nat}{A:Around}(r:cM (k+1) A)(env:Env):cM k (A.deeper env):=
 ⟨r.hd,by have:=r.dp; show A.depth+1+3*k+5<_; omega,by have:=r.un; show A.units+3+16*k+200<_; omega⟩
theorem BD{A:Around}{C:Addr}{us:List Value}{kw:List (Str×Value)}:(A.under (.builtin "type.__call__" ⟨.ref C::us,kw⟩)).depth=A.depth+1:=by
 first | rfl | simp [Around.under,Code.weight,Code.isCreation,Code.isGuard,Code.isCaller,Code.frames,Code.isFrame,guardIds]
theorem BE{A:Around}{C:Addr}{us:List Value}{kw:List (Str×Value)}:(A.under (.builtin "type.__call__" ⟨.ref C::us,kw⟩)).units=A.units+1:=by
 first | rfl | simp [Around.under,Code.cUnits,Code.frames,Code.isFrame]
theorem cM.make{k:Nat}{A:Around}(r:cM (k+1) A)(C:Addr)(us:List Value)(kw:List (Str×Value)):cM k (A.under (.builtin "type.__call__" ⟨.ref C::us,kw⟩)):=
 ⟨r.hd,by have:=r.dp; rw [BD]; omega,by have:=r.un; rw [BE]; omega⟩
theorem cM.depth{k:Nat}{A:Around}(r:cM k A):A.depth<recursionLimit:=by have:=r.dp; omega
theorem cM.units{k:Nat}{A:Around}(r:cM k A):A.units+64<cLine:=by have:=r.un; omega
def BF:TA:=fun _ H Q=>Q [] H
def Ep(ta:TE)(tr:TA):TA:=fun σ H Q=>ta σ H fun x H1=>tr σ H1 fun xs H2=>Q (x::xs) H2
section
variable {X:Cx}{e:Expr}{es:List Expr}{te:TE}{t:TA}{pos:Pos}
theorem ah:PA X [] BF:=fun _ _ _ _ H Q I h=>Calls.spliced_nil ⟨[],H,I,.nil,h⟩
theorem aa(ha:PE X e te)(hr:PA X es t)(hs:starEach (e::es) X.env=(false,eval e X.env)::starEach es X.env:=by rfl):PA X (e::es) (Ep te t):=by
 intro pos pins s σ H Q I h;rw [hs];show wpAny _ _ (spliced ((false,eval e X.env)::backTo pos (starEach es X.env))) _ _ s;refine Calls.spliced_cons (thn (ha pins s σ H _ I h) fun u s1 hq__=>?_);obtain ⟨x,H1,I1,r1,q1⟩:=hq__; exact thn (hr pos pins s1 σ H1 _ I1 q1) fun us s2 ⟨xs,H2,I2,r2,q2⟩=>⟨x::xs,H2,I2,.cons r1 r2,q2⟩
def Ud(t:TA):TE:=fun σ H Q=>t σ H fun xs H1=>xs.length≤sizeLine∧∀ p,H1 p=none→Q (.ref p) (upd H1 p (.tup xs))
def Ue(t:TA):TE:=fun σ H Q=>t σ H fun xs H1=>xs.length≤sizeLine∧∀ p,H1 p=none→Q (.ref p) (upd H1 p (.lst xs))
theorem p7{x1}(h:PA X es t):PE X (.Tuple es x1 pos) (Ud t):=by
 intro pins s σ H Q I hq;refine wpAny_Tuple_spliced (thn (h pos pins s σ H _ I hq) fun us s1 ⟨xs,H1,I1,r,z,q⟩=>⟨by rw [← r.length]; exact z,?_⟩);have hf:H1 s1.heap.objs.size=none:=I1.hok.fresh (le_refl _);refine ⟨.ref s1.heap.objs.size,upd H1 s1.heap.objs.size (.tup xs),I1.laid (t':=s1.toks) (fun b u e=>Heap.get?_push_of_some _ e) (le_refl _) ?_,rfl,q _ hf⟩;exact ⟨z,us,r,⟨_,Heap.get?_push_size _ rfl,rfl,_,rfl⟩⟩
theorem aH(h:PA X es t):PE X (.List es pos) (Ue t):=by
 intro pins s σ H Q I hq;refine wpAny_List_spliced (thn (h pos pins s σ H _ I hq) fun us s1 ⟨xs,H1,I1,r,z,q⟩=>⟨by rw [← r.length]; exact z,?_⟩);have hf:H1 s1.heap.objs.size=none:=I1.hok.fresh (le_refl _);refine ⟨.ref s1.heap.objs.size,upd H1 s1.heap.objs.size (.lst xs),I1.laid (t':=s1.toks) (fun b u e=>Heap.get?_push_of_some _ e) (le_refl _) ?_,rfl,q _ hf⟩;exact ⟨z,us,0,r,Heap.get?_push_size _ rfl⟩
end
abbrev Sp:=List V→Hp→VK→XK→Prop
abbrev CXT:=List Env→Hp→Shared→XK→Value→Shared→Prop
structure BG(P:Program)(w:World)(K:PySem.W.Frag)(mg:Str→Option Value)(base:Heap)(A:Around)(outer:List Env)(s:Shared)(H:Hp):Prop where
 frames:A.frames=some outer
 mod:Mod K mg base
 bs:∀ b o,base.get? b=some o→s.heap.get? b=some o∧H b=none
 bsz:base.objs.size≤s.heap.objs.size
 lP:s.heap.FunFrames base outer
 frf:∀ b∈frs outer,H b=none
 hok:HOk P w H s.heap
 bare:AllBare s.gens
def CE(outer:List Env)(P:Program)(w:World)(H:Hp)(s:Shared)(Q:VK)(u:Value)(s':Shared):Prop:=
 ∃ v H',s'.os=s.os∧AllBare s'.gens∧Un (frs outer) [] H H' s.heap s'.heap∧HOk P w H' s'.heap∧RelV v u∧Q v H'
def CR(CX:CXT)(outer:List Env)(P:Program)(w:World)(H:Hp)(s:Shared)(Q:VK)(E:XK)(r:Result)(s':Shared):Prop:=
 match r with
 | .ok (.ret u)=>CE outer P w H s Q u s'
 | .ok _=>False
 | .error e=>CX outer H s E e s'
structure aF(P:Program)(w:World)(K:PySem.W.Frag)(mg:Str→Option Value)(base:Heap)(CX:CXT)(k:Nat)(f:Addr)(fd:FuncData)(ps:List Str)(sp:Sp):Prop where
 len:∀ vs H Q E,sp vs H Q E→vs.length=ps.length
 run:∀ (A:Around) (outer:List Env) (s:Shared) (H:Hp) (args:Args) (us:List Value) (vs:List V) (Q:VK) (E:XK),cM k A→BG P w K mg base A outer s H→BindsTo s fd args (ps.zip us)→Vals vs us→sp vs H Q E →
  codeAny (model P w) A (.call (.ref f) args) (CR CX outer P w H s Q E) s
theorem BG.make{P:Program}{w:World}{K:PySem.W.Frag}{mg:Str→Option Value}{base:Heap}{A:Around}{outer:List Env}{s:Shared}{H:Hp}(e:BG P w K mg base A outer s H)(C:Addr)(us:List Value)(kw:List (Str×Value)) :
  BG P w K mg base (A.under (.builtin "type.__call__" ⟨.ref C::us,kw⟩)) outer s H:=⟨by first | exact e.frames | (simpa [Around.under,Code.envs,Code.isFrame,pushEnvs] using e.frames),e.mod,e.bs,e.bsz,e.lP,e.frf,e.hok,e.bare⟩
section
variable {X:Cx}{pins:List (Addr×Obj)}{σ:St}{H:Hp}{s s':Shared}
theorem Inv.Lk(I:Inv X pins σ H s):BG X.prog X.w X.K X.mg X.base X.A X.stack s H:=
 ⟨I.ok.frames,I.ok.mod,I.bs,le_trans I.ok.bsz I.sz,I.stack,I.xS,I.hok,I.bare⟩
theorem Inv.after{Q:VK}{u:Value}(I:Inv X pins σ H s)(h:CE X.stack X.prog X.w H s Q u s'):EP X pins σ Q u s':=by
 obtain ⟨v,H',os,bare,un,hok,r,q⟩:=h;obtain ⟨hh,g,d,t,os'⟩:=s';obtain rfl:os'=s.os:=os;exact ⟨v,H',I.call (h':=hh) (g':=g) (d':=d) (t':=t) (ch:=[]) un hok bare (fun b z=>absurd z (by simp)),r,q⟩
end
def Q5(sp:Sp)(dvs:List V)(E:XK)(t:TA):TE:=fun σ H Q=>t σ H fun vs H1=>sp (vs++dvs) H1 Q E
def Nm(C:Addr)(m:Str)(sp:Sp)(dvs:List V)(E:XK)(ta:TE)(t:TA):TE:=fun σ H Q=>ta σ H fun x H1=>∃ a dx fs,x = .ref a∧H1 a=some (.ins C dx fs)∧fs.lookup m=none ∧
 t σ H1 fun vs H2=>sp (x::(vs++dvs)) H2 Q E
def Nn(C:Addr)(sp:Sp)(dvs:List V)(E:XK)(t:TA):TE:=fun σ H Q=>t σ H fun vs H1=>∀ x dx,H1 x=none→H1 dx=none→dx≠x →
 sp (.ref x::(vs++dvs)) (upd (upd H1 dx (.own x)) x (.ins C dx [])) (fun v H2=>v = .non∧Q (.ref x) H2) E
def Binds(K:PySem.W.Frag)(fd:FuncData)(ps:List Str)(ds:List Value):Prop:=
 ∀ (s:Shared) (us:List Value),K.In s.heap→(us++ds).length=ps.length→BindsTo s fd ⟨us,[]⟩ (ps.zip (us++ds))
theorem Binds.all{K:PySem.W.Frag}{fd:FuncData}{ps:List Str}(h:∀ us:List Value,us.length=ps.length→bindArgs fd ⟨us,[]⟩=pure (ps.zip us)):Binds K fd ps []:=fun s us _ hl=>by
 rw [append_nil] at hl ⊢;exact .of_eq (h us hl)
def Passes(CX:CXT)(X:Cx)(E:XK):Prop:=∀ (pins:List (Addr×Obj)) (σ:St) (H:Hp) (s:Shared) (e:Value) (s':Shared),Inv X pins σ H s→CX X.stack H s E e s'→X.xe e s'
section
variable {X:Cx}{CX:CXT}{k:Nat}{f C:Addr}{fd:FuncData}{ps:List Str}{sp:Sp}{dvs:List V}{ds:List Value}{E:XK}{x m:Str}{p pos apos:Pos}{e o:Expr}{es:List Expr}{ta:TE}{t:TA}
theorem xZ{pins:List (Addr×Obj)}{σ:St}{H:Hp}{s:Shared}{Q:VK}{us:List Value}{vs:List V}(F:aF X.prog X.w X.K X.mg X.base CX k f fd ps sp)(hr:cM k X.A)(hb:Binds X.K fd ps ds)(hd:Vals dvs ds)(hx:Passes CX X E)
  (I:Inv X pins σ H s) (r:Vals vs us) (h:sp (vs++dvs) H Q E):wpAny (model X.prog X.w) X.A (call (.ref f) us) (EP X pins σ Q) X.xe s:=by
 have r2:Vals (vs++dvs) (us++ds):=r.append hd;have hl:(us++ds).length=ps.length:=by rw [← r2.length]; exact F.len _ _ _ _ h
 refine wpAny_call (codeAny_mono (F.run X.A X.stack s H ⟨us,[]⟩ (us++ds) (vs++dvs) Q E hr I.Lk (hb s us I.kIn hl) r2 h) fun r s' hq=>?_);cases r with
 | error e=>exact hx pins σ H s e s' I hq
 | ok fl=>
  cases fl with
  | ret u=>exact I.after hq
  | next=>exact False.elim hq
  | brk=>exact False.elim hq
  | cont=>exact False.elim hq
theorem aD(F:aF X.prog X.w X.K X.mg X.base CX k f fd ps sp)(hr:cM k X.A)(hg:Gl X x)(hm:X.mg x=some (.ref f))(hk:keepIn X.K (.ref f)=true)(hb:Binds X.K fd ps ds)(hd:Vals dvs ds)(hx:Passes CX X E)
  (ha:PA X (e::es) t) (hdb:(x==("__debug__":Str))=false:=by decide) (he:starEach (e::es) X.env=(false,eval e X.env)::starEach es X.env:=by rfl) (hpl:(backTo pos (starEach es X.env)).any (·.1)=false:=by rfl) :
  PE X (.Call (.Name x p) (e::es) [] pos) (Q5 sp dvs E t):=by
 intro pins s σ H Q I h;refine wpAny_Call_Name_kw (gj I hg hm ?_ hdb);refine callWith_K (h₀:=X.base) I.ok.mod.kin hk (thn (ha pos pins s σ H _ I h) fun us s1 ⟨vs,H1,I1,r,q⟩=>⟨I1.kIn,?_⟩) he hpl;exact xZ F hr hb hd hx I1 r q
theorem aZ{pl:Sem Bool}(he:PE X o ta)(c:Cls X.K C)(hm:Meth X.K C m f)(F:aF X.prog X.w X.K X.mg X.base CX k f fd ps sp)(hr:cM k X.A)(hb:Binds X.K fd ps ds)(hd:Vals dvs ds)(hx:Passes CX X E)(ha:PA X (e::es) t)
  (hst:starEach (e::es) X.env=(false,eval e X.env)::starEach es X.env:=by rfl) (hpl:(backTo pos (starEach es X.env)).any (·.1)=false:=by rfl)
  (ht:eval (.Call (.Attribute o m apos) (e::es) [] pos) X.env=(do
   let ov ← eval o X.env
   standAt apos.atName
   let (f,first) ← holding [ov] (getMethod ov m pl)
   callWith pos f first (backTo pos (starEach (e::es) X.env)) (backToKw pos (keywordEach [] X.env))):=by rfl) :
  PE X (.Call (.Attribute o m apos) (e::es) [] pos) (Nm C m sp dvs E ta t):=by
 intro pins s σ H Q I h;refine methodCall_KW (pl:=pl) (thn (he pins s σ H _ I h) fun u s1 hq__=>?_) ht;obtain ⟨x,H1,I1,rx,a,dx,fs,ex,ea,l,q⟩:=hq__; subst ex;obtain rfl:u=Value.ref a:=rx;refine sO I1 ea c hm l ?_;refine callWith_K (first:=[.ref a]) (h₀:=X.base) I.ok.mod.kin hm.kp (thn (ha pos pins s1 σ H1 _ I1 q) fun us s2 ⟨vs,H2,I2,r,q2⟩=>⟨I2.kIn,?_⟩) hst hpl;exact xZ (us:=.ref a::us) (vs:=.ref a::vs) F hr hb hd hx I2 (.cons rfl r) q2
theorem bb{pl:Sem Bool}(he:PE X o ta)(c:Cls X.K C)(hm:Meth X.K C m f)(F:aF X.prog X.w X.K X.mg X.base CX k f fd ps sp)(hr:cM k X.A)(hb:Binds X.K fd ps ds)(hd:Vals dvs ds)(hx:Passes CX X E)
  (ht:eval (.Call (.Attribute o m apos) [] [] pos) X.env=(do
   let ov ← eval o X.env
   standAt apos.atName
   let (f,first) ← holding [ov] (getMethod ov m pl)
   callWith pos f first (backTo pos (starEach [] X.env)) (backToKw pos (keywordEach [] X.env))):=by rfl) :
  PE X (.Call (.Attribute o m apos) [] [] pos) (Nm C m sp dvs E ta BF):=by
 intro pins s σ H Q I h;refine methodCall_KW (pl:=pl) (thn (he pins s σ H _ I h) fun u s1 hq__=>?_) ht;obtain ⟨x,H1,I1,rx,a,dx,fs,ex,ea,l,q⟩:=hq__; subst ex;obtain rfl:u=Value.ref a:=rx;refine sO I1 ea c hm l ?_;exact callWith_K0 (first:=[.ref a]) I1.kIn hm.kp (xZ (us:=[.ref a]) (vs:=[.ref a]) F hr hb hd hx I1 (.cons rfl .nil) q)
structure Mk(K:PySem.W.Frag)(C f:Addr):Prop where
 makes:makesIn K C=true
 init:findIn K (.ref C) "__init__"=some (some (.ref f))
 fn:isFn K (.ref f)=true
 kp:keepIn K (.ref C)=true
theorem zC{pins:List (Addr×Obj)}{σ:St}{H:Hp}{s:Shared}{Q:VK}{us:List Value}{vs:List V}(M:Mk X.K C f)(F:aF X.prog X.w X.K X.mg X.base CX k f fd ps sp)(hr:cM (k+1) X.A)(hb:Binds X.K fd ps ds)(hd:Vals dvs ds)
  (hx:Passes CX X E) (I:Inv X pins σ H s) (r:Vals vs us)
  (h:∀ x dx,H x=none→H dx=none→dx≠x→sp (.ref x::(vs++dvs)) (upd (upd H dx (.own x)) x (.ins C dx [])) (fun v H2=>v = .non∧Q (.ref x) H2) E) :
  wpAny (model X.prog X.w) X.A (call (.ref C) us) (EP X pins σ Q) X.xe s:=by
 have hq:=h (s.heap.objs.size+1) s.heap.objs.size (I.hok.fresh (le_succ _)) (I.hok.fresh (le_refl _)) (ne_of_lt (lt_succ_self _));have I2:=Inv.made (C:=C) I;have r2:Vals (V.ref (s.heap.objs.size+1)::(vs++dvs)) (Value.ref (s.heap.objs.size+1)::(us++ds)):=.cons rfl (r.append hd);have hl:(Value.ref (s.heap.objs.size+1)::us++ds).length=ps.length:=by
  have e:=r2.length;rw [F.len _ _ _ _ hq] at e;exact e.symm
 refine wpAny_call (HM (f:=f) I.kIn M.makes M.init (beq_iff_eq.mp M.fn) (codeAny_mono (F.run _ X.stack _ _ ⟨Value.ref (s.heap.objs.size+1)::us,[]⟩ (Value.ref (s.heap.objs.size+1)::(us++ds)) _ _ E (hr.make C us [])
  (I2.Lk.make C us []) (hb _ (Value.ref (s.heap.objs.size+1)::us) I2.kIn hl) r2 hq) fun r s' hq'=>?_))
 cases r with
 | error e=>exact hx pins σ _ _ e s' I2 hq'
 | ok fl=>
  cases fl with
  | ret u=>
   obtain ⟨v,H',I3,rv,ev,q3⟩:=I2.after hq';subst ev;exact ⟨rv,⟨V.ref (s.heap.objs.size+1),H',I3,rfl,q3⟩⟩
  | next=>exact False.elim hq'
  | brk=>exact False.elim hq'
  | cont=>exact False.elim hq'
theorem dU(M:Mk X.K C f)(F:aF X.prog X.w X.K X.mg X.base CX k f fd ps sp)(hr:cM (k+1) X.A)(hg:Gl X x)(hm:X.mg x=some (.ref C))(hb:Binds X.K fd ps ds)(hd:Vals dvs ds)(hx:Passes CX X E)
  (ha:PA X (e::es) t) (hdb:(x==("__debug__":Str))=false:=by decide) (he:starEach (e::es) X.env=(false,eval e X.env)::starEach es X.env:=by rfl) (hpl:(backTo pos (starEach es X.env)).any (·.1)=false:=by rfl) :
  PE X (.Call (.Name x p) (e::es) [] pos) (Nn C sp dvs E t):=by
 intro pins s σ H Q I h;refine wpAny_Call_Name_kw (gj I hg hm ?_ hdb);refine callWith_K (h₀:=X.base) I.ok.mod.kin M.kp (thn (ha pos pins s σ H _ I h) fun us s1 ⟨vs,H1,I1,r,q⟩=>⟨I1.kIn,?_⟩) he hpl;exact zC M F hr hb hd hx I1 r q
theorem HN(M:Mk X.K C f)(F:aF X.prog X.w X.K X.mg X.base CX k f fd ps sp)(hr:cM (k+1) X.A)(hg:Gl X x)(hm:X.mg x=some (.ref C))(hb:Binds X.K fd ps ds)(hd:Vals dvs ds)(hx:Passes CX X E)
  (hdb:(x==("__debug__":Str))=false:=by decide):PE X (.Call (.Name x p) [] [] pos) (Nn C sp dvs E BF):=by
 intro pins s σ H Q I h;refine wpAny_Call_Name_kw (gj I hg hm ?_ hdb);exact callWith_K0 I.kIn M.kp (zC (us:=[]) M F hr hb hd hx I .nil h)
end
section
variable {X:Cx}{CX:CXT}{k:Nat}{f C:Addr}{fd:FuncData}{ps ks:List Str}{sp:Sp}{E:XK}{x m:Str}{p pos apos kpos:Pos}{e o:Expr}{es:List Expr}{kws:List Keyword}{te ta:TE}{t tk:TA}{nm:Option Str}
variable {g:List Value→List Value→List Value}{gV:List V→List V→List V}
end
structure ax(N P:List Str)(sc:Scope):Prop where
 kind:sc.kind = .function
 co:sc.isCoroutine=false
 gen:sc.isGenerator=false
 nd:N.Nodup
 pre:N.take P.length=P
 par:∀ x∈P,sc.names.lookup x=some .local∨sc.names.lookup x=some .cell
 Og:∀ y∈sc.names,y.2≠.free
theorem wq{kindOf:Str→Option NameKind}{x:Str}:∀ {binds:List (Str×Value)} {m:Str→Option Value},(∀ v,(x,v) ∉ binds)→bindL kindOf binds m x=m x
 | [],_,_=>rfl
 | (n,v)::r,m,h=>by
  unfold bindL;rw [wq fun w hw=>h w (mem_cons_of_mem _ hw)];split
  ·have:x≠n:=by rintro rfl; exact h v mem_cons_self
   simp [this]
  ·rfl
theorem wt{kindOf:Str→Option NameKind}{x:Str}:∀ {binds:List (Str×Value)} {m:Str→Option Value},(∀ v,(x,v) ∉ binds)→bindC kindOf binds m x=m x
 | [],_,_=>rfl
 | (n,v)::r,m,h=>by
  unfold bindC;rw [wt fun w hw=>h w (mem_cons_of_mem _ hw)];split
  ·rfl
  ·have:x≠n:=by rintro rfl; exact h v mem_cons_self
   simp [this]
theorem wu{kindOf:Str→Option NameKind}{x:Str}{v:Value}:∀ {P:List Str} {vs:List Value} {i:Nat} {m:Str→Option Value},P.Nodup→P[i]? = some x→vs[i]? = some v→kindOf x=some .local →
  bindL kindOf (P.zip vs) m x=some v
 | [],_,_,_,_,h,_,_=>by simp at h
 | _::_,[],_,_,_,_,h,_=>by simp at h
 | p::P,w::vs,0,m,nd,h1,h2,hk=>by
  simp at h1 h2; subst h1; subst h2;show bindL kindOf ((p,w)::P.zip vs) m p=_;unfold bindL;rw [wq fun v hv=>(nodup_cons.mp nd).1 (of_mem_zip hv).1,if_pos hk];simp
 | p::P,w::vs,i+1,m,nd,h1,h2,hk=>by
  show bindL kindOf ((p,w)::P.zip vs) m x=_;unfold bindL;exact wu (i:=i) (nodup_cons.mp nd).2 (by simpa using h1) (by simpa using h2) hk
theorem wx{kindOf:Str→Option NameKind}{x:Str}{v:Value}:∀ {P:List Str} {vs:List Value} {i:Nat} {m:Str→Option Value},P.Nodup→P[i]? = some x→vs[i]? = some v→kindOf x≠some .local →
  bindC kindOf (P.zip vs) m x=some v
 | [],_,_,_,_,h,_,_=>by simp at h
 | _::_,[],_,_,_,_,h,_=>by simp at h
 | p::P,w::vs,0,m,nd,h1,h2,hk=>by
  simp at h1 h2; subst h1; subst h2;show bindC kindOf ((p,w)::P.zip vs) m p=_;unfold bindC;rw [wt fun v hv=>(nodup_cons.mp nd).1 (of_mem_zip hv).1,if_neg hk];simp
 | p::P,w::vs,i+1,m,nd,h1,h2,hk=>by
  show bindC kindOf ((p,w)::P.zip vs) m x=_;unfold bindC;exact wx (i:=i) (nodup_cons.mp nd).2 (by simpa using h1) (by simpa using h2) hk
def start(N:List Str)(vs:List V):St:=vs.map some++replicate (N.length-vs.length) none
def x8(CX:CXT)(P:Program)(w:World)(K:PySem.W.Frag)(mg:Str→Option Value)(base:Heap)(N:List Str)(qual:Str)(scope:Scope)(f:Addr)(cd:Value)(A:Around)(outer:List Env)(s:Shared)(H:Hp)(E:XK):Cx where
 prog:=P
 w:=w
 K:=K
 mg:=mg
 base:=base
 A:=A.deeper (envOfC qual scope s.heap.objs.size f cd)
 N:=N
 s_0:=s
 H_0:=H
 env:=envOfC qual scope s.heap.objs.size f cd
 outer:=outer
 stack:=envOfC qual scope s.heap.objs.size f cd::outer
 ex:=[]
 calm:=true
 fn:=fun _=>true
 pn:=[]
 xe:=fun e s'=>wpAny (model P w) (A.deeper (envOfC qual scope s.heap.objs.size f cd)) (leaving (envOfC qual scope s.heap.objs.size f cd) e) (fun _ s''=>CX outer H s E e s'') (fun e' s''=>CX outer H s E e' s'') s'
theorem zD{sc:Scope}{n:Nat}{x:Str}(h:sc.names.lookup x=some .cell):∃ c,(cellsFrom n sc.names []).lookup x=some c:=by
 have q:=cellsFrom_some sc.names n [] (.inl h);exact Option.isSome_iff_exists.mp q
theorem FJ{CX:CXT}{P:Program}{w:World}{K:PySem.W.Frag}{mg:Str→Option Value}{base:Heap}{N ps:List Str}{qual:Str}{scope:Scope}{f:Addr}{cd:Value}{A:Around}{outer:List Env}{s s1:Shared}{H:Hp}{E:XK}{us:List Value}{vs:List V}
  (S:ax N ps scope) (hd:A.handled=none) (e0:BG P w K mg base A outer s H) (hl:vs.length=ps.length) (r:Vals vs us)
  (x:InCallC s s.heap.objs.size (bindL (envOfC qual scope s.heap.objs.size f cd).kindOf (ps.zip us) fun _=>none) (cellsFrom (s.heap.objs.size+1) scope.names []) (bindC (envOfC qual scope s.heap.objs.size f cd).kindOf (ps.zip us) fun _=>none) s1) :
  Inv (x8 CX P w K mg base N qual scope f cd A outer s H E) [] (start N vs) H s1:=by
 have hpl:ps.length≤N.length:=by have:=congrArg length S.pre; rw [length_take] at this; omega
 obtain ⟨h1,tk,rfl,hk⟩:=x.done;have noA:∀ b:Addr,b ∉ (x8 CX P w K mg base N qual scope f cd A outer s H E).ex:=fun b z=>absurd (show b∈([]:List Addr) from z) (by simp);refine ⟨⟨e0.mod,S.kind,rfl,rfl,le_refl _,fun y z c h1 h2=>?_,fun y hy=>?_,fun y c _ h=>?_,fun _=>hd,Around.frames_deeper e0.frames,.inr ⟨rfl,rfl⟩,fun b z=>absurd z (noA b),e0.bs,e0.bsz,fun b _ _=>noA b,fun b z=>absurd z (noA b),e0.lP,e0.frf⟩,
  rfl,e0.bare,Un.kept hk,⟨_,x.toInCall.ns,fun i y v h1 h2 h3=>?_⟩,fun y c h=>⟨_,x.cell y c h⟩,e0.hok.fresh (le_refl _),fun y c h=>?_,fun p hp=>absurd (show p∈([]:List (Addr×Obj)) from hp) (by simp),e0.hok.kept hk,?_⟩
 ·exact name_of_addr x.apart (PySem.mem_of_lookup h1) (PySem.mem_of_lookup h2)
 ·have hy:scope.names.lookup y=some .cell∨scope.names.lookup y=some .free:=hy;rcases hy with hy | hy
  ·exact zD hy
  ·exact absurd rfl (S.Og _ (PySem.mem_of_lookup hy))
 ·exact le_of_lt (x.above y c (PySem.mem_of_lookup h))
 ·have hi:i<vs.length:=by
   unfold start at h2;by_cases hi:i<vs.length
   ·exact hi
   ·rw [List.getElem?_append_right (by simpa using hi)] at h2;rw [List.getElem?_replicate] at h2;split at h2 <;> cases h2
  have ha:vs[i]? = some v:=by
   unfold start at h2;rw [List.getElem?_append_left (by simpa using hi),getElem?_map] at h2;cases e:vs[i]? with
   | none=>rw [e] at h2; cases h2
   | some a=>rw [e] at h2; cases h2; rfl
  obtain ⟨u,hu,rv⟩:=r.get ha;have hp:ps[i]? = some y:=by
   rw [← S.pre,List.getElem?_take_of_lt (by omega)]; exact h1
  have ndP:ps.Nodup:=by rw [← S.pre]; exact S.nd.sublist (List.take_sublist _ _)
  refine ⟨u,rv,?_⟩;rcases S.par y (mem_of_getElem? hp) with k | k
  ·exact .inl ⟨k,wu ndP hp hu k⟩
  ·obtain ⟨c,e⟩:=zD (n:=s.heap.objs.size+1) k;refine .inr ⟨.inl k,c,e,?_⟩;have q:=x.cell y c e;rw [wx ndP hp hu (by show scope.names.lookup y≠_; rw [k]; decide)] at q;exact q
 ·exact e0.hok.fresh (le_of_lt (x.above y c (PySem.mem_of_lookup h)))
 ·unfold start;show _=N.length;rw [length_append,length_map,List.length_replicate];omega
theorem Np{CX:CXT}{P:Program}{w:World}{K:PySem.W.Frag}{mg:Str→Option Value}{base:Heap}{k:Nat}{f:Addr}{name qual:Str}{params:Arguments}{body:List Stmt}{scope:Scope}{dV kV doc pm cdv ct oc:Value}{an od:Option Addr}
  {osl:Array (Option Value)} {N ps:List Str} {sp:Sp} (lk:K.lookup f=some ⟨oc,od,.func (fnOf name qual params body scope dV kV doc pm an cdv ct),osl⟩) (hcd:codeIn K cdv qual=true) (S:ax N ps scope)
  (len:∀ vs H Q E,sp vs H Q E→vs.length=ps.length)
  (hbody:∀ (A:Around) (outer:List Env) (s:Shared) (H:Hp) (vs:List V) (Q:VK) (E:XK),cM k (A.deeper (envOfC qual scope s.heap.objs.size f cdv))→sp vs H Q E →
   ∃ t,PSs (x8 CX P w K mg base N qual scope f cdv A outer s H E) body t∧t { nx:=fun _ H'=>Q .non H',rt:=Q } (start N vs) H) :
  aF P w K mg base CX (k+1) f (fnOf name qual params body scope dV kV doc pm an cdv ct) ps sp:=by
 refine ⟨len,fun A outer s H args us vs Q E hr e0 hb r hsp=>?_⟩;have hl:=len _ _ _ _ hsp;have KX:K.In s.heap:=e0.mod.kin.keeps fun b o e=>(e0.bs b o e).1;have lim:s.heap.NoLimit:=e0.mod.nolimit.keeps fun b o e=>(e0.bs b o e).1;have hkind:∀ y∈ps.zip us,scope.names.lookup y.1=some .local∨(scope.names.lookup y.1=some .cell∧((cellsFrom (s.heap.objs.size+1) scope.names []).lookup y.1).isSome=true):=fun ⟨n,v⟩ hy=>by
  rcases S.par n (of_mem_zip hy).1 with q | q
  ·exact .inl q
  ·exact .inr ⟨q,cellsFrom_some _ _ _ (.inl q)⟩
 refine codeAny_call_function hr.depth (KX _ _ lk) rfl S.co S.gen rfl (PySem.W.codeRec_of KX hcd) (hb _ _ _ _ ?_);refine wpAny_newFunctionEnv_cells S.kind hkind fun env he s1 x=>?_;subst he;refine ⟨lim.keeps x.toInCall.keep,codeAny_func ?_⟩;obtain ⟨t,ht,hq⟩:=hbody A outer s H vs Q E (hr.deeper _) hsp;have I:Inv (x8 CX P w K mg base N qual scope f cdv A outer s H E) [] (start N vs) H s1:=FJ S hr.hd e0 hl r x;refine wpAny_mono (ht [] s1 (start N vs) H _ I hq) (fun fl s' hs=>?_) fun e s' hs=>hs;have fin:∀ {σ':St} {H':Hp} {v:V} {u:Value},Inv (x8 CX P w K mg base N qual scope f cdv A outer s H E) [] σ' H' s'→RelV v u→Q v H'→CE outer P w H s Q u s':=
  fun {σ' H' v u} J rv q=>⟨v,H',J.os,J.bare,J.base,J.hok,rv,q⟩
 cases fl with
 | ret u=>
  obtain ⟨v,σ',H',J,rv,q⟩:=hs;exact fin J rv q
 | next=>
  obtain ⟨σ',H',J,q⟩:=hs;exact fin (v:=V.non) (u:=Value.none) J rfl q
 | brk=>
  obtain ⟨_,_,_,q⟩:=hs;exact False.elim q
 | cont=>
  obtain ⟨_,_,_,q⟩:=hs;exact False.elim q
end L2
namespace L2
open PySem PySem.Spec PyProof.Rows
section
variable {X:Cx}{x:Str}{p pos:Pos}{e:Expr}{es:List Expr}{t:TA}{id T:String}{r:List V→Hp→VK→Prop}
def tCB(r:List V→Hp→VK→Prop)(t:TA):TE:=fun σ H Q=>t σ H fun vs H1=>r vs H1 Q
theorem aJ(hc:gm X (.builtin id) r)(hg:Gl X x)(hm:X.mg x=none)(hv:bootBuiltins x=some (.builtin id))(ha:PA X (e::es) t)(hn:x≠"__name__":=by decide)(hdb:(x==("__debug__":Str))=false:=by decide)
  (he:starEach (e::es) X.env=(false,eval e X.env)::starEach es X.env:=by rfl) (hpl:(backTo pos (starEach es X.env)).any (·.1)=false:=by rfl):PE X (.Call (.Name x p) (e::es) [] pos) (tCB r t):=by
 intro pins s σ H Q I h;refine wpAny_Call_Name_kw (mi I hg hm hv ?_ hn hdb);exact PyProof.Rows.callWith_builtin1 (thn (ha pos pins s σ H _ I h) fun us s1 ⟨vs,H1,I1,r1,q1⟩=>hc pins s1 σ H1 vs us Q I1 r1 q1) he hpl
theorem iH(hc:gm X (.type T) r)(hg:Gl X x)(hm:X.mg x=none)(hv:bootBuiltins x=some (.type T))(ha:PA X (e::es) t)(hn:x≠"__name__":=by decide)(hdb:(x==("__debug__":Str))=false:=by decide)
  (he:starEach (e::es) X.env=(false,eval e X.env)::starEach es X.env:=by rfl) (hpl:(backTo pos (starEach es X.env)).any (·.1)=false:=by rfl):PE X (.Call (.Name x p) (e::es) [] pos) (tCB r t):=by
 intro pins s σ H Q I h;refine wpAny_Call_Name_kw (mi I hg hm hv ?_ hn hdb);exact PyProof.Rows.callWith_type1 (thn (ha pos pins s σ H _ I h) fun us s1 ⟨vs,H1,I1,r1,q1⟩=>hc pins s1 σ H1 vs us Q I1 r1 q1) he hpl
end
end L2
namespace HT
open PySem PyProof.Rows
section
open PySem.SeqAt
open PySem.AutoSeq1 (wpAny_loadPart')
open PySem.MeetsSeq PySem.MeetsSeq2 PySem.MeetsSeq3
end
section
variable {prog:Program}{w:World}{A:Around}{E:Value→Shared→Prop}{s:Shared}
def sIx(n d:Nat):Option Int→Nat
 | none=>d
 | some v=>if v<0 then (v+(n:Int)).toNat else min v.toNat n
theorem zE(n d:Nat):sIx n d none=d:=rfl
theorem lp(n d k:Nat):sIx n d (some (k:Int))=min k n:=by
 show (if (k:Int)<0 then ((k:Int)+(n:Int)).toNat else min (k:Int).toNat n)=min k n;rw [if_neg (by omega),toNat_natCast]
end
end HT
namespace L2
open PySem PySem.Spec PyProof.Rows
abbrev TO:=St→Hp→(Option Int→Hp→Prop)→Prop
def PO(X:Cx)(e:Option Expr)(t:TO):Prop:=
 ∀ (pins:List (Addr×Obj)) (s:Shared) (σ:St) (H:Hp) (Q:Option Int→Hp→Prop),Inv X pins σ H s→t σ H Q →
  wpAny (model X.prog X.w) X.A (evalPart e X.env) (fun u s'=>∃ o H',Inv X pins σ H' s'∧IsPart u o∧Q o H') X.xe s
def Ll:TO:=fun _ H Q=>Q none H
def Q6(t:TE):TO:=fun σ H Q=>t σ H fun x H1=>∃ i,x = .int i∧Q (some i) H1
section
variable {X:Cx}{e:Expr}{te:TE}{lo hi:Option Expr}{tl th:TO}{pos p2:Pos}
theorem Er:PO X none Ll:=by
 intro pins s σ H Q I h;rw [evalPart_none];exact wpAny_pure ⟨none,H,I,.none,h⟩
theorem lq(h:PE X e te):PO X (some e) (Q6 te):=by
 intro pins s σ H Q I hw;rw [evalPart_some];refine thn (h pins s σ H _ I hw) fun u s1 hq__=>?_;obtain ⟨x,H1,I1,r1,q1⟩:=hq__; obtain ⟨i,rfl,q⟩:=q1;obtain ⟨t,rfl⟩:=r1;exact ⟨some i,H1,I1,.int i t,q⟩
def SlR(X:Cx)(r:V→Option Int→Option Int→Hp→VK→Prop):Prop:=
 ∀ (pins:List (Addr×Obj)) (s:Shared) (σ:St) (H:Hp) (x:V) (v vl vu:Value) (lo hi:Option Int) (sl:Addr) (Q:VK),Inv X pins σ H s→RelV x v→s.heap.IsSliceOf sl vl vu .none→IsPart vl lo→IsPart vu hi→r x lo hi H Q →
  ∃ T id,typeLookup (.type T) "__getitem__"=pure (some (.builtin id))∧s.TypeIs v T∧wpAny (model X.prog X.w) X.A (getItem v (.ref sl)) (EP X pins σ Q) X.xe s
def tSl(r:V→Option Int→Option Int→Hp→VK→Prop)(te:TE)(tl th:TO):TE:=fun σ H Q=>te σ H fun x H1=>tl σ H1 fun l H2=>th σ H2 fun u H3=>r x l u H3 Q
theorem oI{r:V→Option Int→Option Int→Hp→VK→Prop}(hr:SlR X r)(he:PE X e te)(hl:PO X lo tl)(hu:PO X hi th):PE X (.Subscript e (.Slice lo hi none p2) pos) (tSl r te tl th):=by
 intro pins s σ H Q I h;refine Subscript_ (thn (he pins s σ H _ I h) fun v s1 hq__=>?_);obtain ⟨x,H1,I1,r1,q1⟩:=hq__; refine wpAny_Slice (thn (hl pins s1 σ H1 _ I1 q1) fun vl s2 ⟨l,H2,I2,pl,q2⟩=>thn (hu pins s2 σ H2 _ I2 q2) fun vu s3 ⟨u,H3,I3,pu,q3⟩=>?_);rw [evalPart_none];refine wpAny_pure ?_;have I4:Inv X pins σ H3 { s3 with heap:=s3.heap.push { cls:=.type "slice",data:=.fields #[vl,vu,.none] } }:=I3.kept (t':=s3.toks) fun b ob q=>Heap.get?_push_of_some _ q;obtain ⟨T,id,hT,ht,hg⟩:=hr pins { s3 with heap:=s3.heap.push { cls:=.type "slice",data:=.fields #[vl,vu,.none] } } σ H3 x v vl vu l u s3.heap.objs.size Q I4 r1 (Heap.IsSliceOf.new ..) pl pu q3;show wpAny (model X.prog X.w) X.A (subscriptTail e (.Slice lo hi none p2) v (.ref s3.heap.objs.size)) (EP X pins σ Q) X.xe { s3 with heap:=s3.heap.push { cls:=.type "slice",data:=.fields #[vl,vu,.none] } };exact tail_any (ops:=[.ref s3.heap.objs.size,v]) ht hT hg (by with_unfolding_all rfl)
def rC(xs:List V)(lo hi:Option Int):List V:=(xs.drop (HT.sIx xs.length 0 lo)).take (HT.sIx xs.length xs.length hi-HT.sIx xs.length 0 lo)
theorem zF(xs:List V)(lo hi:Option Int):(rC xs lo hi).length≤xs.length:=by
 unfold rC;rw [length_take,length_drop];omega
end
end L2
namespace L2
open PySem PySem.Spec PyProof.Rows
def ixN(n:Nat)(i:Int):Option Nat:=if 0≤i then (if i<n then some i.toNat else none) else if -(n:Int)≤i then some (i+n).toNat else none
def atI{α:Type}(xs:List α)(i:Int):Option α:=(ixN xs.length i).bind fun j=>xs[j]?
theorem Es{n:Nat}{i:Int}{j:Nat}(h:ixN n i=some j):seqIndex? i n=some j∧j<n∧-(n:Int)≤i∧i<n:=by
 unfold ixN at h;by_cases h0:0≤i
 ·rw [if_pos h0] at h;by_cases h1:i<n
  ·rw [if_pos h1] at h;have e:i.toNat=j:=Option.some.inj h;exact ⟨by rw [seqIndex_of h0 h1,e],by omega,by omega,h1⟩
  ·rw [if_neg h1] at h; cases h
 ·rw [if_neg h0] at h;by_cases h1 : -(n:Int)≤i
  ·rw [if_pos h1] at h;have e:(i+n).toNat=j:=Option.some.inj h;exact ⟨by rw [seqIndex_neg (by omega) h1,e],by omega,h1,by omega⟩
  ·rw [if_neg h1] at h; cases h
theorem Et{α:Type}{xs:List α}{i:Int}{v : α}(h:atI xs i=some v):∃ j,seqIndex? i xs.length=some j∧xs[j]? = some v∧j<xs.length∧-(xs.length:Int)≤i∧i<xs.length:=by
 unfold atI at h;cases e:ixN xs.length i with
 | none=>rw [e] at h; cases h
 | some j=>
  rw [e] at h;obtain ⟨h1,h2,h3,h4⟩:=Es e;exact ⟨j,h1,h,h2,h3,h4⟩
theorem Lm{α:Type}{xs:List α}{j:Nat}{v : α}(h:xs[j]? = some v):atI xs (j:Int)=some v:=by
 have hj:j<xs.length:=(List.getElem?_eq_some_iff.mp h).1;have e:ixN xs.length (j:Int)=some j:=by
  unfold ixN;rw [if_pos (by omega),if_pos (by omega)]; simp
 unfold atI; rw [e]; exact h
theorem sQ{α:Type}(xs:List α)(v : α):atI (xs++[v]) (-1)=some v:=by
 have hl:(xs++[v]).length=xs.length+1:=by simp
 have e:ixN (xs++[v]).length (-1)=some xs.length:=by
  unfold ixN;rw [hl,if_neg (by decide),if_pos (by omega)];congr 1;omega
 unfold atI;rw [e];show (xs++[v])[xs.length]? = some v;simp
def Ln(b:Expr):Prop:=∀ o i,subscripted b false o i=operate [o,i] (getItem o i)
def IxR(X:Cx)(r:R2):Prop:=
 ∀ (value slice:Expr) (pins:List (Addr×Obj)) (s:Shared) (σ:St) (H:Hp) (x y:V) (v u:Value) (Q:VK),Inv X pins σ H s→RelV x v→RelV y u→r x y H Q →
  subscripted slice false v u=operate [v,u] (getItem v u)→wpAny (model X.prog X.w) X.A (subscriptTail value slice v u) (EP X pins σ Q) X.xe s
def MtR(X:Cx)(id:String)(r:V→List V→Hp→VK→Prop):Prop:=
 ∀ (pins:List (Addr×Obj)) (s:Shared) (σ:St) (H:Hp) (x:V) (xs:List V) (v:Value) (us:List Value) (Q:VK),Inv X pins σ H s→RelV x v→Vals xs us→r x xs H Q →
  wpAny (model X.prog X.w) X.A (call (.builtin id) (v::us)) (EP X pins σ Q) X.xe s
section
variable {X:Cx}{a b:Expr}{ta tb:TE}{pos:Pos}
theorem aQ{r:R2}(hr:IxR X r)(ha:PE X a ta)(hb:PE X b tb)(hs:Ln b):PE X (.Subscript a b pos) (tOp r ta tb):=by
 intro pins s σ H Q I h;exact Subscript_ (Ob ha hb I h fun v u s2 x y H2 I2 rx ry q=>hr a b pins s2 σ H2 x y v u Q I2 rx ry q (hs _ _))
def rD(K:PySem.W.Frag):R2:=fun x y H Q=>∃ p xs i v,x = .ref p∧y = .int i∧SqL K H p xs∧atI xs i=some v∧Q v H
def Ug(K:PySem.W.Frag):R2:=fun x y H Q=>∃ p xs i v,x = .ref p∧y = .int i∧SqT K H p xs∧atI xs i=some v∧Q v H
theorem aG:IxR X (rD X.K):=by
 intro value slice pins s σ H x y v u Q I rx ry h hs;obtain ⟨p,xs,i,z,rfl,rfl,hq,he,q⟩:=h;cases rx;obtain ⟨t,rfl⟩:=ry;obtain ⟨its,r,pl,hz⟩:=I.list hq;obtain ⟨j,h1,h2,h3,h4,h5⟩:=Et he;obtain ⟨w,ew,rw'⟩:=r.get h2;have hl:=r.length;have hn:=xW;have fin:EP X pins σ Q w s:=⟨z,H,I,rw',q⟩;by_cases h0:0≤i
 ·have hj:i.toNat=j:=by
   rw [seqIndex_of h0 h5] at h1;exact Option.some.inj h1
  exact item_listR pl.isList h0 (by omega) (by rw [hj]; simpa using ew) fin hs
 ·have hj:(i+(its.toArray.size:Int)).toNat=j:=by
   rw [seqIndex_neg (by omega) h4] at h1;rw [size_toArray,← hl];exact Option.some.inj h1
  exact subscriptTail_builtinR (x:=w) pl.isList.typeIs slot_list_getitem.lookup
   (wpAny_getItem_list_neg (Q:=fun r s'=>r=w∧EP X pins σ Q r s') pl.isList (by omega) (by rw [size_toArray] <;> omega) (by omega) (by rw [hj]; simpa using ew) ⟨rfl,fin⟩) hs
theorem e7:IxR X (Ug X.K):=by
 intro value slice pins s σ H x y v u Q I rx ry h hs;obtain ⟨p,xs,i,z,rfl,rfl,hq,he,q⟩:=h;cases rx;obtain ⟨t,rfl⟩:=ry;obtain ⟨its,r,pl,hz⟩:=I.tuple hq;obtain ⟨j,h1,h2,h3,h4,h5⟩:=Et he;obtain ⟨w,ew,rw'⟩:=r.get h2;have hl:=r.length;have hn:=xW;have fin:EP X pins σ Q w s:=⟨z,H,I,rw',q⟩;exact subscriptTail_builtinR (x:=w) pl.typeIs slot_tuple_getitem.lookup
  (getItem_tuple (j:=j) (Q:=fun r s'=>r=w∧EP X pins σ Q r s') pl (by omega) (by omega) (by rw [size_toArray,← hl]; exact h1) (by simpa using ew) ⟨rfl,fin⟩) hs
theorem BH(its:List Value)(n j:Nat)(u:Value):Obj.mapSeq (·.setIfInBounds j u) { cls:=.type "list",data:=.seq its.toArray n }={ cls:=.type "list",data:=.seq (its.set j u).toArray n }:=by
 simp [Obj.mapSeq]
theorem Inv.lst{pins:List (Addr×Obj)}{σ:St}{H:Hp}{s:Shared}{p:Addr}{xs:List V}(I:Inv X pins σ H s)(h:H p=some (.lst xs)) :
  ∃ (its:List Value) (n:Nat),Vals xs its∧s.heap.get? p=some { cls:=.type "list",data:=.seq its.toArray n }∧xs.length≤sizeLine:=by
 obtain ⟨z,its,n,r,e⟩:=I.hok p _ h;exact ⟨its,n,r,e,z⟩
theorem Inv.Oh{pins:List (Addr×Obj)}{σ:St}{H:Hp}{s:Shared}{p:Addr}{xs ys:List V}{its its':List Value}{n n':Nat}{f:Obj→Obj}(I:Inv X pins σ H s)(h:H p=some (.lst xs))
  (ho:s.heap.get? p=some { cls:=.type "list",data:=.seq its.toArray n }) (hf:f { cls:=.type "list",data:=.seq its.toArray n }={ cls:=.type "list",data:=.seq its'.toArray n' }) (r:Vals ys its') (hz:ys.length≤sizeLine) (t:Nat) :
  Inv X pins σ (upd H p (.lst ys)) { s with heap:=s.heap.update p f,toks:=t }:=by
 have e:(s.heap.update p f).get? p=some { cls:=.type "list",data:=.seq its'.toArray n' }:=by
  rw [Heap.get?_update_self f ho (by rw [hf] <;> rfl),hf]
 refine I.write (x:=p) (e:=p) (by rw [h]; trivial) (.inl rfl) (fun b u hb q=>(Heap.get?_update_other _ _ (Ne.symm hb)).trans q) ⟨_,e⟩ ?_;exact ⟨hz,its',n',r,e⟩
def Q7:V→V→V→Hp→(Hp→Prop)→Prop:=fun o i v H Q=>∃ p xs k j,o = .ref p∧i = .int k∧H p=some (.lst xs)∧ixN xs.length k=some j∧Q (upd H p (.lst (xs.set j v)))
theorem set_list:QW X Q7:=by
 intro pins s σ H o i v ov iv u Q I ro ri rv h;obtain ⟨p,xs,k,j,rfl,rfl,hp,hj,q⟩:=h;cases ro;obtain ⟨t,rfl⟩:=ri;obtain ⟨its,n,r,ho,hz⟩:=I.lst hp;obtain ⟨h1,h2,h3,h4⟩:=Es hj;have hl:=r.length;have hn:=xW;have I':Inv X pins σ (upd H p (.lst (xs.set j v))) { s with heap:=s.heap.update p (Obj.mapSeq (·.setIfInBounds j u)) }:=
  I.Oh hp ho (BH its n j u) (r.set rv j) (by rw [length_set]; exact hz) s.toks
 by_cases h0:0≤k
 ·have hk:k.toNat=j:=by
   rw [seqIndex_of h0 h4] at h1;exact Option.some.inj h1
  exact PySem.W.ki_setAt ho h0 (by omega) (by rw [size_toArray,← hl]; exact h4) (by rw [hk]; exact ⟨_,I',q⟩)
 ·have hk:(k+(its.toArray.size:Int)).toNat=j:=by
   rw [seqIndex_neg (by omega) h3] at h1;rw [size_toArray,← hl];exact Option.some.inj h1
  exact PySem.W.ki_setBack ho (by omega) (by rw [size_toArray,← hl]; exact h3) (by omega) (by rw [hk]; exact ⟨_,I',q⟩)
theorem x9(lo hi:Option Int)(n:Nat):(sliceBounds lo hi none n).1=((HT.sIx n 0 lo:Nat):Int)∧(sliceBounds lo hi none n).2.1=((HT.sIx n n hi:Nat):Int)∧(sliceBounds lo hi none n).2.2=1:=by
 refine ⟨?_,?_,rfl⟩
 ·cases lo with
  | none=>simp [sliceBounds,HT.sIx]
  | some i=>
   simp only [sliceBounds,HT.sIx,getD_none,show (1:Int) > 0 by decide,if_true];by_cases h:i<0
   ·simp only [h,if_true] <;> omega
   ·simp only [h,if_false] <;> omega
 ·cases hi with
  | none=>simp [sliceBounds,HT.sIx]
  | some i=>
   simp only [sliceBounds,HT.sIx,getD_none,show (1:Int) > 0 by decide,if_true];by_cases h:i<0
   ·simp only [h,if_true] <;> omega
   ·simp only [h,if_false] <;> omega
theorem vo(its:List Value)(lo hi:Option Int):slicePick its.toArray lo hi none=((its.drop (HT.sIx its.length 0 lo)).take (HT.sIx its.length its.length hi-HT.sIx its.length 0 lo)).toArray:=by
 obtain ⟨h1,h2,h3⟩:=x9 lo hi its.toArray.size;unfold slicePick;rw [h1,h2,h3];simp only [sliceRange_one,pick_run,size_toArray] <;> rfl
def Uh(K:PySem.W.Frag):V→Option Int→Option Int→Hp→VK→Prop:=fun x lo hi H Q=>∃ a xs,x = .ref a∧SqL K H a xs∧∀ p,H p=none→Q (.ref p) (upd H p (.lst (rC xs lo hi)))
theorem rY:SlR X (Uh X.K):=by
 intro pins s σ H x v vl vu lo hi sl Q I rx hs pl pu h;obtain ⟨a,xs,rfl,hx,q⟩:=h;cases rx;obtain ⟨its,r,ht,hz⟩:=I.list hx;have hlen:=r.length;refine ⟨"list",_,slot_list_getitem.lookup,ht.isList.typeIs,?_⟩;refine wpAny_getItem_list_slice ht.isList hs pl pu .none (by simp) ?_ (by rw [size_toArray] <;> omega);rw [vo,← hlen];refine ⟨.ref s.heap.objs.size,_,I.laid (t':=s.toks) (o:=.lst (rC xs lo hi)) (fun b ob q=>Heap.get?_push_of_some _ q) (le_refl _) ?_,rfl,q _ (I.hok.fresh (le_refl _))⟩;exact ⟨le_trans (zF xs lo hi) hz,_,0,(r.drop (HT.sIx xs.length 0 lo)).take (HT.sIx xs.length xs.length hi-HT.sIx xs.length 0 lo),Heap.get?_push_size _ rfl⟩
def oJ:V→Bool
 | .non=>true
 | .bl _=>true
 | .int _=>true
 | .str _=>true
 | _=>false
def eqV:V→V→Bool
 | .non,.non=>true
 | .bl a,.bl b=>a==b
 | .bl a,.int b=>(if a then 1 else 0)==b
 | .int a,.bl b=>a==(if b then 1 else 0)
 | .int a,.int b=>a==b
 | .str a,.str b=>a==b
 | _,_=>false
theorem Oi{A:Around}{s:Shared}{y x:V}{u v:Value}(ry:RelV y u)(rx:RelV x v)(fy:oJ y=true)(fx:oJ x=true):SeqAt.EqAt A s u v (eqV y x):=by
 cases y with
 | non=>
  cases ry;cases x with
  | non=>cases rx; exact SeqAt.EqAt.same _
  | bl b=>cases rx; exact SeqAt.EqAt.none_bool b
  | int b=>obtain ⟨t,rfl⟩:=rx; exact SeqAt.EqAt.none_int b t
  | str b=>obtain ⟨t,rfl⟩:=rx; exact SeqAt.EqAt.none_str b t
  | _=>exact absurd (show false=true from fx) Bool.false_ne_true
 | bl a=>
  cases ry;cases x with
  | non=>cases rx; exact SeqAt.EqAt.bool_none a
  | bl b=>cases rx; exact SeqAt.EqAt.bool_bool a b
  | int b=>obtain ⟨t,rfl⟩:=rx; exact SeqAt.EqAt.bool_int a b t
  | str b=>obtain ⟨t,rfl⟩:=rx; exact SeqAt.EqAt.bool_str a b t
  | _=>exact absurd (show false=true from fx) Bool.false_ne_true
 | int a=>
  obtain ⟨t',rfl⟩:=ry;cases x with
  | non=>cases rx; exact SeqAt.EqAt.int_none a t'
  | bl b=>cases rx; exact SeqAt.EqAt.int_bool a t' b
  | int b=>obtain ⟨t,rfl⟩:=rx; exact SeqAt.EqAt.int_int a t' b t
  | str b=>obtain ⟨t,rfl⟩:=rx; exact SeqAt.EqAt.int_str a t' b t
  | _=>exact absurd (show false=true from fx) Bool.false_ne_true
 | str a=>
  obtain ⟨t',rfl⟩:=ry;cases x with
  | non=>cases rx; exact SeqAt.EqAt.str_none a t'
  | bl b=>cases rx; exact SeqAt.EqAt.str_bool a t' b
  | int b=>obtain ⟨t,rfl⟩:=rx; exact SeqAt.EqAt.str_int a t' b t
  | str b=>obtain ⟨t,rfl⟩:=rx; exact SeqAt.EqAt.str_str a t' b t
  | _=>exact absurd (show false=true from fx) Bool.false_ne_true
 | _=>exact absurd (show false=true from fy) Bool.false_ne_true
def eqU(x:V)(u:Value):Bool:=match u with
 | .none=>eqV .non x
 | .bool b=>eqV (.bl b) x
 | .int i _=>eqV (.int i) x
 | .str z _=>eqV (.str z) x
 | _=>false
theorem HP{x y:V}{u:Value}(r:RelV y u)(f:oJ y=true):eqU x u=eqV y x:=by
 cases y with
 | non=>cases r; rfl
 | bl b=>cases r; rfl
 | int i=>obtain ⟨t,rfl⟩:=r; rfl
 | str z=>obtain ⟨t,rfl⟩:=r; rfl
 | _=>exact absurd (show false=true from f) Bool.false_ne_true
theorem ya{x:V}:∀ {xs:List V} {us:List Value},Vals xs us→xs.all oJ=true→us.any (eqU x)=xs.any fun y=>eqV y x
 | _,_,.nil,_=>rfl
 | y::xs,u::us,.cons r t,f=>by
  rw [all_cons,and_eq_true] at f;rw [any_cons,any_cons,HP r f.1,ya t f.2]
theorem sR{A:Around}{s:Shared}{x:V}{v:Value}(rx:RelV x v)(fx:oJ x=true):∀ {xs:List V} {us:List Value},Vals xs us→xs.all oJ=true→∀ u∈us,SeqAt.EqAt A s u v (eqU x u)
 | _,_,.nil,_=>fun u hu=>by cases hu
 | y::xs,u::us,.cons r t,f=>fun u' hu=>by
  rw [all_cons,and_eq_true] at f;rcases mem_cons.mp hu with rfl | hu
  ·rw [HP r f.1]; exact Oi r rx f.1 fx
  ·exact sR rx fx t f.2 u' hu
def inV(x:V)(xs:List V):Bool:=xs.any fun y=>eqV y x
def rIn(K:PySem.W.Frag)(neg:Bool):R2:=fun x y H Q=>∃ p xs,y = .ref p∧(SqL K H p xs∨SqT K H p xs)∧oJ x=true∧xs.all oJ=true∧Q (.bl (if neg then !inV x xs else inV x xs)) H
theorem p8:OpR X (compareOp .In) (rIn X.K false):=by
 intro pins s σ H x y v u Q I rx ry h;obtain ⟨p,xs,rfl,hq,fx,fs,q⟩:=h;cases ry;rcases hq with hq | hq
 ·obtain ⟨its,r,pl,hz⟩:=I.list hq;refine SeqAt.in_listAt (eqU x) pl.isList (fun w hw=>sR rx fx r fs w (by simpa using hw)) ⟨.bl _,H,I,rfl,?_⟩;rw [show its.toArray.any (eqU x)=its.any (eqU x) by simp,ya r fs];exact q
 ·obtain ⟨its,r,pl,hz⟩:=I.tuple hq;refine SeqAt.in_tupleAt (eqU x) pl (fun w hw=>sR rx fx r fs w (by simpa using hw)) ⟨.bl _,H,I,rfl,?_⟩;rw [show its.toArray.any (eqU x)=its.any (eqU x) by simp,ya r fs];exact q
theorem aC:gm X (.builtin "len") (fun xs H Q=>∃ p ys,xs=[.ref p]∧(SqL X.K H p ys∨SqT X.K H p ys)∧Q (.int ys.length) H):=by
 intro pins s σ H xs us Q I r h;obtain ⟨p,ys,rfl,hq,q⟩:=h;obtain ⟨u,rfl,rx⟩:=vals1 r;cases rx;have hn:=xW;rcases hq with hq | hq
 ·obtain ⟨its,r',pl,hz⟩:=I.list hq;have hlen:=r'.length;exact Calls.call_len_list pl.isList (by simp only [size_toArray] <;> omega) ⟨.int ys.length,H,I.tok _,⟨s.toks+1,by rw [size_toArray,hlen]⟩,q⟩
 ·obtain ⟨its,r',pl,hz⟩:=I.tuple hq;have hlen:=r'.length;exact len_tuple pl (by simp only [size_toArray] <;> omega) ⟨.int ys.length,H,I.tok _,⟨s.toks+1,by rw [size_toArray,hlen]⟩,q⟩
def tyV(K:PySem.W.Frag)(T:String)(x:V)(H:Hp):Prop:=match x with
 | .str _=>T="str"
 | .int _=>T="int"
 | .ref p=>(T="list"∧∃ xs,SqL K H p xs)∨(T="tuple"∧∃ o,K.lookup p=some o∧o.cls = .type "tuple"∧o.dict=none) ∨
   (T="dict"∧((∃ kvs,H p=some (.dK kvs))∨∃ kvs,H p=some (.dT kvs)))∨(T="set"∧∃ S n,H p=some (.set S n))
 | _=>False
theorem HQ{pins:List (Addr×Obj)}{σ:St}{H:Hp}{s:Shared}{T:String}{x:V}{v:Value}(I:Inv X pins σ H s)(r:RelV x v)(ty:tyV X.K T x H) :
  s.TypeIs v T∧∀ a,v = .ref a→∃ ob,s.heap.get? a=some ob∧ob.dict=none:=by
 cases x with
 | str z=>
  obtain ⟨t,rfl⟩:=r;cases (show T="str" from ty);exact ⟨typeIs_str s z t,fun _ e=>nomatch e⟩
 | int i=>
  obtain ⟨t,rfl⟩:=r;cases (show T="int" from ty);exact ⟨typeIs_int s i t,fun _ e=>nomatch e⟩
 | ref p=>
  cases r;rcases ty with ⟨rfl,xs,hq⟩ | ⟨rfl,o,hk,hc,hd⟩ | ⟨rfl,hk⟩ | ⟨rfl,S,n,hk⟩
  ·obtain ⟨its,_,pl,_⟩:=I.list hq;refine ⟨pl.isList.typeIs,fun a e=>?_⟩;cases e;obtain ⟨o,n,e,c,hd,_⟩:=pl;exact ⟨o,e,hd⟩
  ·refine ⟨⟨o,I.kIn p o hk,hc⟩,fun a e=>?_⟩;cases e;exact ⟨o,I.kIn _ o hk,hd⟩
  ·have z:∃ o,s.heap.get? p=some o∧o.ExactDict:=by
    rcases hk with ⟨kvs,hk⟩ | ⟨kvs,hk⟩
    ·obtain ⟨_,_,_,_,o,_,_,e,ex,_⟩:=I.hok p _ hk;exact ⟨o,e,ex⟩
    ·obtain ⟨_,_,_,_,o,_,_,e,ex,_⟩:=I.hok p _ hk;exact ⟨o,e,ex⟩
   obtain ⟨o,e,ex⟩:=z;refine ⟨⟨o,e,ex.1⟩,fun a e2=>?_⟩;cases e2;exact ⟨o,e,ex.2.1⟩
  ·obtain ⟨o,_,_,_,e,ex,_⟩:=I.hok p _ hk;refine ⟨⟨o,e,ex.1⟩,fun a e2=>?_⟩;cases e2;exact ⟨o,e,ex.2.1⟩
 | _=>exact False.elim ty
def Ui(K:PySem.W.Frag)(T:String)(r:V→List V→Hp→VK→Prop)(to:TE):TE:=fun σ H Q=>to σ H fun x H1=>tyV K T x H1∧r x [] H1 Q
def tBM(K:PySem.W.Frag)(T:String)(r:V→List V→Hp→VK→Prop)(to:TE)(t:TA):TE:=fun σ H Q=>to σ H fun x H1=>tyV K T x H1∧t σ H1 fun xs H2=>r x xs H2 Q
variable {o e:Expr}{es:List Expr}{to:TE}{t:TA}{name:Str}{apos cpos:Pos}{T id:String}{r:V→List V→Hp→VK→Prop}
theorem BI(pa:PlainAttrs T)(slot:Slot T name id)(hty:typeOf (.builtin id)=pure (.type "method_descriptor"))(hm:MtR X id r)(ho:PE X o to)
  (hbase:attributeBase o name X.env (eval o X.env)=eval o X.env:=by rfl) (hline:(apos.endLine==cpos.line)=true:=by rfl):PE X (.Call (.Attribute o name apos) [] [] cpos) (Ui X.K T r to):=by
 intro pins s σ H Q I h;refine wpAny_Call_method0_late hbase hline (thn (ho pins s σ H _ I h) fun v s1 hq__=>?_);obtain ⟨x,H1,I1,r1,ty,q1⟩:=hq__; obtain ⟨h1,h2⟩:=HQ I1 r1 ty;exact ⟨T,id,pa,slot,hty,h1,h2,Calls.callWith_builtin rfl (PySem.evalArgs_none (hm pins s1 σ H1 x [] v [] Q I1 r1 .nil q1))⟩
theorem c5(pa:PlainAttrs T)(slot:Slot T name id)(hty:typeOf (.builtin id)=pure (.type "method_descriptor"))(hm:MtR X id r)(ho:PE X o to)(ha:PA X (e::es) t)
  (hbase:attributeBase o name X.env (eval o X.env)=eval o X.env:=by rfl)
  (hfew:((backTo cpos (starEach (e::es) X.env)).all (fun x=>!x.1)&&(backToKw cpos (keywordEach [] X.env)).all (fun x=>x.1.isSome)
   && decide ((e::es).length+([]:List Keyword).length+(if ([]:List Keyword).isEmpty then 0 else 1)<30))=true:=by rfl)
  (hline:(apos.endLine==cpos.line)=true:=by rfl) (hs:starEach (e::es) X.env=(false,eval e X.env)::starEach es X.env:=by rfl) (hplain:(backTo cpos (starEach es X.env)).any (·.1)=false:=by rfl) :
  PE X (.Call (.Attribute o name apos) (e::es) [] cpos) (tBM X.K T r to t):=by
 intro pins s σ H Q I h;refine wpAny_Call_method_late hbase hfew hline rfl (thn (ho pins s σ H _ I h) fun v s1 hq__=>?_);obtain ⟨x,H1,I1,r1,ty,q1⟩:=hq__; obtain ⟨h1,h2⟩:=HQ I1 r1 ty;refine ⟨T,id,pa,slot,hty,h1,h2,?_⟩;have hA:=ha cpos pins s1 σ H1 _ I1 q1;rw [hs] at hA ⊢;refine Calls.callWith_builtin (by show (false || (backTo cpos (starEach es X.env)).any (·.1))=false; rw [hplain] <;> rfl) (Calls.evalArgs_plain ?_);exact thn hA fun us s2 ⟨vs,H2,I2,r2,q2⟩=>hm pins s2 σ H2 x vs v us Q I2 r1 r2 q2
end
end L2
namespace L2
open PySem PySem.Spec PyProof.Rows
def MtM(X:Cx)(id:String)(r:V→List V→Hp→VK→Prop):Prop:=
 ∀ (pins:List (Addr×Obj)) (s:Shared) (σ:St) (H:Hp) (x:V) (xs:List V) (v:Value) (us:List Value) (Q:VK),Inv X pins σ H s→RelV x v→Vals xs us→r x xs H Q →
  wpAny (model X.prog X.w) X.A (call (.builtin id) (v::us)) (EP X pins σ Q) X.xe s
theorem Vals.one:∀ {x:V} {us:List Value},Vals [x] us→∃ u,us=[u]∧RelV x u
 | _,_,.cons r .nil=>⟨_,rfl,r⟩
theorem Vals.zero:∀ {us:List Value},Vals [] us→us=[]
 | _,.nil=>rfl
theorem Vals.dropLast{xs:List V}{us:List Value}(h:Vals xs us):Vals xs.dropLast us.dropLast:=by
 induction h with
 | nil=>exact .nil
 | cons r t ih=>
  cases t with
  | nil=>exact .nil
  | cons q t'=>exact .cons r ih
theorem Vals.rep{xs:List V}{us:List Value}(h:Vals xs us):∀ k:Nat,Vals (replicate k xs).flatten (replicate k us).flatten
 | 0=>.nil
 | k+1=>by
  rw [replicate_succ,replicate_succ,flatten_cons,flatten_cons];exact Vals.append h (Vals.rep h k)
theorem BJ{α:Type}(l:List α):l.eraseIdx (l.length-1)=l.dropLast:=by
 induction l with
 | nil=>rfl
 | cons a r ih=>
  cases r with
  | nil=>rfl
  | cons b r=>
   have e:(a::b::r).length-1=((b::r).length-1)+1:=by
    have h1:(a::b::r).length=r.length+2:=rfl;have h2:(b::r).length=r.length+1:=rfl;omega
   rw [e,List.eraseIdx_cons_succ,ih]
   all_goals rfl
theorem foldl_rep(its:List Value):∀ (k:Nat) (acc:List Value),
  foldl (fun x1 x2=>x1++x2) acc.toArray (replicate k its.toArray)=(acc++(replicate k its).flatten).toArray
 | 0,acc=>by simp
 | k+1,acc=>by
  have e:acc.toArray++its.toArray=(acc++its).toArray:=by simp
  have e2:(acc++its)++(replicate k its).flatten=acc++(replicate (k+1) its).flatten:=by
   rw [replicate_succ,flatten_cons,append_assoc]
  rw [← e2,← foldl_rep its k (acc++its),← e,replicate_succ,foldl_cons]
section
variable {X:Cx}{pins:List (Addr×Obj)}{σ:St}{H:Hp}{s:Shared}{l b:Addr}{xs ys zs:List V}
theorem Inv.Oj{its its':List Value}{n:Nat}{f:Array Value→Array Value}{t':Nat}(I:Inv X pins σ H s)(hH:H l=some (.lst xs))
  (e:s.heap.get? l=some { cls:=.type "list",data:=.seq its.toArray n }) (hf:f its.toArray=its'.toArray) (hv:Vals ys its') (hz:ys.length≤sizeLine) :
  Inv X pins σ (upd H l (.lst ys)) { s with heap:=s.heap.update l (Obj.mapSeq f),toks:=t' }:=by
 have q:=PySem.IsL.update e f;rw [hf] at q;refine I.write (x:=l) (e:=l) (by rw [hH]; exact trivial) (.inl rfl) (fun b' u hb hu=>(Heap.get?_update_other s.heap (Obj.mapSeq f) (Ne.symm hb)).trans hu) ⟨_,q⟩ ?_;exact ⟨hz,its',_,hv,q⟩
theorem Inv.Q8{its:List Value}{t':Nat}(I:Inv X pins σ H s)(hv:Vals ys its)(hz:ys.length≤sizeLine) :
  Inv X pins σ (upd H s.heap.objs.size (.lst ys)) { s with heap:=s.heap.push { cls:=.type "list",data:=.seq its.toArray },toks:=t' }:=
 I.laid (fun _ _ q=>Heap.get?_push_of_some _ q) (le_refl _) ⟨hz,its,0,hv,Heap.get?_push_size _ rfl⟩
theorem Inv.fresh(I:Inv X pins σ H s):H s.heap.objs.size=none:=I.hok.fresh (le_refl _)
theorem Inv.BK(I:Inv X pins σ H s)(hH:H l=some (.lst xs)):xs.length≤sizeLine∧∃ (its:List Value) (n:Nat),Vals xs its∧xs.length=its.length∧s.heap.get? l=some { cls:=.type "list",data:=.seq its.toArray n }:=by
 obtain ⟨z,its,n,r,e⟩:=I.hok l _ hH;exact ⟨z,its,n,r,r.length,e⟩
theorem zG{n:Nat}(h:n≤sizeLine):Builtin.List.listTooLong n=false:=by
 unfold Builtin.List.listTooLong;exact decide_eq_false (by omega)
end
section
variable {X:Cx}
def Lo:V→List V→Hp→VK→Prop:=fun x vs H Q=>∃ l xs y,x = .ref l∧vs=[y]∧H l=some (.lst xs)∧xs.length<sizeLine∧Q .non (upd H l (.lst (xs++[y])))
theorem br:MtM X "list.append" Lo:=by
 intro pins s σ H x vs v us Q I rx rv h;obtain ⟨l,xs,y,rfl,rfl,hH,hz,q⟩:=h;cases rx;obtain ⟨u,rfl,ru⟩:=rv.one;obtain ⟨z,its,n,r,hl,e⟩:=I.BK hH;refine call_meets F.slot_list_append ⟨_,e,rfl⟩ F.entry_list_append (F.args_list_append_2 _ _) (PySem.list_append l its.toArray n u (by rw [size_toArray]; omega)) ⟨e,?_⟩;refine ⟨.non,_,I.Oj (its':=its++[u]) hH e (by simp) (r.append (.cons ru .nil)) ?_,rfl,q⟩;rw [length_append,List.length_singleton];omega
def Lp:V→List V→Hp→VK→Prop:=fun x vs H Q=>∃ l b xs zs,x = .ref l∧vs=[.ref b]∧H l=some (.lst xs)∧H b=some (.lst zs)∧xs.length+zs.length≤sizeLine∧Q .non (upd H l (.lst (xs++zs)))
theorem lr:MtM X "list.extend" Lp:=by
 intro pins s σ H x vs v us Q I rx rv h;obtain ⟨l,b,xs,zs,rfl,rfl,hH,hB,hz,q⟩:=h;cases rx;obtain ⟨u,rfl,ru⟩:=rv.one;cases ru;obtain ⟨z,its,n,r,hl,e⟩:=I.BK hH;obtain ⟨z2,its2,n2,r2,hl2,e2⟩:=I.BK hB;have hsz:its.toArray.size+its2.toArray.size≤sizeLine:=by rw [size_toArray,size_toArray]; omega
 have hlong:¬ (!its.toArray.isEmpty&&Builtin.List.listTooLong (its.toArray.size+its2.toArray.size))=true:=by
  rw [zG hsz,Bool.and_false];exact Bool.false_ne_true
 refine call_meets F.slot_list_extend ⟨_,e,rfl⟩ F.entry_list_extend (F.args_list_extend_2 _ _)
  (AutoSeq1.list_extend_list_list_0 l its.toArray n b its2.toArray n2 hlong (by rw [size_toArray]; omega) (by omega)) ⟨e,e2,?_⟩
 refine ⟨.non,_,I.Oj (its':=its++its2) hH e (by simp) (r.append r2) ?_,rfl,q⟩;rw [length_append];omega
def Uj:V→List V→Hp→VK→Prop:=fun x vs H Q=>∃ l xs y,x = .ref l∧vs=[]∧H l=some (.lst xs)∧xs[xs.length-1]? = some y∧Q y (upd H l (.lst xs.dropLast))
theorem BL:MtM X "list.pop" Uj:=by
 intro pins s σ H x vs v us Q I rx rv h;obtain ⟨l,xs,y,rfl,rfl,hH,hy,q⟩:=h;cases rx;have hus:=rv.zero;subst hus;obtain ⟨z,its,n,r,hl,e⟩:=I.BK hH;obtain ⟨u,hu,ru⟩:=r.get hy;have hy':its.toArray[its.toArray.size-1]? = some u:=by
  show its.toArray[its.length-1]? = some u;rw [← getElem?_toList,← hl];exact hu
 refine call_meets F.slot_list_pop ⟨_,e,rfl⟩ F.entry_list_pop (F.args_list_pop_1 _) (MeetsSeq.list_pop_last l its.toArray n u hy' (by rw [size_toArray]; omega)) ⟨e,?_⟩;refine ⟨y,_,I.Oj (its':=its.dropLast) hH e ?_ r.dropLast ?_,ru,q⟩
 ·show its.toArray.eraseIdxIfInBounds (its.toArray.size-1)=its.dropLast.toArray;rw [size_toArray,List.eraseIdxIfInBounds_toArray,BJ]
 ·rw [List.length_dropLast];omega
def Uk:R2:=fun x y H Q=>∃ l b xs zs,x = .ref l∧y = .ref b∧H l=some (.lst xs)∧H b=some (.lst zs)∧xs.length+zs.length≤sizeLine∧∀ p,H p=none→Q (.ref p) (upd H p (.lst (xs++zs)))
theorem hZ:OpR X (binaryOp .Add) Uk:=by
 intro pins s σ H x y v u Q I rx ry h;obtain ⟨l,b,xs,zs,rfl,rfl,hH,hB,hz,q⟩:=h;cases rx;cases ry;obtain ⟨z,its,n,r,hl,e⟩:=I.BK hH;obtain ⟨z2,its2,n2,r2,hl2,e2⟩:=I.BK hB;refine PySem.P.add_list e e2 ?_ (by rw [size_toArray,size_toArray]; omega);have ea:its.toArray++its2.toArray=(its++its2).toArray:=by simp
 rw [ea];exact ⟨.ref _,_,I.Q8 (t':=s.toks) (r.append r2) (by rw [length_append]; omega),rfl,q _ I.fresh⟩
def Ul:R2:=fun x y H Q=>∃ l k xs,x = .ref l∧y = .int k∧H l=some (.lst xs)∧-(2 ^ 63)≤k∧k<2 ^ 63∧xs.length*k.toNat≤sizeLine ∧
 ∀ p,H p=none→Q (.ref p) (upd H p (.lst (replicate k.toNat xs).flatten))
theorem len_rep{α:Type}(xs:List α)(k:Nat):(replicate k xs).flatten.length=k*xs.length:=by
 induction k with
 | zero=>simp
 | succ k ih=>rw [replicate_succ,flatten_cons,length_append,ih,Nat.succ_mul,Nat.add_comm]
theorem Ol:OpR X (binaryOp .Mult) Ul:=by
 intro pins s σ H x y v u Q I rx ry h;obtain ⟨l,k,xs,rfl,rfl,hH,h1,h2,hz,q⟩:=h;cases rx;obtain ⟨t,rfl⟩:=ry;obtain ⟨z,its,n,r,hl,e⟩:=I.BK hH;have hlen:its.toArray.size*k.toNat≤sizeLine:=by rw [size_toArray,← hl]; exact hz
 have hcap:¬ its.toArray.size*k.toNat > (2 ^ 63-1) / 8:=by
  have:(sizeLine:Nat)≤(2 ^ 63-1) / 8:=by decide
  omega
 have hfit:¬ (!Builtin.List.listFitsIndex k)=true:=by
  rw [fitsIndex_both h1 h2];exact Bool.false_ne_true
 have hlong:¬ Builtin.List.listTooLong (its.toArray.size*k.toNat)=true:=by
  rw [zG hlen];exact Bool.false_ne_true
 have hnew:foldl (fun x1 x2=>x1++x2) #[] (replicate (if its.toArray.isEmpty=true then 0 else k.toNat) its.toArray)=(replicate k.toNat its).flatten.toArray:=by
  have f0:∀ m:Nat,foldl (fun x1 x2=>x1++x2) #[] (replicate m its.toArray)=(replicate m its).flatten.toArray:=fun m=>by
   have:=foldl_rep its m [];rw [nil_append] at this;exact this
  rw [f0];cases its with
  | nil=>simp
  | cons a r'=>rw [if_neg (by simp)]
 refine wpAny_binaryOp_repeat_ref (T:="list") (U:="int") (by decide) ⟨_,e,rfl⟩ (fun s'=>typeIs_int s' k t) noFill_list_mul F.fills_int_mul F.slot_int_rmul repeat_list F.slot_int_index.lookup
  (call_meets F.slot_int_rmul (typeIs_int s k t) F.entry_int_rmul (F.args_int_rmul_2 _ _) (int___rmul___int_list k t l its.toArray n)
   ⟨e,rfl,⟨_,e,rfl⟩,call_meets F.slot_list_mul ⟨_,e,rfl⟩ F.entry_list_mul (F.args_list_mul_2 _ _) (AutoListH.list___mul___list_int_3 l its.toArray n k t hfit hcap hlong) ⟨e,?_⟩⟩)
 rw [hnew];exact ⟨.ref _,_,I.Q8 (t':=s.toks) (r.rep k.toNat) (by rw [len_rep,mul_comm]; exact hz),rfl,q _ I.fresh⟩
end
section
variable {prog:Program}{w:World}{A:Around}{E:Value→Shared→Prop}{s:Shared}
end
section
variable {X:Cx}
end
end L2
namespace L2
open PySem PySem.Spec PyProof.Rows
theorem Vals.ints:∀ {ns:List Int} {us:List Value},Vals (ns.map V.int) us→IntsAre us ns
 | [],us,h=>by
  rw [map_nil] at h;cases h;exact IntsAre.nil
 | n::ns,us,h=>by
  rw [map_cons] at h;cases h with
  | cons r t=>
   obtain ⟨k,rfl⟩:=r;exact IntsAre.cons n k (Vals.ints t)
theorem Vals.bls:∀ {bs:List Bool} {us:List Value},Vals (bs.map V.bl) us→us=bs.map Value.bool
 | [],us,h=>by
  rw [map_nil] at h;cases h;rfl
 | b::bs,us,h=>by
  rw [map_cons] at h;cases h with
  | cons r t=>
   cases r;rw [Vals.bls t,map_cons]
theorem Vals.Om{a:Addr}{us:List Value}(r:Vals [V.ref a] us):us=[Value.ref a]:=by
 cases r with
 | cons r t=>
  cases t;cases r;rfl
section
variable {prog:Program}{w:World}{A:Around}{E:Value→Shared→Prop}{s:Shared}{l:Addr}{its:List Value}{ns:List Int}{Q:Value→Shared→Prop}
theorem Lq(hh:A.handled=none)(hl:s.heap.IsList l its.toArray)(hi:IntsAre its ns)
  (h:∀ h' tk t',(∀ b o,s.heap.get? b=some o→h'.get? b=some o)→Q (.int ns.sum t') { s with heap:=h',toks:=tk }):wpAny (model prog w) A (call (.builtin "sum") [.ref l]) Q E s:=by
 obtain ⟨xs,e⟩:=hi.allInts.items;have hn:numsOf (intItems xs).toList=ns:=by rw [← e]; exact hi.numsOf
 rw [nums_intItems] at hn;rw [e] at hl;refine PySem.sum_intListG hh hl fun h' tk t' hk=>?_;have:=h h' tk t' hk;rw [preSum_eq,take_of_length_le (by simp),hn]; exact this
theorem Lr(hh:A.handled=none)(hl:s.heap.IsList l its.toArray)(hi:IntsAre its ns)(hne:0<ns.length)
  (h:∀ h' tk M t',(∀ b o,s.heap.get? b=some o→h'.get? b=some o)→M∈ns→(∀ a,a∈ns→M≤a)→Q (.int M t') { s with heap:=h',toks:=tk }):wpAny (model prog w) A (call (.builtin "min") [.ref l]) Q E s:=by
 obtain ⟨xs,e⟩:=hi.allInts.items;have hn:numsOf (intItems xs).toList=ns:=by rw [← e]; exact hi.numsOf
 rw [nums_intItems] at hn;subst hn;rw [e] at hl;have hsz:0<xs.size:=by simpa using hne
 refine PySem.min_intList hh hl hsz fun v h' tk hv hk=>?_;obtain ⟨t,rfl⟩:=intItems_at hv;obtain ⟨h1,h2⟩:=argBest_lt (numAt xs) (xs.size-1);refine h h' tk _ t hk ?_ fun a ha=>?_
 ·rw [numAt_eq]; exact PySem.getD_mem (by rw [length_map,length_toList]; omega)
 ·obtain ⟨j,hj,rfl⟩:=mem_getD ha;rw [length_map,length_toList] at hj;rw [← numAt_eq]; exact h2 j (by omega)
end
section
variable {X:Cx}
def Um(K:PySem.W.Frag):List V→Hp→VK→Prop:=fun vs H Q=>∃ (a:Addr) (ns:List Int),vs=[V.ref a]∧SqL K H a (ns.map V.int)∧Q (.int ns.sum) H
def Uo(K:PySem.W.Frag):List V→Hp→VK→Prop:=fun vs H Q=>∃ (a:Addr) (ns:List Int),vs=[V.ref a]∧SqL K H a (ns.map V.int)∧0<ns.length∧∀ m,m∈ns→(∀ y,y∈ns→m≤y)→Q (.int m) H
theorem Oo(hc:X.calm=true):gm X (.builtin "sum") (Um X.K):=by
 intro pins s σ H vs us Q I r h;obtain ⟨a,ns,rfl,hs,q⟩:=h;obtain ⟨its,rv,hl,_⟩:=I.list hs;rw [Vals.Om r];exact Lq (I.ok.hd hc) hl.isList rv.ints fun h' tk t' hk=>⟨.int _,H,I.kept hk,⟨_,rfl⟩,q⟩
theorem Oq(hc:X.calm=true):gm X (.builtin "min") (Uo X.K):=by
 intro pins s σ H vs us Q I r h;obtain ⟨a,ns,rfl,hs,hne,q⟩:=h;obtain ⟨its,rv,hl,_⟩:=I.list hs;rw [Vals.Om r];exact Lr (I.ok.hd hc) hl.isList rv.ints hne fun h' tk m t' hk h1 h2=>⟨.int _,H,I.kept hk,⟨_,rfl⟩,q m h1 h2⟩
end
theorem HR{prog:Program}{w:World}{A:Around}{E:Value→Shared→Prop}{s:Shared}{l:Addr}{items:Array Value}{Q:Value→Shared→Prop}(hl:s.heap.IsList l items)
  (h:∀ s₂:Shared,s₂={ s with heap:=s.heap.push { cls:=.type "list_iterator",data:=.fields #[.ref l,.int 0 0] } } →
   (s₂.heap.IsListIter s.heap.objs.size l 0∧s₂.heap.IsList l items)→l≠s.heap.objs.size→Q (.ref s.heap.objs.size) s₂):wpAny (model prog w) A (pyIter (.ref l)) Q E s:=by
 have hlt:l<s.heap.objs.size:=by obtain ⟨_,e,_⟩:=hl; exact Heap.lt_size e
 exact wpAny_pyIter_list hl (h _ rfl ⟨⟨_,Heap.get?_push_size _ rfl,rfl,rfl⟩,hl.push _⟩ (ne_of_lt hlt))
theorem zH{prog:Program}{w:World}{A:Around}{bs:List Bool}{its:List Value}(e:its=bs.map Value.bool) :
  TruthOf prog w A (fun i v=>its.toArray[i]? = some v) (fun i=>bs.getD i false):=fun i v s Q E hv hq=>by
 have hv':its[i]? = some v:=by simpa using hv
 rw [e,getElem?_map] at hv';obtain ⟨b,hb,rfl⟩:=Option.map_eq_some_iff.mp hv';have hg:bs.getD i false=b:=by rw [getD_eq_getElem?_getD,hb] <;> rfl
 have hq':Q (bs.getD i false) s:=hq;rw [hg] at hq';exact wpAny_truthy_bool hq'
theorem all_range:∀ bs:List Bool,(List.range bs.length).all (fun i=>bs.getD i false)=bs.all id
 | []=>rfl
 | b::bs=>by
  rw [length_cons,range_succ_eq_map,all_cons,all_map,all_cons,← all_range bs]
  all_goals rfl
section
variable {X:Cx}
def Q9(K:PySem.W.Frag):List V→Hp→VK→Prop:=fun vs H Q=>∃ (a:Addr) (bs:List Bool),vs=[V.ref a]∧SqL K H a (bs.map V.bl)∧Q (.bl (bs.all id)) H
theorem BM(hc:X.calm=true):gm X (.builtin "all") (Q9 X.K):=by
 intro pins s σ H vs us Q I r h;obtain ⟨a,bs,rfl,hs,q⟩:=h;obtain ⟨its,rv,hl,_⟩:=I.list hs;rw [Vals.Om r];have hb:=rv.bls;refine call_all_walk (HR hl.isList fun s₂ e2 st hne=>?_);subst e2;refine ⟨_,_,_,_,_,_,_,rfl,Walks.list (A:=X.A.in1) (I.ok.hd hc) _ a hne its.toArray,st,zH hb,fun h' tk hk=>?_⟩;refine ⟨.bl _,H,I.kept fun b o eo=>hk b o (fun hmem=>?_) (Heap.get?_push_of_some _ eo),?_,q⟩
 ·rcases mem_cons.mp hmem with e1 | hmem
  ·exact absurd (e1 ▸ Heap.lt_size eo) (lt_irrefl _)
  ·cases hmem
 ·show Value.bool _=Value.bool _;rw [← all_range,hb,size_toArray,length_map]
end
mutual
inductive Dp(K:PySem.W.Frag)(H:Hp):V→PyData→Prop
 | non:Dp K H .non .none
 | bl (b:Bool):Dp K H (.bl b) (.bool b)
 | int (i:Int):Dp K H (.int i) (.int i)
 | str (x:Str):Dp K H (.str x) (.str x)
 | lst {a:Addr} {xs:List V} {ds:List PyData}:SqL K H a xs→sS K H xs ds→Dp K H (.ref a) (.list ds)
 | tup {a:Addr} {xs:List V} {ds:List PyData}:SqT K H a xs→sS K H xs ds→Dp K H (.ref a) (.tuple ds)
inductive sS(K:PySem.W.Frag)(H:Hp):List V→List PyData→Prop
 | nil:sS K H [] []
 | cons {v:V} {vs:List V} {d:PyData} {ds:List PyData}:Dp K H v d→sS K H vs ds→sS K H (v::vs) (d::ds)
end
section
variable {X:Cx}{pins:List (Addr×Obj)}{σ:St}{H:Hp}{s:Shared}
mutual
theorem Dp.reads(I:Inv X pins σ H s):∀ (d:PyData) (v:V) (u:Value),Dp X.K H v d→RelV v u→∃ as,Reads s.heap u d as
 | .none,_,_,h,r=>by
  cases h;cases r;exact ⟨_,Reads.none⟩
 | .bool b,_,_,h,r=>by
  cases h;cases r;exact ⟨_,Reads.bool b⟩
 | .int i,_,_,h,r=>by
  cases h;obtain ⟨t,rfl⟩:=r;exact ⟨_,Reads.int i t⟩
 | .str x,_,_,h,r=>by
  cases h;obtain ⟨t,rfl⟩:=r;exact ⟨_,Reads.str x t⟩
 | .list ds,_,_,h,r=>by
  cases h with
  | lst hs ha=>
   cases r;obtain ⟨its,rv,⟨o,n,ho,hc,_,hd⟩,_⟩:=I.list hs;obtain ⟨as,hr⟩:=Dp.readsAll I ds _ its ha rv;exact ⟨_,Reads.list ho hc hd hr⟩
 | .tuple ds,_,_,h,r=>by
  cases h with
  | tup hs ha=>
   cases r;obtain ⟨its,rv,⟨o,ho,hc,n,hd⟩,_⟩:=I.tuple hs;obtain ⟨as,hr⟩:=Dp.readsAll I ds _ its ha rv;exact ⟨_,Reads.tuple ho hc hd hr⟩
 | .dict _,_,_,h,_=>by cases h
theorem Dp.readsAll(I:Inv X pins σ H s):∀ (ds:List PyData) (vs:List V) (us:List Value),sS X.K H vs ds→Vals vs us→∃ as,ReadsAll s.heap us ds as
 | [],_,_,h,r=>by
  cases h;cases r;exact ⟨_,ReadsAll.nil⟩
 | d::ds,_,_,h,r=>by
  cases h with
  | cons h1 h2=>
   cases r with
   | cons r1 r2=>
    obtain ⟨as,q1⟩:=Dp.reads I d _ _ h1 r1;obtain ⟨bs,q2⟩:=Dp.readsAll I ds _ _ h2 r2;exact ⟨_,ReadsAll.cons q1 q2⟩
end
end
section
variable {X:Cx}
def Up(K:PySem.W.Frag):R2:=fun x y H Q=>∃ d e,Dp K H x d∧Dp K H y e∧SeqAt.shaped d=true∧SeqAt.shaped e=true∧Q (.bl (PyData.eqv d e)) H
theorem Ot(hu:X.A.units+64<cLine):OpR X (compareOp .Eq) (Up X.K):=by
 intro pins s σ H x y v u Q I rx ry h;obtain ⟨d,e,hd,he,sd,se,q⟩:=h;obtain ⟨as,r1⟩:=Dp.reads I d x v hd rx;obtain ⟨bs,r2⟩:=Dp.reads I e y u he ry;exact SeqAt.compareEq_shaped r1 r2 sd se hu ⟨.bl _,H,I,rfl,q⟩
end
end L2
namespace L2
open PySem PySem.Spec PyProof.Rows
abbrev HS(h:Heap)(c:Addr)(v:Option Value):Prop:=h.IsCell c v
def Uq(scope sc:Scope):Scope:=
 { scope with names:=scope.names.map fun (n,k)=>if (k == .free&&sc.kind == .function&&sc.names.lookup n==some .cell) then (n,.cell) else (n,k) }
def bY(cells:List (Str×Addr)):List (Str×NameKind)→List (Str×Addr)→List (Str×Addr)
 | [],acc=>acc
 | (n,k)::r,acc=>if k == .free then bY cells r ((n,(cells.lookup n).getD 0)::acc) else bY cells r acc
theorem oK(env:Env)(f:Str×NameKind→List (Str×Addr)→Sem (ForInStep (List (Str×Addr))))
  (hf:∀ n k c,f (n,k) c=if k == .free then (do let a ← cellOf env n; pure (.yield ((n,a)::c))) else pure (.yield c)) :
  ∀ (names:List (Str×NameKind)) (acc:List (Str×Addr)),(∀ y∈names,y.2 = .free→∃ c,env.cells.lookup y.1=some c)→forIn names acc f=pure (bY env.cells names acc)
 | [],acc,_=>by rw [List.forIn_nil]; rfl
 | (n,k)::r,acc,h=>by
  rw [List.forIn_cons,hf];have ih:=fun acc=>oK env f hf r acc fun y hy=>h y (mem_cons_of_mem _ hy);unfold bY;by_cases hk:(k==NameKind.free)=true
  ·rw [if_pos hk,if_pos hk];obtain ⟨c,hc⟩:=h (n,k) mem_cons_self (by simpa using hk);have e:cellOf env n=pure c:=by unfold cellOf; rw [hc]
   rw [e];have e2:(env.cells.lookup n).getD 0=c:=by rw [hc]; rfl
   rw [e2];exact ih _
  ·rw [if_neg hk,if_neg hk];exact ih _
theorem BN{scope:Scope}{env:Env}(h:∀ y∈scope.names,y.2 = .free→∃ c,env.cells.lookup y.1=some c):closureFor scope env=pure (bY env.cells scope.names []):=by
 simp only [closureFor];rw [oK env _ (fun n k c=>rfl) scope.names [] h];rfl
theorem mem_lookup{α:Type}:∀ {l:List (Str×α)} {n:Str} {c : α},(n,c)∈l→∃ c',l.lookup n=some c'
 | (k,v)::r,n,c,h=>by
  rw [lookup_cons];cases hb:n==k with
  | true=>exact ⟨_,rfl⟩
  | false=>
   rcases mem_cons.mp h with e | h
   ·cases e; simp at hb
   ·exact mem_lookup h
theorem gp{cells:List (Str×Addr)}:∀ {names:List (Str×NameKind)} {acc:List (Str×Addr)} {n:Str} {c:Addr},(n,c)∈bY cells names acc→(n,c)∈acc∨((n,.free)∈names∧c=(cells.lookup n).getD 0)
 | [],_,_,_,h=>.inl h
 | (m,k)::r,acc,n,c,h=>by
  unfold bY at h;split at h
  ·rename_i hk
   have hk:k = .free:=by simpa using hk
   rcases gp h with h | ⟨h1,h2⟩
   ·rcases mem_cons.mp h with e | h
    ·cases e; exact .inr ⟨hk ▸ mem_cons_self,rfl⟩
    ·exact .inl h
   ·exact .inr ⟨mem_cons_of_mem _ h1,h2⟩
  ·rcases gp h with h | ⟨h1,h2⟩
   ·exact .inl h
   ·exact .inr ⟨mem_cons_of_mem _ h1,h2⟩
theorem jJ{cells:List (Str×Addr)}:∀ {names:List (Str×NameKind)} {acc:List (Str×Addr)} {p:Str×Addr},p∈acc→p∈bY cells names acc
 | [],_,_,h=>h
 | (m,k)::r,acc,p,h=>by
  unfold bY;split
  ·exact jJ (mem_cons_of_mem _ h)
  ·exact jJ h
theorem jK{cells:List (Str×Addr)}:∀ {names:List (Str×NameKind)} {acc:List (Str×Addr)} {n:Str},(n,.free)∈names→(n,(cells.lookup n).getD 0)∈bY cells names acc
 | (m,k)::r,acc,n,h=>by
  unfold bY;rcases mem_cons.mp h with e | h
  ·cases e;exact jJ mem_cons_self
  ·split
   ·exact jK h
   ·exact jK h
theorem iI:∀ {names:List (Str×NameKind)} {h:Heap} {acc:List (Str×Addr)} {x:Str} {c:Addr},(x,c)∈cellsFrom h.objs.size names acc →
  (x,c)∈acc∨((x,.cell)∈names∧h.objs.size≤c∧HS (pushCells h names) c none)
 | [],_,_,_,_,h=>.inl h
 | (n,k)::r,h,acc,x,c,hm=>by
  unfold cellsFrom at hm;unfold pushCells;split at hm
  ·rename_i hk
   rw [if_pos hk];have hk:k = .cell:=by simpa using hk
   rw [← Heap.size_push h { cls:=.type "cell",data:=.cell none }] at hm;rcases iI hm with hm | ⟨h1,h2,h3⟩
   ·rcases mem_cons.mp hm with e | hm
    ·cases e;exact .inr ⟨hk ▸ mem_cons_self,le_refl _,_,pushCells_keeps r _ _ _ (Heap.get?_push_size _ rfl),rfl⟩
    ·exact .inl hm
   ·rw [Heap.size_push] at h2;exact .inr ⟨mem_cons_of_mem _ h1,le_of_succ_le h2,h3⟩
  ·rename_i hk
   rw [if_neg hk];rcases iI hm with hm | ⟨h1,h2,h3⟩
   ·exact .inl hm
   ·exact .inr ⟨mem_cons_of_mem _ h1,h2,h3⟩
theorem lu:∀ {names:List (Str×NameKind)} {n:Nat} {acc:List (Str×Addr)} {p:Str×Addr},p∈acc→p∈cellsFrom n names acc
 | [],_,_,_,h=>h
 | (m,k)::r,n,acc,p,h=>by
  unfold cellsFrom;split
  ·exact lu (mem_cons_of_mem _ h)
  ·exact lu h
theorem qa:∀ {names:List (Str×NameKind)} {n:Nat} {acc:List (Str×Addr)} {x:Str},(x,.cell)∈names→∃ c,(x,c)∈cellsFrom n names acc
 | (m,k)::r,n,acc,x,h=>by
  unfold cellsFrom;rcases mem_cons.mp h with e | h
  ·cases e;exact ⟨n,lu mem_cons_self⟩
  ·split
   ·exact qa h
   ·exact qa h
theorem qb:∀ {names:List (Str×NameKind)} {h:Heap} {acc:List (Str×Addr)} {x y:Str} {c:Addr},(∀ p∈acc,p.2<h.objs.size)→(∀ x y c,(x,c)∈acc→(y,c)∈acc→x=y) →
  (x,c)∈cellsFrom h.objs.size names acc→(y,c)∈cellsFrom h.objs.size names acc→x=y
 | [],_,_,_,_,_,_,hi,h1,h2=>hi _ _ _ h1 h2
 | (n,k)::r,h,acc,x,y,c,hl,hi,h1,h2=>by
  unfold cellsFrom at h1 h2;split at h1
  ·rename_i hk
   rw [if_pos hk] at h2;rw [← Heap.size_push h { cls:=.type "cell",data:=.cell none }] at h1 h2;refine qb (h:=h.push _) (fun p hp=>?_) (fun x y c a b=>?_) h1 h2
   ·rw [Heap.size_push];rcases mem_cons.mp hp with rfl | hp
    ·exact lt_succ_self _
    ·exact Nat.lt_succ_of_lt (hl p hp)
   ·rcases mem_cons.mp a with e | a <;> rcases mem_cons.mp b with e' | b
    ·cases e; cases e'; rfl
    ·cases e; exact absurd (hl _ b) (lt_irrefl _)
    ·cases e'; exact absurd (hl _ a) (lt_irrefl _)
    ·exact hi _ _ _ a b
  ·rename_i hk
   rw [if_neg hk] at h2;exact qb hl hi h1 h2
theorem zI{M:Model}{A:Around}{E:Value→Shared→Prop}{s:Shared}{scope:Scope}{globals:Addr}{closure:List (Str×Addr)}{qual:Str}{func:Option Addr}{code:Value}{around:Env}{builtins:Addr}{Q:Env→Shared→Prop}
  (h:Q (newEnv scope s.heap.objs.size globals (cellsFrom (s.heap.objs.size+1) scope.names closure) qual func code (some around) builtins)
   { s with heap:=pushCells (s.heap.push { cls:=.type "dict",data:=.dict #[] }) scope.names }) :
  wpAny M A (newFunctionEnv scope globals closure [] qual func code (some around) builtins) Q E s:=by
 simp only [newFunctionEnv,isSome_some,if_true];refine wpAny_bind (wpAny_alloc ?_);refine wpAny_bind (wpAny_layCells _ (fun n k c=>rfl) scope.names closure _ _ ?_);rw [show ({ s with heap:=s.heap.push { cls:=.type "dict",data:=.dict #[] } }:Shared).heap.objs.size=s.heap.objs.size+1 from Heap.size_push ..];rw [List.forIn_nil];exact wpAny_bind (wpAny_pure (wpAny_pure h))
theorem jL{sc:Scope}:∀ {names:List (Str×NameKind)} {x:Str} {k:NameKind},
  (names.map fun (n,k)=>if (k==NameKind.free&&sc.kind == .function&&sc.names.lookup n==some .cell) then (n,NameKind.cell) else (n,k)).lookup x=some k →
  ∃ k',names.lookup x=some k'∧(k=k'∨(k' = .free∧k = .cell))
 | [],_,_,h=>by simp at h
 | (n,k₀)::r,x,k,h=>by
  have ih:=@jL sc r x k;have h':List.lookup x ((if (k₀ == NameKind.free&&sc.kind == .function&&sc.names.lookup n==some .cell)=true then (n,NameKind.cell) else (n,k₀))::(r.map _))=some k:=h;cases hx:x==n with
  | true=>
   simp only [lookup_cons,hx];by_cases hc:(k₀ == NameKind.free&&sc.kind == .function&&sc.names.lookup n==some .cell)=true
   ·rw [if_pos hc] at h';simp only [lookup_cons,hx] at h';cases h';simp only [and_eq_true,beq_iff_eq] at hc;exact ⟨k₀,rfl,.inr ⟨hc.1.1,rfl⟩⟩
   ·rw [if_neg hc] at h';simp only [lookup_cons,hx] at h';cases h';exact ⟨_,rfl,.inl rfl⟩
  | false=>
   simp only [lookup_cons,hx];by_cases hc:(k₀ == NameKind.free&&sc.kind == .function&&sc.names.lookup n==some .cell)=true
   ·rw [if_pos hc] at h';simp only [lookup_cons,hx] at h';exact ih h'
   ·rw [if_neg hc] at h';simp only [lookup_cons,hx] at h';exact ih h'
structure zJ(N:List Str)(sc scope:Scope)(own:List (Str×Nat)):Prop where
 kind:scope.kind = .function
 uniq:∀ y∈scope.names,scope.names.lookup y.1=some y.2
 ix:∀ p∈own,N[p.2]? = some p.1
 free:∀ y∈scope.names,y.2 = .free→sc.names.lookup y.1=some .cell∨sc.names.lookup y.1=some .free
 own:∀ y∈scope.names,y.2 = .local∨y.2 = .cell→y.1∈own.map (·.1)∨y.1 ∉ N
def wipe(σ:St):List Nat→St
 | []=>σ
 | v::vs=>(wipe σ vs).set v none
theorem jM(σ:St):∀ vs:List Nat,(wipe σ vs).length=σ.length
 | []=>rfl
 | v::vs=>by unfold wipe; rw [length_set,jM σ vs]
theorem qc{σ:St}{i:Nat}{x:V}:∀ {vs:List Nat},(wipe σ vs)[i]? = some (some x)→σ[i]? = some (some x)∧i ∉ vs
 | [],h=>⟨h,by simp⟩
 | v::vs,h=>by
  unfold wipe at h;by_cases hi:v=i
  ·subst hi;by_cases hv:v<(wipe σ vs).length
   ·rw [getElem?_set_self hv] at h; cases h
   ·rw [getElem?_eq_none (by simpa using hv)] at h; cases h
  ·rw [getElem?_set_ne hi] at h;obtain ⟨h1,h2⟩:=qc h;exact ⟨h1,by simp only [mem_cons,not_or]; exact ⟨fun e=>hi e.symm,h2⟩⟩
abbrev Cx.blk(X:Cx)(s:Shared)(H:Hp)(scope:Scope)(cenv:Env)(fp:List Addr):Cx:={ X with s_0:=s,H_0:=H,env:=cenv,outer:=X.stack,ex:=fp,fn:=fun x=>scope.names.lookup x==some .cell,pn:=[],xe:=fun _ _=>False }
section
variable {X:Cx}{pins:List (Addr×Obj)}{σ:St}{H:Hp}{s:Shared}
theorem zK{scope:Scope}{own:List (Str×Nat)}{fp:List Addr}(I:Inv X pins σ H s)(ok:zJ X.N X.env.scope scope own)(hN:X.N.Nodup)(hfp:∀ b∈fp,sJ X pins H b∧b<s.heap.objs.size) :
  Inv (X.blk s H scope (compEnvC scope (cellsFrom (s.heap.objs.size+1) scope.names (bY X.env.cells scope.names [])) s.heap.objs.size X.env) fp) [] (wipe σ (own.map (·.2))) H { s with heap:=pushCells (s.heap.push { cls:=.type "dict",data:=.dict #[] }) scope.names }:=by
 have hfree:∀ y∈scope.names,y.2 = .free→∃ c,X.env.cells.lookup y.1=some c:=fun y hy e=>by
  rcases ok.free y hy e with k | k
  ·exact I.ok.has _ (.inl k)
  ·exact I.ok.has _ (.inr k)
 generalize hcenv:compEnvC scope (cellsFrom (s.heap.objs.size+1) scope.names (bY X.env.cells scope.names [])) s.heap.objs.size X.env=cenv;have kp:∀ b o,s.heap.get? b=some o→(pushCells (s.heap.push { cls:=.type "dict",data:=.dict #[] }) scope.names).get? b=some o:=fun b o e=>pushCells_keeps _ _ _ _ (Heap.get?_push_of_some _ e);have hL:cenv.locals=s.heap.objs.size:=by rw [← hcenv]; rfl
 have hcl:cenv.cells=cellsFrom (s.heap.objs.size+1) scope.names (bY X.env.cells scope.names []):=by rw [← hcenv]; rfl
 have hsc:cenv.scope=Uq scope X.env.scope:=by rw [← hcenv]; rfl
 rw [← Heap.size_push s.heap { cls:=.type "dict",data:=.dict #[] }] at hcl;have cm:∀ {y c},(y,c)∈bY X.env.cells scope.names []→X.env.cells.lookup y=some c∧c<s.heap.objs.size:=fun {y c} hm=>by
  rcases gp hm with hm | ⟨h1,rfl⟩
  ·cases hm
  ·obtain ⟨c,hc⟩:=hfree _ h1 rfl;rw [hc];obtain ⟨w,z⟩:=I.cell _ _ hc;exact ⟨rfl,z.lt⟩
 have mem:∀ {y c},cenv.cells.lookup y=some c→(X.env.cells.lookup y=some c∧c<s.heap.objs.size)∨(s.heap.objs.size+1≤c∧HS (pushCells (s.heap.push { cls:=.type "dict",data:=.dict #[] }) scope.names) c none):=fun {y c} e=>by
  rw [hcl] at e;rcases iI (PySem.mem_of_lookup e) with hm | ⟨_,h2,h3⟩
  ·exact .inl (cm hm)
  ·rw [Heap.size_push] at h2; exact .inr ⟨h2,h3⟩
 have look:∀ {y},scope.names.lookup y=some .free→∃ c,cenv.cells.lookup y=some c∧X.env.cells.lookup y=some c:=fun {y} hl=>by
  have hy:(y,NameKind.free)∈scope.names:=PySem.mem_of_lookup hl;obtain ⟨c',e'⟩:=mem_lookup (lu (names:=scope.names) (n:=(s.heap.push { cls:=.type "dict",data:=.dict #[] }).objs.size) (jK (cells:=X.env.cells) (acc:=[]) hy));rw [← hcl] at e';refine ⟨c',e',?_⟩;rw [hcl] at e';rcases iI (PySem.mem_of_lookup e') with hm | ⟨h1,_,_⟩
  ·exact (cm hm).1
  ·have:=ok.uniq _ h1;rw [hl] at this; cases this
 have okB:(X.blk s H scope cenv fp).Ok:=by
  refine ⟨I.ok.mod,by show cenv.scope.kind=_; rw [hsc]; exact ok.kind,by show cenv.globals=_; rw [← hcenv]; exact I.ok.glob,by show cenv.builtins=_; rw [← hcenv]; exact I.ok.blt,by show s.heap.objs.size≤cenv.locals; rw [hL]; exact le_refl _,
   fun y z c e1 e2=>?_,fun y hy=>?_,fun y c z e=>?_,I.ok.hd,I.ok.frames,.inl rfl,fun b hb=>⟨?_,fun y c e z=>?_⟩,I.bs,le_trans I.ok.bsz I.sz,fun b o e hb=>?_,fun b hb z=>?_,I.stack,I.xS⟩
  ·have e1:cenv.cells.lookup y=some c:=e1;have e2:cenv.cells.lookup z=some c:=e2;rw [hcl] at e1 e2;refine qb (fun p hp=>?_) (fun y z c a b=>I.ok.inj y z c (cm a).1 (cm b).1) (PySem.mem_of_lookup e1) (PySem.mem_of_lookup e2);rw [Heap.size_push];exact Nat.lt_succ_of_lt (cm (y:=p.1) (c:=p.2) hp).2
  ·show ∃ c,cenv.cells.lookup y=some c;have key:∀ k,cenv.kindOf y=some k→(k = .cell∨k = .free)→∃ c,cenv.cells.lookup y=some c:=fun k hk hk'=>by
    unfold Env.kindOf at hk;rw [hsc] at hk;obtain ⟨k',e,r⟩:=jL hk;have:k' = .cell∨k' = .free:=by
     rcases r with rfl | ⟨rfl,_⟩
     ·exact hk'
     ·exact .inr rfl
    rcases this with rfl | rfl
    ·obtain ⟨c,hm⟩:=qa (n:=(s.heap.push { cls:=.type "dict",data:=.dict #[] }).objs.size) (acc:=bY X.env.cells scope.names []) (PySem.mem_of_lookup e);obtain ⟨c',e'⟩:=mem_lookup hm;exact ⟨c',by rw [hcl]; exact e'⟩
    ·obtain ⟨c,h1,_⟩:=look e;exact ⟨c,h1⟩
   rcases hy with hy | hy
   ·exact key _ hy (.inl rfl)
   ·exact key _ hy (.inr rfl)
  ·have z:(scope.names.lookup y==some NameKind.cell)=true:=z;have z:scope.names.lookup y=some .cell:=by simpa using z
   have e:cenv.cells.lookup y=some c:=e;rw [hcl] at e;rcases iI (PySem.mem_of_lookup e) with hm | ⟨_,h2,_⟩
   ·rcases gp hm with hm | ⟨h1,_⟩
    ·cases hm
    ·have q:=ok.uniq _ h1;rw [z] at q; cases q
   ·rw [Heap.size_push] at h2;exact le_of_succ_le h2
  ·show b≠cenv.locals;rw [hL]; exact ne_of_lt (hfp b hb).2
  ·have e:cenv.cells.lookup y=some c:=e;rcases mem e with ⟨h1,_⟩ | ⟨h1,_⟩
   ·exact (hfp b hb).1.2.2.2.2.1 y c h1 z
   ·have h2:s.heap.objs.size+1≤b:=by rw [← z]; exact h1
    exact absurd (lt_of_lt_of_le (hfp b hb).2 (le_of_succ_le h2)) (lt_irrefl _)
  ·rcases (hfp b hb).1.2.2.2.1 with z | z
   ·exact I.ok.xQ b o e z
   ·exact absurd (lt_of_lt_of_le (Heap.lt_size e) (le_trans I.ok.bsz z)) (lt_irrefl _)
  ·rcases mem_cons.mp (I.Bx b z) with z | z
   ·exact (hfp b hb).1.2.1 z
   ·exact (hfp b hb).1.2.2.1 z
 refine ⟨okB,rfl,I.bare,Un.kept kp,⟨fun _=>none,?_,fun i y av e1 e2 e3=>?_⟩,fun y c e=>?_,?_,fun y c e=>?_,fun p hp=>?_,I.hok.kept kp,by rw [jM]; exact I.len⟩
 ·show Heap.Ns _ cenv.locals _;rw [hL];exact Heap.Ns.keeps (Heap.Ns.new ..) fun b o e=>pushCells_keeps _ _ _ _ e
 ·obtain ⟨e2,hne⟩:=qc e2;have hfr:scope.names.lookup y=some .free∧(cenv.kindOf y=some .cell∨cenv.kindOf y=some .free):=by
   have key:∀ k,cenv.scope.names.lookup y=some k→k = .local∨k = .cell∨k = .free→scope.names.lookup y=some .free∧(cenv.kindOf y=some .cell∨cenv.kindOf y=some .free):=fun k hk hk'=>by
    have hk0:=hk;rw [hsc] at hk;obtain ⟨k',e,r⟩:=jL hk;have no:¬ (k' = .local∨k' = .cell):=fun hh=>by
     rcases ok.own _ (PySem.mem_of_lookup e) hh with e' | e'
     ·obtain ⟨p,hp,hpy⟩:=mem_map.mp e';have e3:=ok.ix p hp;have:p.1=y:=hpy;rw [this] at e3;exact hne (mem_map.mpr ⟨p,hp,oA hN e3 e1⟩)
     ·exact e' (mem_of_getElem? e1)
    rcases r with rfl | ⟨rfl,rfl⟩
    ·rcases hk' with rfl | rfl | rfl
     ·exact absurd (.inl rfl) no
     ·exact absurd (.inr rfl) no
     ·exact ⟨e,.inr hk0⟩
    ·exact ⟨e,.inl hk0⟩
   have e3:Vis cenv.scope y:=e3;rcases e3 with e3 | e3 | e3
   ·exact key _ e3 (.inl rfl)
   ·exact key _ e3 (.inr (.inl rfl))
   ·exact key _ e3 (.inr (.inr rfl))
  obtain ⟨m,hn,hl⟩:=I.loc;have hvis:Vis X.env.scope y:=(ok.free _ (PySem.mem_of_lookup hfr.1) rfl).elim (fun k=>.inr (.inl k)) (fun k=>.inr (.inr k));obtain ⟨w,r,q⟩:=hl i y av e1 e2 hvis;refine ⟨w,r,.inr ⟨hfr.2,?_⟩⟩;obtain ⟨c,h1,h2⟩:=look hfr.1;rcases q with ⟨k,_⟩ | ⟨_,c',e',z⟩
  ·have k:X.env.scope.names.lookup y=some .local:=k;rcases ok.free _ (PySem.mem_of_lookup hfr.1) rfl with k' | k' <;> rw [show X.env.scope.names.lookup y=_ from k'] at k <;> cases k
  ·rw [h2] at e'; cases e';exact ⟨c,h1,z.keeps kp⟩
 ·have e:cenv.cells.lookup y=some c:=e;rcases mem e with ⟨h1,_⟩ | ⟨_,z⟩
  ·obtain ⟨w,z⟩:=I.cell y c h1;exact ⟨w,z.keeps kp⟩
  ·exact ⟨_,z⟩
 ·show H cenv.locals=none;rw [hL]; exact I.hok.fresh (le_refl _)
 ·have e:cenv.cells.lookup y=some c:=e;rcases mem e with ⟨h1,_⟩ | ⟨h1,_⟩
  ·exact I.dG y c h1
  ·exact I.hok.fresh (le_of_succ_le h1)
 ·exact absurd (show p∈([]:List (Addr×Obj))++[] from hp) (by simp)
theorem Ou{E:Value→Shared→Prop}{D:Addr}{xs:List V}{y:V}{v:Value}{Q:Value→Shared→Prop}(I:Inv X pins σ H s)(hD:H D=some (.lst xs))(hz:xs.length<sizeLine)(r:RelV y v)
  (h:∀ s',Inv X pins σ (upd H D (.lst (xs++[y]))) s'→Q .none s'):wpAny (model X.prog X.w) X.A (call (.builtin "list.append") [.ref D,v]) Q E s:=by
 obtain ⟨hz',its,n,ri,e⟩:=I.hok D _ hD;have hl:=ri.length;refine append_at (hsz:=by rw [size_toArray]; omega) e fun h' sb ho'=>?_;refine h { s with heap:=h' } (I.write (t':=s.toks) (by rw [hD]; trivial) (.inl rfl) (fun b u hb q=>(sb.2 b hb).trans q) ⟨_,ho'⟩ ⟨by rw [length_append]; exact hz,its++[v],n+1,ri.append (.cons r .nil),?_⟩);rw [ho'];simp
def PTs(X:Cx)(ifs:List Expr)(t:TT):Prop:=
 ∀ (pins:List (Addr×Obj)) (s:Shared) (σ:St) (H:Hp) (Q:Bool→Hp→Prop),Inv X pins σ H s→t σ H Q →
  wpAny (model X.prog X.w) X.A (forIn ifs true fun c r=>if r=true then do let ok ← isTrue c X.env (eval c X.env); pure (ForInStep.yield ok) else pure (ForInStep.yield r)) (TP X pins σ Q) X.xe s
def vp:TT:=fun _ H Q=>Q true H
theorem eM:PTs X [] vp:=fun _ _ _ H _ I h=>wpAny_tests_nil ⟨H,I,h⟩
theorem oM{c:Expr}{t:TT}(h:PT X c t):PTs X [c] t:=fun pins s σ H Q I hw=>wpAny_tests_one (h pins s σ H Q I hw)
end
theorem FK{α:Type}{t:Sem α}{Q Q' : α→Shared→Prop}{M:Model}{A:Around}{E:Value→Shared→Prop}{s:Shared}(h:wpAny M A t Q (fun _ _=>False) s)(hQ:∀ a s,Q a s→Q' a s):wpAny M A t Q' E s:=wpAny_mono h hQ fun _ _ z=>False.elim z
theorem yb{prog:Program}{w:World}{A:Around}{R:Result→Shared→Prop}{s:Shared}{elt target iter:Expr}{ifs:List Expr}{scope:Scope}{pos:Pos}{it acc:Value}{env:Env}(I:Nat→Shared→Prop)
  (turn:∀ n s,I n s→wpAny (model prog w) A (pyNext it) (fun r s₁=>match r with
   | none=>R (.ok .next) s₁
   | some v=>wpAny (model prog w) A (letOwnedTupleGo target it v) (fun _ s₁'=>wpAny (model prog w) A (assign target env v) (fun _ s₂=>
     wpAny (model prog w) A (forIn ifs true fun c r=>if r=true then do let ok ← isTrue c env (eval c env); pure (ForInStep.yield ok) else pure (ForInStep.yield r)) (fun ok s₃=>
      if ok=true then wpAny (model prog w) A (eval elt env) (fun x s₄=>
       wpAny (model prog w) A (call (.builtin "list.append") [acc,x]) (fun _ s₅=>∃ m,m<n∧I m s₅) (notedBy (model prog w) A env fun e s'=>R (.error e) s') s₄) (notedBy (model prog w) A env fun e s'=>R (.error e) s') s₃
      else ∃ m,m<n∧I m s₃) (notedBy (model prog w) A env fun e s'=>R (.error e) s') s₂) (notedBy (model prog w) A env fun e s'=>R (.error e) s') s₁') (notedBy (model prog w) A env fun e s'=>R (.error e) s') s₁) (notedBy (model prog w) A env fun e s'=>R (.error e) s') s)
  (n:Nat) (h:I n s) :
  codeAny (model prog w) A (.compLoop (.ListComp elt [⟨target,iter,ifs,0⟩] scope pos) 0 it acc env) R s:=by
 refine codeAny_loop rfl I (fun n s hI=>?_) n h;show wpAny _ A ((compTurn (.ListComp elt [⟨target,iter,ifs,0⟩] scope pos) 0 it acc env).onRaise (fun x=>do noteFrame x env; theTreesLotGoes x)) _ _ s;refine wpAny_noted ?_;rw [compTurn_list];refine wpAny_bind (wpAny_standAt (wpAny_bind (wpAny_mono (turn n s hI) (fun r s₁ h₁=>?_) fun _ _ h'=>h')));cases r with
 | none=>exact wpAny_pure h₁
 | some v=>
  refine wpAny_bind (wpAny_mono h₁ (fun _ s₁' h₁'=>?_) fun _ _ h'=>h');refine wpAny_bind (wpAny_mono h₁' (fun _ s₂ h₂=>wpAny_bind (wpAny_mono h₂ (fun ok s₃ h₃=>?_) fun _ _ h'=>h')) fun _ _ h'=>h');cases ok with
  | false=>exact wpAny_pure ⟨rfl,h₃⟩
  | true=>
   exact wpAny_bind (wpAny_bind (wpAny_mono h₃ (fun x s₄ h₄=>wpAny_bind (wpAny_mono h₄ (fun _ s₅ h₅=>wpAny_pure (wpAny_pure ⟨rfl,h₅⟩)) fun _ _ h'=>h')) fun _ _ h'=>h'))
section
variable {X:Cx}
def tLc(wi:TI)(g:TG)(tt:TT)(te:TE)(vs:List Nat):TE:=fun σ H Q=>wi σ H fun J H1=>∀ D,H1 D=none→∃ W:Nat→Nat→Hp→Prop,(∃ m,W 0 m (upd H1 D (.lst [])))∧∀ i m H,W i m H →
 (J.stop i H∧Q (.ref D) H)∨(J.go i H∧∃ Nx:Hp→Prop,(∀ H',Nx H'→∃ m',m'<m∧W (i+1) m' H')∧∀ x H',J.yld i H x H'→g x (wipe σ vs) H' fun σ2 H2=>wipe σ2 vs=wipe σ vs∧tt σ2 H2 fun b H3=>
  if b=true then te σ2 H3 fun y H4=>∃ acc,H4 D=some (.lst acc)∧acc.length<sizeLine∧Nx (upd H4 D (.lst (acc++[y]))) else Nx H3)
theorem Eu{pins:List (Addr×Obj)}{s:Shared}{σ:St}{H:Hp}{Q:VK}{elt tg iter:Expr}{ifs:List Expr}{scope:Scope}{own:List (Str×Nat)}{pos pos':Pos}{wi:TI}{g:TG}{tt:TT}{te:TE}{use:Option (Value→Sem Unit)}{Qf:Value→Shared→Prop}
  (hc:X.calm=true) (hN:X.N.Nodup) (I:Inv X pins σ H s) (hi:PI X tg iter wi) (ok:zJ X.N X.env.scope scope own)
  (hg:∀ (s:Shared) (H:Hp) (C:Addr) (cl:List (Str×Addr)) (fp:List Addr),PG (X.blk s H scope (compEnvC scope cl C X.env) fp) tg g) (ht:∀ (s:Shared) (H:Hp) (C:Addr) (cl:List (Str×Addr)) (fp:List Addr),PTs (X.blk s H scope (compEnvC scope cl C X.env) fp) ifs tt)
  (he:∀ (s:Shared) (H:Hp) (C:Addr) (cl:List (Str×Addr)) (fp:List Addr),PE (X.blk s H scope (compEnvC scope cl C X.env) fp) elt te) (hs:∀ x,foldedSetIterable iter X.env x=pure x)
  (h:tLc wi g tt te (own.map (·.2)) σ H Q)
  (hRR:∀ D C s' m H',Inv X pins σ H' s'→Q (.ref D) H'→s'.heap.Ns C m→sJ X pins H' C→compPost (model X.prog X.w) X.A X.xe use Qf (.ref D) C (.ok .next) s') :
  wpAny (model X.prog X.w) X.A (comprehension (.ListComp elt [⟨tg,iter,ifs,0⟩] scope pos) scope X.env pos' (newList []) false (eval iter X.env) use) Qf X.xe s:=by
 have hfree:∀ y∈scope.names,y.2 = .free→∃ c,X.env.cells.lookup y.1=some c:=fun y hy e=>by
  rcases ok.free y hy e with k | k
  ·exact I.ok.has _ (.inl k)
  ·exact I.ok.has _ (.inr k)
 refine wpAny_comprehension_free (use:=use) rfl hs (BN hfree) ok.kind (fun y hy e=>by rw [ok.uniq y hy,e])
  (thn (hi pins s σ H _ I h) fun xv s1 hx=>thn hx fun itv s2 h2=>?_)
 obtain ⟨it,fp,tn,J,H2,e,I2,T,st2,f2,q⟩:=h2;subst e;refine wpAny_newObj_type (zI ?_) (by show 0≤sizeLine; decide);generalize hD:s2.heap.objs.size=D;have hDn:H2 D=none:=I2.hok.fresh (le_of_eq hD);obtain ⟨W,⟨m0,w0⟩,turn⟩:=q D hDn;generalize hs3:({ s2 with heap:=s2.heap.push { cls:=.type "list",data:=.seq ([]:List Value).toArray } }:Shared)=s3;have I3:Inv X pins σ (upd H2 D (.lst [])) s3:=by
  rw [← hs3];refine I2.laid (t':=s2.toks) (fun b o e=>Heap.get?_push_of_some _ e) (le_of_eq hD) ⟨zero_le _,[],0,.nil,?_⟩;rw [← hD];exact Heap.get?_push_size _ rfl
 have h3:s3.heap=s2.heap.push { cls:=.type "list",data:=.seq ([]:List Value).toArray }:=by rw [← hs3]
 have sz:∀ b∈fp,b<s2.heap.objs.size:=fun b hb=>by
  obtain ⟨o,e,_⟩:=T.obj _ _ st2 b hb;exact Heap.lt_size e
 have f3:∀ b∈fp,sJ X pins (upd H2 D (.lst [])) b∧b<s3.heap.objs.size:=fun b hb=>by
  have hlt:=sz b hb;refine ⟨⟨?_,(f2 b hb).2⟩,by rw [h3,Heap.size_push]; exact Nat.lt_succ_of_lt hlt⟩;rw [aq (by rw [← hD]; exact ne_of_lt hlt)];exact (f2 b hb).1
 have st3:tn 0 s3.heap:=T.keep _ _ _ st2 fun b _ o e=>by rw [h3]; exact Heap.get?_push_of_some _ e
 have I4:=zK I3 ok hN f3;have pg:=hg s3 (upd H2 D (.lst [])) s3.heap.objs.size (cellsFrom (s3.heap.objs.size+1) scope.names (bY X.env.cells scope.names [])) fp;have pt:=ht s3 (upd H2 D (.lst [])) s3.heap.objs.size (cellsFrom (s3.heap.objs.size+1) scope.names (bY X.env.cells scope.names [])) fp;have pe:=he s3 (upd H2 D (.lst [])) s3.heap.objs.size (cellsFrom (s3.heap.objs.size+1) scope.names (bY X.env.cells scope.names [])) fp;show codeAny _ _ (.compStart (.ListComp elt [⟨tg,iter,ifs,0⟩] scope pos) 0 (.ref it) (.ref D) (compEnvC scope (cellsFrom (s3.heap.objs.size+1) scope.names (bY X.env.cells scope.names [])) s3.heap.objs.size X.env)) (compPost (model X.prog X.w) X.A X.xe use Qf (.ref D) s3.heap.objs.size) { s3 with heap:=pushCells (s3.heap.push { cls:=.type "dict",data:=.dict #[] }) scope.names };have nfp:∀ b∈fp,(upd H2 D (.lst [])) b=none:=fun b hb=>(f3 b hb).1.1;generalize hce:compEnvC scope (cellsFrom (s3.heap.objs.size+1) scope.names (bY X.env.cells scope.names [])) s3.heap.objs.size X.env=ce at I4 pg pt pe ⊢;have cL:ce.locals=s3.heap.objs.size:=by subst hce; rfl
 generalize hH3:upd H2 D (.lst [])=H3 at I3 I4 pg pt pe w0 nfp f3;generalize hs4:({ s3 with heap:=pushCells (s3.heap.push { cls:=.type "dict",data:=.dict #[] }) scope.names }:Shared)=s4 at I4 ⊢;have st4:tn 0 s4.heap:=T.keep _ _ _ st3 fun b _ o e=>by rw [← hs4]; exact pushCells_keeps _ _ _ _ (Heap.get?_push_of_some _ e)
 have stat:∀ {σ':St} {H':Hp} {s':Shared},Inv (X.blk s3 H3 scope ce fp) [] σ' H' s'→(∀ b∈fp,H' b=none)→∀ b∈fp,sJ (X.blk s3 H3 scope ce fp) [] H' b:=fun {σ' H' s'} I' hn b hb=>
  ⟨hn b hb,(I'.ok.exf b hb).1,I'.ok.xR b hb,.inl hb,fun x c e=>(I'.ok.exf b hb).2 x c e,fun p hp=>absurd (show p∈([]:List (Addr×Obj))++[] from hp) (by simp)⟩
 have loop:codeAny (model X.prog X.w) X.A (.compLoop (.ListComp elt [⟨tg,iter,ifs,0⟩] scope pos) 0 (.ref it) (.ref D) ce) (compPost (model X.prog X.w) X.A X.xe use Qf (.ref D) s3.heap.objs.size) s4:=by
  refine yb (fun n s'=>∃ i H',Inv (X.blk s3 H3 scope ce fp) [] (wipe σ (own.map (·.2))) H' s'∧tn i s'.heap∧(∀ b∈fp,H' b=none)∧W i n H') ?_ m0 ⟨0,H3,I4,st4,nfp,w0⟩;rintro n s5 ⟨i,H5,I5,st5,n5,w5⟩;rcases turn i n H5 w5 with ⟨stop,qq⟩ | ⟨go,Nx,hNx,step⟩
  ·have td:=T.done (X.blk s3 H3 scope ce fp) rfl rfl rfl hc i [] s5 _ H5 (fun _ _=>False) I5 (stat I5 n5) st5 stop;refine FK td fun r s6 hq__=>?_;obtain ⟨hr,I6⟩:=hq__; subst hr;have I7:Inv X pins σ H5 s6:=I3.Nh (ch:=fp) I6.os I6.base I6.hok I6.bare fun b hb=>⟨(f3 b hb).1.2.2.2.1,(f3 b hb).1.2.1,(f3 b hb).1.2.2.2.2.1,(f3 b hb).1.2.2.2.2.2⟩;have nC:H5 s3.heap.objs.size=none:=by
    have z:H5 ce.locals=none:=I6.free;rw [cL] at z;exact z
   obtain ⟨m,hn,_⟩:=I6.loc;have hn:s6.heap.Ns ce.locals m:=hn;rw [cL] at hn;exact hRR D s3.heap.objs.size s6 m H5 I7 qq hn (I3.FC (le_refl _) nC)
  ·have ti:=T.item (X.blk s3 H3 scope ce fp) rfl rfl rfl hc i [] s5 _ H5 (fun _ _=>False) I5 (stat I5 n5) st5 go;refine FK ti fun r s6 hq__=>?_;obtain ⟨u,hr,h6⟩:=hq__; subst hr;refine FK h6 fun _ s7 hq__=>?_;obtain ⟨x,H7,I7,r7,y7,st7,n7⟩:=hq__; have I7':=I7.pinned (stat I7 n7) (T.obj _ _ st7);refine FK (pg _ s7 _ H7 x u _ I7' r7 (step x H7 y7)) fun _ s8 hq__=>?_;obtain ⟨σ8,H8,I8,hw8,q8⟩:=hq__; refine FK (pt _ s8 σ8 H8 _ I8 q8) fun b s9 ⟨H9,I9,q9⟩=>?_;have fin:∀ {s':Shared} {H':Hp},Inv (X.blk s3 H3 scope ce fp) ([]++sL fp s7.heap) σ8 H' s'→Nx H'→∃ m,m<n∧∃ i H',Inv (X.blk s3 H3 scope ce fp) [] (wipe σ (own.map (·.2))) H' s'∧tn i s'.heap∧(∀ b∈fp,H' b=none)∧W i m H':=fun {s' H'} I' nx=>by
    obtain ⟨m',hm,w'⟩:=hNx H' nx;have pin':∀ b∈fp,∀ o,s7.heap.get? b=some o→s'.heap.get? b=some o∧H' b=none:=fun b hb o e=>
     let z:=I'.pin (b,o) (mem_append_right _ (mem_append_right _ (mm hb e)))
     ⟨z.1,z.2.1⟩
    have hl:(wipe σ (own.map (·.2))).length=σ8.length:=by rw [← hw8,jM]
    refine ⟨m',hm,i+1,H',(I'.oF (pins:=[])).weak hl (fun j v e=>?_),T.keep _ _ _ st7 fun b hb o e=>(pin' b hb o e).1,fun b hb=>?_,w'⟩
    ·rw [← hw8] at e;exact (qc e).1
    ·obtain ⟨o,e,_⟩:=T.obj _ _ st7 b hb;exact (pin' b hb o e).2
   cases b with
   | false=>
    simp only [Bool.false_eq_true,if_false] at q9 ⊢;exact fin I9 q9
   | true=>
    simp only [if_true] at q9 ⊢;refine FK (pe _ s9 σ8 H9 _ I9 q9) fun z s10 hq__=>?_;obtain ⟨yv,H10,I10,r10,acc,hD10,hz10,nx⟩:=hq__; exact Ou (X:=X.blk s3 H3 scope ce fp) I10 hD10 hz10 r10 fun s11 I11=>fin I11 nx
 exact codeAny_compStart_list loop (T.self X.A 0 _ _ _ st4 loop)
theorem lW{elt tg iter:Expr}{ifs:List Expr}{scope:Scope}{own:List (Str×Nat)}{pos:Pos}{wi:TI}{g:TG}{tt:TT}{te:TE}(hc:X.calm=true)(hN:X.N.Nodup)(hi:PI X tg iter wi)(ok:zJ X.N X.env.scope scope own)
  (hg:∀ (s:Shared) (H:Hp) (C:Addr) (cl:List (Str×Addr)) (fp:List Addr),PG (X.blk s H scope (compEnvC scope cl C X.env) fp) tg g) (ht:∀ (s:Shared) (H:Hp) (C:Addr) (cl:List (Str×Addr)) (fp:List Addr),PTs (X.blk s H scope (compEnvC scope cl C X.env) fp) ifs tt)
  (he:∀ (s:Shared) (H:Hp) (C:Addr) (cl:List (Str×Addr)) (fp:List Addr),PE (X.blk s H scope (compEnvC scope cl C X.env) fp) elt te) (hs:∀ x,foldedSetIterable iter X.env x=pure x:=by intro _; rfl) :
  PE X (.ListComp elt [⟨tg,iter,ifs,0⟩] scope pos) (tLc wi g tt te (own.map (·.2))):=by
 intro pins s σ H Q I h;rw [eval_ListComp];refine Eu hc hN I hi ok hg ht he hs h fun D C s' m H' I' q hn f=>⟨m,hn,fun h'' sb=>?_⟩;obtain ⟨f0,f1,f2,f3,f4,f5⟩:=f;exact ⟨.ref D,H',I'.turned (t':=s'.toks) (fun b o hb e=>(sb.2 b hb).trans e) f0 f1 f3 f4 f5,rfl,q⟩
theorem oN{i:Nat}{y:Str}{py:Pos}{elt tg iter:Expr}{ifs:List Expr}{scope:Scope}{own:List (Str×Nat)}{pos spos:Pos}{wi:TI}{g:TG}{tt:TT}{te:TE}(hc:X.calm=true)(hN:X.N.Nodup)(hy:X.N[i]? = some y)(hyl:X.env.scope.names.lookup y=some .local)
  (hsw:swapsWith (.ListComp elt [⟨tg,iter,ifs,0⟩] scope pos) (some (.Name y py)) spos.line X.env=pure true) (hi:PI X tg iter wi) (ok:zJ X.N X.env.scope scope own)
  (hg:∀ (s:Shared) (H:Hp) (C:Addr) (cl:List (Str×Addr)) (fp:List Addr),PG (X.blk s H scope (compEnvC scope cl C X.env) fp) tg g) (ht:∀ (s:Shared) (H:Hp) (C:Addr) (cl:List (Str×Addr)) (fp:List Addr),PTs (X.blk s H scope (compEnvC scope cl C X.env) fp) ifs tt)
  (he:∀ (s:Shared) (H:Hp) (C:Addr) (cl:List (Str×Addr)) (fp:List Addr),PE (X.blk s H scope (compEnvC scope cl C X.env) fp) elt te) (hs:∀ x,foldedSetIterable iter X.env x=pure x:=by intro _; rfl) :
  PS X (.Assign [.Name y py] (.ListComp elt [⟨tg,iter,ifs,0⟩] scope pos) spos) (N9 (tLc wi g tt te (own.map (·.2))) (sI i)):=by
 intro pins s σ H D I h;rw [exec_Assign_Name_used _ _ _ _ hsw];refine wpAny_bind (wpAny_standAt (wpAny_bind ?_));show wpAny _ X.A (do let _ ← comprehension (.ListComp elt [⟨tg,iter,ifs,0⟩] scope pos) scope X.env (firstIterPos [⟨tg,iter,ifs,0⟩] pos) (newList []) false (eval iter X.env) (some (assign (.Name y py) X.env))) _ _ s;have h:tLc wi g tt te (own.map (·.2)) σ H (fun x H1=>sI i x σ H1 D.nx):=h;refine wpAny_bind (thn (Eu (Qf:=fun _ s'=>SP X pins D .next s') hc hN I hi ok hg ht he hs h fun L C s' m H' I' q hn f=>?_) fun _ s' hq=>wpAny_pure (wpAny_pure hq));show wpAny _ _ (assign (.Name y py) X.env (.ref L)) _ _ _;refine wpAny_assign_Name (wg (v:=V.ref L) I' hN hy (.inl hyl) rfl (fun s2 I2 hq__=>?_) (.inr hyl));obtain ⟨a,sb,ha⟩:=hq__; obtain ⟨f0,f1,f2,f3,f4,f5⟩:=f;have haC:C≠a:=by
  rcases ha with z | z
  ·rw [z]; exact f1
  ·exact fun e=>f4 y a z e.symm
 refine ⟨m,hn.sameBut sb haC,fun h3 sb3=>?_⟩;exact ⟨_,H',I2.turned (t':=s2.toks) (fun b o hb e=>(sb3.2 b hb).trans e) f0 f1 f3 f4 f5,q⟩
theorem rZ{elt:Expr}{gs:List Comprehension}{scope:Scope}{pos py:Pos}{y:Str}{l:Nat}{env:Env}(hk:env.scope.kind = .function)(hy:env.scope.names.lookup y=some .local)(hl:(py.line==pos.line)=true)
  (ha:(scope.names.any fun (n,k)=>n==y&&(k == .local || k == .cell))=false):swapsWith (.ListComp elt gs scope pos) (some (.Name y py)) l env=pure true:=by
 have ky:env.kindOf y=some .local:=hy;have hb:env.blockKind = .function:=by unfold Env.blockKind; rw [hk]; rfl
 unfold swapsWith;simp only [hb,ky,ha,Expr.pos,hl];rfl
end
theorem zL{lo:Int}{n:Nat}{g:TG}{tt:TT}{te:TE}{vs:List Nat}{σ:St}{H1:Hp}{D:Addr}{Qd:Hp→Prop}(Pv:Nat→Hp→Prop)(h0:Pv 0 (upd H1 D (.lst [])))
  (hs:∀ i H,i<n→Pv i H→g (.int (lo+i)) (wipe σ vs) H fun σ2 H2=>wipe σ2 vs=wipe σ vs∧tt σ2 H2 fun b H3=>
   if b=true then te σ2 H3 fun y H4=>∃ acc,H4 D=some (.lst acc)∧acc.length<sizeLine∧Pv (i+1) (upd H4 D (.lst (acc++[y]))) else Pv (i+1) H3) (hd:∀ H,Pv n H→Qd H) :
  ∃ W:Nat→Nat→Hp→Prop,(∃ m,W 0 m (upd H1 D (.lst [])))∧∀ i m H,W i m H →
   ((Itr lo n).stop i H∧Qd H)∨((Itr lo n).go i H∧∃ Nx:Hp→Prop,(∀ H',Nx H'→∃ m',m'<m∧W (i+1) m' H')∧∀ x H',(Itr lo n).yld i H x H'→g x (wipe σ vs) H' fun σ2 H2=>wipe σ2 vs=wipe σ vs∧tt σ2 H2 fun b H3=>
    if b=true then te σ2 H3 fun y H4=>∃ acc,H4 D=some (.lst acc)∧acc.length<sizeLine∧Nx (upd H4 D (.lst (acc++[y]))) else Nx H3):=by
 refine ⟨fun i m H=>m=n-i∧i≤n∧Pv i H,⟨n,by simp,zero_le _,h0⟩,?_⟩;rintro i m H ⟨rfl,hi,p⟩;by_cases hlt:i<n
 ·refine .inr ⟨hlt,Pv (i+1),fun H' p'=>⟨n-(i+1),by omega,rfl,hlt,p'⟩,fun x H' y=>?_⟩;obtain ⟨e,y⟩:=y;subst e y;exact hs i _ hlt p
 ·have e:i=n:=by omega
  subst e;exact .inl ⟨le_refl _,hd H p⟩
theorem iT{K:PySem.W.Frag}{a:Addr}{xs:List V}{g:TG}{tt:TT}{te:TE}{vs:List Nat}{σ:St}{H1:Hp}{D:Addr}{Qd:Hp→Prop}(Pv:Nat→Hp→Prop)(h0:Pv 0 (upd H1 D (.lst [])))(hl:∀ i H,i≤xs.length→Pv i H→SqL K H a xs)
  (hs:∀ i x H,xs[i]? = some x→Pv i H→g x (wipe σ vs) H fun σ2 H2=>wipe σ2 vs=wipe σ vs∧tt σ2 H2 fun b H3=>
   if b=true then te σ2 H3 fun y H4=>∃ acc,H4 D=some (.lst acc)∧acc.length<sizeLine∧Pv (i+1) (upd H4 D (.lst (acc++[y]))) else Pv (i+1) H3) (hd:∀ H,Pv xs.length H→Qd H) :
  ∃ W:Nat→Nat→Hp→Prop,(∃ m,W 0 m (upd H1 D (.lst [])))∧∀ i m H,W i m H →
   ((Itl K a).stop i H∧Qd H)∨((Itl K a).go i H∧∃ Nx:Hp→Prop,(∀ H',Nx H'→∃ m',m'<m∧W (i+1) m' H')∧∀ x H',(Itl K a).yld i H x H'→g x (wipe σ vs) H' fun σ2 H2=>wipe σ2 vs=wipe σ vs∧tt σ2 H2 fun b H3=>
    if b=true then te σ2 H3 fun y H4=>∃ acc,H4 D=some (.lst acc)∧acc.length<sizeLine∧Nx (upd H4 D (.lst (acc++[y]))) else Nx H3):=by
 refine ⟨fun i m H=>m=xs.length-i∧i≤xs.length∧Pv i H,⟨xs.length,by simp,zero_le _,h0⟩,?_⟩;rintro i m H ⟨rfl,hi,p⟩;have q:=hl i H hi p;by_cases hlt:i<xs.length
 ·refine .inr ⟨⟨xs,xs[i],q,by simp [hlt]⟩,Pv (i+1),fun H' p'=>⟨xs.length-(i+1),by omega,rfl,hlt,p'⟩,fun x H' y=>?_⟩;obtain ⟨e,y⟩:=y;subst e;exact hs i x _ (y xs q) p
 ·have e:i=xs.length:=by omega
  subst e;exact .inl ⟨⟨xs,q,le_refl _⟩,hd H p⟩
def lQ(N:List Str)(sc scope:Scope)(own:List (Str×Nat)):Bool:=
 (match scope.kind with | .function=>true | _=>false)&&(scope.names.all fun y=>decide (scope.names.lookup y.1=some y.2))&&(own.all fun p=>decide (N[p.2]? = some p.1)) &&
  (scope.names.all fun y=>match y.2 with
   | .free=>(match sc.names.lookup y.1 with | some .cell=>true | some .free=>true | _=>false)
   | .local=>decide (y.1∈own.map (·.1)) || decide (y.1 ∉ N)
   | .cell=>decide (y.1∈own.map (·.1)) || decide (y.1 ∉ N)
   | _=>true)
theorem cy{N:List Str}{sc scope:Scope}{own:List (Str×Nat)}(h:lQ N sc scope own=true):zJ N sc scope own:=by
 unfold lQ at h;simp only [and_eq_true,all_eq_true,decide_eq_true_eq] at h;obtain ⟨⟨⟨h1,h2⟩,h3⟩,h4⟩:=h;refine ⟨?_,h2,h3,fun y hy e=>?_,fun y hy e=>?_⟩
 ·split at h1
  ·assumption
  ·cases h1
 ·have q:=h4 y hy;simp only [e] at q;split at q <;> first | exact .inl (by assumption) | exact .inr (by assumption) | cases q
 ·have q:=h4 y hy;rcases e with e | e <;> (simp only [e,or_eq_true,decide_eq_true_eq] at q; exact q)
end L2
namespace L2
open PySem PySem.Spec PyProof.Rows
section
variable {prog:Program}{w:World}{A:Around}{R:Result→Shared→Prop}{s:Shared}{elt t0 i0 t1 i1:Expr}{ifs0 ifs1:List Expr}{scope:Scope}{pos:Pos}{it acc:Value}{env:Env}
end
section
variable {X:Cx}
end
end L2
namespace L2
open PySem PySem.Spec PyProof.Rows
section
variable {κ : Type}[DecidableEq κ]
def rE(kvs:List (κ×V))(k : κ):Option V:=(kvs.find? fun kv=>decide (kv.1=k)).map (·.2)
def putK(kvs:List (κ×V))(k : κ)(v:V):List (κ×V):=
 if (kvs.any fun kv=>decide (kv.1=k))=true then kvs.map (fun kv=>if kv.1=k then (kv.1,v) else kv) else kvs++[(k,v)]
theorem oO{p : κ×V}{r:List (κ×V)}{k : κ}(e:p.1=k):rE (p::r) k=some p.2:=by simp [rE,find?_cons,e]
theorem oP{p : κ×V}{r:List (κ×V)}{k : κ}(e:¬ p.1=k):rE (p::r) k=rE r k:=by simp [rE,find?_cons,e]
theorem sT(k : κ):∀ kvs:List (κ×V),(kvs.any fun kv=>decide (kv.1=k))=(rE kvs k).isSome
 | []=>rfl
 | p::r=>by
  rw [any_cons];by_cases e:p.1=k
  ·simp only [oO e,decide_eq_true e,Bool.true_or,isSome_some]
  ·rw [oP e,decide_eq_false e,Bool.false_or]; exact sT k r
theorem qM(kvs:List (κ×V))(k : κ)(v:V):(putK kvs k v).length≤kvs.length+1:=by
 unfold putK;split
 ·rw [length_map]; omega
 ·rw [length_append,length_cons,length_nil]; omega
theorem jF.qe{o:Option V}{u:Option Value}(r:jF o u):o.isSome=u.isSome:=by
 cases o with
 | none=>cases u with
  | none=>rfl
  | some _=>exact (show False from r).elim
 | some _=>cases u with
  | none=>exact (show False from r).elim
  | some _=>rfl
theorem KV.val{kvs:List (κ×V)}{vs:List (κ×Value)}(r:KV kvs vs)(k : κ):jF (rE kvs k) (valueAt vs k):=by
 unfold KV at r
 induction r with
 | nil=>exact True.intro
 | @cons p q ps qs h t ih=>
  obtain ⟨h1,h2⟩:=h;by_cases e:p.1=k
  ·have e':q.1=k:=h1.symm.trans e;have b:valueAt (q::qs) k=some q.2:=by simp [valueAt,find?_cons,e']
   rw [oO e,b]; exact h2
  ·have e':¬ q.1=k:=fun z=>e (h1.trans z);have b:valueAt (q::qs) k=valueAt qs k:=by simp [valueAt,find?_cons,e']
   rw [oP e,b]; exact ih
theorem KV.any{kvs:List (κ×V)}{vs:List (κ×Value)}(r:KV kvs vs)(k : κ):(kvs.any fun kv=>decide (kv.1=k))=vs.any fun kv=>decide (kv.1=k):=by
 unfold KV at r
 induction r with
 | nil=>rfl
 | cons h t ih=>rw [any_cons,any_cons,ih,h.1]
theorem KV.Ov{kvs:List (κ×V)}{vs:List (κ×Value)}(r:KV kvs vs)(k : κ){y:V}{u:Value}(ry:RelV y u) :
  KV (kvs.map fun kv=>if kv.1=k then (kv.1,y) else kv) (vs.map fun kv=>if kv.1=k then (kv.1,u) else kv):=by
 unfold KV at r ⊢
 induction r with
 | nil=>exact .nil
 | @cons p q ps qs h t ih=>
  rw [map_cons,map_cons];refine .cons ?_ ih;obtain ⟨h1,h2⟩:=h;by_cases e:p.1=k
  ·rw [if_pos e,if_pos (h1.symm.trans e)]; exact ⟨h1,ry⟩
  ·rw [if_neg e,if_neg (fun z=>e (h1.trans z))]; exact ⟨h1,h2⟩
theorem KV.put{kvs:List (κ×V)}{vs:List (κ×Value)}(r:KV kvs vs)(k : κ){y:V}{u:Value}(ry:RelV y u):KV (putK kvs k y) (stored vs k u):=by
 unfold putK stored;rw [r.any k];by_cases e:(vs.any fun kv=>decide (kv.1=k))=true
 ·rw [if_pos e,if_pos e]; exact r.Ov k ry
 ·rw [if_neg e,if_neg e]; exact Paired.snoc r ⟨rfl,ry⟩
theorem KV.length{kvs:List (κ×V)}{vs:List (κ×Value)}(r:KV kvs vs):kvs.length=vs.length:=Paired.length r
end
theorem zM{P:Program}{w:World}{k:Key}{u:Value}(r:RelV (kV k) u):(cH P w).is k u=true:=by
 cases k with
 | inl i=>obtain ⟨t,e⟩:=(show ∃ t,u=Value.int i t from r); subst e; exact zw P w i t
 | inr x=>obtain ⟨t,e⟩:=(show ∃ t,u=Value.str x t from r); subst e; exact zx P w x t
theorem wy{P:Program}{w:World}:∀ {ks:List Key} {us:List Value},Vals (ks.map kV) us→ItemsAre (cH P w) ks us
 | [],_,r=>by rw [map_nil] at r; cases r; exact .nil
 | k::ks,_,r=>by
  rw [map_cons] at r;cases r with
  | cons h t=>exact .cons (zM h) (wy t)
abbrev KT(H:Hp):List (List Key×V)→List (List Key×Addr×Value)→Prop:=Paired fun p q=>p.1=q.1∧H q.2.1=some (.tup (p.1.map kV))∧RelV p.2 q.2.2
theorem KT.val{H:Hp}{kvs:List (List Key×V)}{xs:List (List Key×Addr×Value)}(r:KT H kvs xs)(k:List Key):jF (rE kvs k) ((atKey xs k).map (·.2)):=by
 induction r with
 | nil=>exact True.intro
 | @cons p q ps qs h t ih=>
  obtain ⟨h1,_,h2⟩:=h;by_cases e:p.1=k
  ·have e':q.1=k:=h1.symm.trans e;have b:atKey (q::qs) k=some q.2:=by simp [atKey,find?_cons,e']
   rw [oO e,b]; exact h2
  ·have e':¬ q.1=k:=fun z=>e (h1.trans z);have b:atKey (q::qs) k=atKey qs k:=by simp [atKey,find?_cons,e']
   rw [oP e,b]; exact ih
theorem KT.Ov{H:Hp}{kvs:List (List Key×V)}{xs:List (List Key×Addr×Value)}(r:KT H kvs xs)(k:List Key){y:V}{u:Value}(ry:RelV y u) :
  KT H (kvs.map fun kv=>if kv.1=k then (kv.1,y) else kv) (xs.map (putAt k u)):=by
 induction r with
 | nil=>exact .nil
 | @cons p q ps qs h t ih=>
  rw [map_cons,map_cons];refine .cons ?_ ih;obtain ⟨h1,h2,h3⟩:=h;unfold putAt;by_cases e:p.1=k
  ·rw [if_pos e,if_pos (h1.symm.trans e)]; exact ⟨h1,h2,ry⟩
  ·rw [if_neg e,if_neg (fun z=>e (h1.trans z))]; exact ⟨h1,h2,h3⟩
theorem KT.put{H:Hp}{kvs:List (List Key×V)}{xs:List (List Key×Addr×Value)}(r:KT H kvs xs)(k:List Key){b:Addr}{y:V}{u:Value}(hb:H b=some (.tup (k.map kV)))(ry:RelV y u) :
  KT H (putK kvs k y) (storedH xs k b u):=by
 have e:(kvs.any fun kv=>decide (kv.1=k))=(atKey xs k).isSome:=by
  rw [sT,(r.val k).qe,isSome_map]
 unfold putK storedH;rw [e];by_cases q:(atKey xs k).isSome=true
 ·rw [if_pos q,if_pos q]; exact r.Ov k ry
 ·rw [if_neg q,if_neg q]; exact Paired.snoc r ⟨rfl,hb,ry⟩
theorem KT.keeps{H H':Hp}{kvs:List (List Key×V)}{xs:List (List Key×Addr×Value)}(r:KT H kvs xs)(ht:∀ b ys,H b=some (.tup ys)→H' b=some (.tup ys)):KT H' kvs xs:=
 Paired.N5 r fun _ _ z=>⟨z.1,ht _ _ z.2.1,z.2.2⟩
section
variable {P:Program}{w:World}{H:Hp}{h:Heap}{a:Addr}
theorem Nq{u:HO}(ok:HOk P w H h)(e:Rd H a u):b7 P w H h a u:=e.ok ok
theorem Ew{kvs:List (Key×V)}(ok:HOk P w H h)(e:Rd H a (.dK kvs)):kvs.length≤sizeLine∧(a==sysModules)=false∧∃ vs,KV kvs vs∧h.DictOf (cH P w) a vs:=
 show b7 P w H h a (.dK kvs) from Nq ok e
theorem Ra{kvs:List (Key×V)}(ok:HOk P w H h)(e:H a=some (.dK kvs)):kvs.length≤sizeLine∧(a==sysModules)=false∧∃ vs,KV kvs vs∧h.DictOf (cH P w) a vs:=Ew ok (.inl e)
theorem yc{ks:List Key}(ok:HOk P w H h)(e:H a=some (.tup (ks.map kV))):(tupleKind (cH P w)).is h ks a:=by
 obtain ⟨_,its,r,o,h1,h2,n,h3⟩:=(show b7 P w H h a (.tup (ks.map kV)) from ok a _ e);exact ⟨o,its.toArray,n,h1,h2,h3,by simpa using wy r⟩
theorem Ex{kvs:List (List Key×V)}(ok:HOk P w H h)(e:Rd H a (.dT kvs)):kvs.length≤sizeLine∧(a==sysModules)=false ∧
  ∃ xs,KT H kvs xs∧h.DictOfH (tupleKind (cH P w)) a xs:=by
 obtain ⟨z,y,xs,r,o,es,ep,h1,h2,h3,h4,h5⟩:=(show b7 P w H h a (.dT kvs) from Nq ok e);refine ⟨z,y,xs,r,o,es,ep,h1,h2,h3,h4,fun x hx=>?_,h5⟩;have all:∀ {l:List (List Key×V)} {m:List (List Key×Addr×Value)},KT H l m→∀ x∈m,(tupleKind (cH P w)).is h x.1 x.2.1:=by
  intro l m q
  induction q with
  | nil=>intro x hx; exact nomatch hx
  | @cons p q ps qs hq t ih=>
   intro x hx;rcases mem_cons.mp hx with e | hx
   ·subst e;exact yc ok (by rw [← hq.1]; exact hq.2.1)
   ·exact ih x hx
 exact all r x hx
theorem Rb{kvs:List (List Key×V)}(ok:HOk P w H h)(e:H a=some (.dT kvs)):kvs.length≤sizeLine∧(a==sysModules)=false ∧
  ∃ xs,KT H kvs xs∧h.DictOfH (tupleKind (cH P w)) a xs:=Ex ok (.inl e)
end
def rF(H:Hp)(a:Addr)(y:V)(r:Option V):Prop:=
 (∃ kvs k,Rd H a (.dK kvs)∧y=kV k∧r=rE kvs k)∨∃ kvs k b,Rd H a (.dT kvs)∧y = .ref b∧H b=some (.tup (k.map kV))∧r=rE kvs k
def HU(H:Hp)(a:Addr)(y v:V)(H':Hp):Prop:=
 (∃ kvs k,H a=some (.dK kvs)∧y=kV k∧kvs.length<sizeLine∧H'=upd H a (.dK (putK kvs k v))) ∨
 ∃ kvs k b,H a=some (.dT kvs)∧y = .ref b∧H b=some (.tup (k.map kV))∧kvs.length<sizeLine∧H'=upd H a (.dT (putK kvs k v))
theorem rF.k{H:Hp}{a:Addr}{kvs:List (Key×V)}{k:Key}(e:H a=some (.dK kvs)):rF H a (kV k) (rE kvs k):=.inl ⟨kvs,k,.inl e,rfl,rfl⟩
theorem HU.k{H:Hp}{a:Addr}{kvs:List (Key×V)}{k:Key}{v:V}(e:H a=some (.dK kvs))(hl:kvs.length<sizeLine):HU H a (kV k) v (upd H a (.dK (putK kvs k v))):=.inl ⟨kvs,k,e,rfl,hl,rfl⟩
section
variable {X:Cx}{pins:List (Addr×Obj)}{σ:St}{H:Hp}{s:Shared}{a:Addr}{y v:V}{u r:Value}{o:Option V}{A:Around}{E:Value→Shared→Prop}
theorem Inv.big(I:Inv X pins σ H s):sysModules<s.heap.objs.size:=by
 have h:mainGlobals<s.heap.objs.size:=(I.mod.glob.keeps I.bk).lt;exact lt_trans (by decide) h
theorem FL{Q:Value→Shared→Prop}(hu:A.units+1<cLine)(I:Inv X pins σ H s)(g:rF H a y (some v))(ry:RelV y u)(h:∀ w' s',Inv X pins σ H s'→RelV v w'→Q w' s') :
  wpAny (model X.prog X.w) A (getItem (.ref a) u) Q E s:=by
 rcases g with ⟨kvs,k,e,ey,l⟩ | ⟨kvs,k,b,e,ey,eb,l⟩
 ·subst ey;obtain ⟨z,hd,vs,rel,dd⟩:=Ew I.hok e;obtain ⟨w',hw,rw'⟩:=jF.some_of (v:=v) (o:=valueAt vs k) (by rw [l]; exact rel.val k);exact wpAny_getItem_of (zM ry) dd.mapOf hw (h w' _ (I.tok _) rw')
 ·subst ey;cases (show u=Value.ref b from ry);obtain ⟨z,hd,xs,rel,dd⟩:=Ex I.hok e;obtain ⟨w',hw,rw'⟩:=jF.some_of (v:=v) (o:=(atKey xs k).map (·.2)) (by rw [l]; exact rel.val k);obtain ⟨p,hp,hp2⟩:=Option.map_eq_some_iff.mp hw;refine wpAny_getItem_heap (tupleKind_room_in1 hu) (yc I.hok eb) dd hp ?_;rw [hp2];exact h w' _ (I.tok _) rw'
theorem Ur{Q:Value→Shared→Prop}(hu:A.units+1<cLine)(I:Inv X pins σ H s)(g:rF H a y o)(ry:RelV y u)(h:∀ s',Inv X pins σ H s'→Q (.bool o.isSome) s') :
  wpAny (model X.prog X.w) A (compareOp .In u (.ref a)) Q E s:=by
 rcases g with ⟨kvs,k,e,ey,l⟩ | ⟨kvs,k,b,e,ey,eb,l⟩
 ·subst ey;obtain ⟨z,hd,vs,rel,dd⟩:=Ew I.hok e;refine wpAny_in_of (zM ry) hd dd.mapOf ?_;rw [← (rel.val k).qe,← l];exact h _ (I.tok _)
 ·subst ey;cases (show u=Value.ref b from ry);obtain ⟨z,hd,xs,rel,dd⟩:=Ex I.hok e;refine wpAny_in_heap (tupleKind_room_in1 hu) (yc I.hok eb) hd dd ?_;have q:=(rel.val k).qe;rw [isSome_map] at q;rw [← q,← l];exact h _ (I.tok _)
theorem Ey{h':Heap}{t':Nat}{ob:HO}(I:Inv X pins σ H s)(mu:Mut (H a))(hs:Heap.SameBut a s.heap h')(he:∃ q,h'.get? a=some q)(new:b7 X.prog X.w (upd H a ob) h' a ob) :
  Inv X pins σ (upd H a ob) { s with heap:=h',toks:=t' }:=
 I.write (x:=a) (e:=a) mu (.inl rfl) (fun b q hb z=>(hs.2 b hb).trans z) he new
theorem Ow{P:Program}{w:World}{H':Hp}{h':Heap}{kvs:List (Key×V)}{vs:List (Key×Value)}(z:kvs.length≤sizeLine)(hd:(a==sysModules)=false)(rel:KV kvs vs)(dd:h'.DictOf (cH P w) a vs) :
  b7 P w H' h' a (.dK kvs):=⟨z,hd,vs,rel,dd⟩
theorem FP{H':Hp}{Q:Unit→Shared→Prop}(hu:A.units+1<cLine)(I:Inv X pins σ H s)(g:HU H a y v H')(ry:RelV y u)(rv:RelV v r)(h:∀ s',Inv X pins σ H' s'→Q () s') :
  wpAny (model X.prog X.w) A (setItem (.ref a) u r) Q E s:=by
 rcases g with ⟨kvs,k,e,ey,l,eH⟩ | ⟨kvs,k,b,e,ey,eb,l,eH⟩
 ·subst ey eH;obtain ⟨z,hd,vs,rel,dd⟩:=Ra I.hok e;have hz:vs.length≤sizeLine:=by rw [← rel.length]; exact z
  have hl:(putK kvs k v).length≤sizeLine:=by have:=qM kvs k v; omega
  refine wpAny_setItem_pairs (hsz:=hz) (zM ry) dd fun h' dd' hs=>h _ ?_;have he:∃ q,h'.get? a=some q:=let ⟨q,_,_,hq,_⟩:=dd'; ⟨q,hq⟩;exact Ey I (by rw [e]; exact True.intro) hs he (Ow hl hd (rel.put k rv) dd')
 ·subst ey eH;cases (show u=Value.ref b from ry);obtain ⟨z,hd,xs,rel,dd⟩:=Rb I.hok e;have hz:xs.length≤sizeLine:=by rw [← Paired.length rel]; exact z
  have hl:(putK kvs k v).length≤sizeLine:=by have:=qM kvs k v; omega
  refine wpAny_setItem_heap (hsz:=hz) (tupleKind_room_in1 hu) (yc I.hok eb) dd fun h' dd' hs=>h _ ?_;obtain ⟨q,es,ep,hq,h2,h3,h4,_,h5⟩:=dd';refine Ey I (by rw [e]; exact True.intro) hs ⟨q,hq⟩ ⟨hl,hd,_,(rel.put k eb rv).keeps fun c ys ec=>?_,q,es,ep,hq,h2,h3,h4,h5⟩;rw [aq (aW ec e (fun z=>nomatch z))];exact ec
end
section
variable {X:Cx}{pins:List (Addr×Obj)}{σ:St}{H:Hp}{s:Shared}{a:Addr}{kvs:List (Key×V)}{k:Key}{u:Value}{A:Around}{E:Value→Shared→Prop}
end
def Ox(i:Expr):Prop:=∀ ov iv,subscripted i false ov iv=operate [ov,iv] (getItem ov iv)
theorem Ez{prog:Program}{w:World}{A:Around}{E:Value→Shared→Prop}{s:Shared}{env:Env}{value slice:Expr}{pos:Pos}{T id:String}{Q:Value→Shared→Prop}
  (hl:typeLookup (.type T) "__getitem__"=pure (some (.builtin id))) (hs:Ox slice)
  (h:wpAny (model prog w) A (eval value env) (fun o s₁=>wpAny (model prog w) A (eval slice env) (fun i s₂=>s₂.TypeIs o T∧wpAny (model prog w) A (getItem o i) Q E s₂) E s₁) E s) :
  wpAny (model prog w) A (eval (.Subscript value slice pos) env) Q E s:=by
 refine Subscript_ (wpAny_mono h (fun o s₁ h₁=>wpAny_mono h₁ (fun i s₂ h₂=>?_) fun _ _ x=>x) fun _ _ x=>x);obtain ⟨hT,h₂⟩:=h₂;unfold subscriptTail;refine wpAny_bind ?_;rw [getitemInPython_of_ne hT.not_modules];refine wpAny_bind (wpAny_specialOf hT hl ?_);have fin:wpAny (model prog w) A (subscripted slice false o i) (fun r s₃=>wpAny (model prog w) A (letTemporaryGo value o r >>= fun _=>pure r) Q E s₃) E s₂:=by
  rw [hs o i];exact wpAny_operating (wpAny_mono h₂ (fun r s₃ h₃=>wpAny_bind (wpAny_letTemporaryGo (wpAny_pure h₃))) fun _ _ x=>x)
 first
  | exact wpAny_pure (wpAny_bind fin)
  | exact wpAny_bind (wpAny_pure (wpAny_bind fin))
  | exact wpAny_bind fin
theorem zN{X:Cx}{pins:List (Addr×Obj)}{σ:St}{H:Hp}{s:Shared}{a:Addr}{y:V}{o:Option V}(I:Inv X pins σ H s)(g:rF H a y o):s.TypeIs (.ref a) "dict":=by
 rcases g with ⟨kvs,k,e,_,_⟩ | ⟨kvs,k,b,e,_,_,_⟩
 ·obtain ⟨_,_,vs,_,dd⟩:=Ew I.hok e;exact dd.typeIs
 ·obtain ⟨_,_,xs,_,dd⟩:=Ex I.hok e;exact dd.typeIs
def Rc(td ty:TE):TE:=fun σ H Q=>td σ H fun x H1=>ty σ H1 fun y H2=>∃ a v,x = .ref a∧rF H2 a y (some v)∧Q v H2
def Us(ty td:TE):TE:=fun σ H Q=>ty σ H fun y H1=>td σ H1 fun x H2=>∃ a o,x = .ref a∧rF H2 a y o∧Q (.bl o.isSome) H2
def Rf(td ty tv:TE):TS:=fun D σ H=>tv σ H fun v H1=>td σ H1 fun x H2=>ty σ H2 fun y H3=>∃ a H4,x = .ref a∧HU H3 a y v H4∧D.nx σ H4
section
variable {X:Cx}{o i e value:Expr}{pos pos' tpos:Pos}{td ty tv:TE}
theorem EA(hu:X.A.units+1<cLine)(ho:PE X o td)(hi:PE X i ty)(hs:Ox i):PE X (.Subscript o i pos) (Rc td ty):=by
 intro pins s σ H Q I h;refine Ez PySem.F.slot_dict_getitem.lookup hs (thn (ho pins s σ H _ I h) fun u s1 ⟨x,H1,I1,rx,q1⟩=>thn (hi pins s1 σ H1 _ I1 q1) fun iv s2 hq__=>?_);obtain ⟨y,H2,I2,ry,a,v,ex,g,q2⟩:=hq__; subst ex;obtain rfl:u=Value.ref a:=rx;exact ⟨zN I2 g,FL hu I2 g ry fun w' s3 I3 rw'=>⟨v,H2,I3,rw',q2⟩⟩
theorem HV(hu:X.A.units+1<cLine)(hi:PE X i ty)(ho:PE X o td):PC X .In i o (Us ty td):=by
 intro pins s σ H Q I h;refine thn (hi pins s σ H _ I h) fun iv s1 ⟨y,H1,I1,ry,q1⟩=>thn (ho pins s1 σ H1 _ I1 q1) fun u s2 hq__=>?_;obtain ⟨x,H2,I2,rx,a,ov,ex,g,q2⟩:=hq__; subst ex;obtain rfl:u=Value.ref a:=rx;exact Ur hu I2 g ry fun s3 I3=>⟨.bl ov.isSome,H2,I3,rfl,q2⟩
theorem Ls(hu:X.A.units+1<cLine)(ho:PE X o td)(hi:PE X i ty)(hv:PE X value tv)(hs:swapsWith value (some (.Subscript o i pos')) pos.line X.env=pure false) :
  PS X (.Assign [.Subscript o i pos'] value pos) (Rf td ty tv):=by
 intro pins s σ H D I h;refine wpAny_Assign_Subscript (thn (hv pins s σ H _ I h) fun r s1 ⟨v,H1,I1,rv,q1⟩=>thn (ho pins s1 σ H1 _ I1 q1) fun u s2 ⟨x,H2,I2,rx,q2⟩=>thn (hi pins s2 σ H2 _ I2 q2) fun iv s3 hq__=>?_) hs;obtain ⟨y,H3,I3,ry,a,H4,ex,g,q3⟩:=hq__; subst ex;obtain rfl:u=Value.ref a:=rx;exact FP hu I3 g ry rv fun s4 I4=>⟨σ,H4,I4,q3⟩
end
theorem HW{P:Program}{w:World}{H:Hp}(h:Heap)(hb:sysModules<h.objs.size):b7 P w H (h.push { cls:=.type "dict",data:=.dict #[] }) h.objs.size (.dK []):=
 ⟨zero_le _,beq_eq_false_iff_ne.mpr (Ne.symm (ne_of_lt hb)),[],.nil,Heap.DictOf.new h⟩
def Oy:TE:=fun _ H Q=>∀ p,H p=none→Q (.ref p) (upd H p (.dK []))
section
variable {X:Cx}{pos:Pos}
theorem HX:PE X (.Dict [] [] pos) Oy:=fun pins s σ H Q I h=>
 wpAny_Dict_empty ⟨.ref s.heap.objs.size,_,I.laid (a:=s.heap.objs.size) (o:=.dK []) (t':=s.toks) (fun _ _ q=>Heap.get?_push_of_some _ q) (le_refl _) (HW s.heap I.big),rfl,h _ (I.hok.fresh (le_refl _))⟩
end
section
variable {X:Cx}{pins:List (Addr×Obj)}{σ:St}{H:Hp}{s:Shared}{a:Addr}{y d:V}{u r:Value}{o:Option V}{A:Around}{E:Value→Shared→Prop}
end
section
variable {X:Cx}{o e f:Expr}{apos cpos:Pos}{td ty tx:TE}
end
section
variable {X:Cx}{pins:List (Addr×Obj)}{σ:St}{H:Hp}{s:Shared}{a:Addr}{kvs:List (Key×V)}{A:Around}{E:Value→Shared→Prop}
end
section
variable {X:Cx}{pins:List (Addr×Obj)}{σ:St}{H:Hp}{s:Shared}{a:Addr}{y:V}{u:Value}{A:Around}{E:Value→Shared→Prop}
end
end L2
namespace L2
open PySem PySem.Spec PyProof.Rows
section
variable {prog:Program}{w:World}{A:Around}{E:Value→Shared→Prop}
end
section
variable {X:Cx}
end
end L2
namespace L2
open PySem PySem.Spec PyProof.Rows
section
variable {X:Cx}{pins:List (Addr×Obj)}{σ:St}{H:Hp}{s:Shared}{h':Heap}
theorem Inv.wz{t':Nat}{ch:List Addr}{T:Addr}{ob:HO}(I:Inv X pins σ H s)(k:∀ b o,b ∉ ch→s.heap.get? b=some o→h'.get? b=some o)(hf:∀ b∈ch,sJ X pins H b)(hT:s.heap.objs.size≤T)
  (new:b7 X.prog X.w (upd H T ob) h' T ob):Inv X pins σ (upd H T ob) { s with heap:=h',toks:=t' }:=by
 have hn:H T=none:=I.hok.fresh hT;have nit:∀ b u,H b=some u→b ∉ ch:=fun b u e z=>by
  have q:=(hf b z).1;rw [q] at e; cases e
 refine I.step (g':=s.gens) (d':=s.drawn) (ch:=ch) (fun b hb=>⟨(hf b hb).2.2.2.1,(hf b hb).2.1,(hf b hb).2.2.2.2.1,(hf b hb).2.2.2.2.2⟩) (fun b o _ _ hc e _=>k b o hc e) (fun b o _ _ hc e _=>⟨o.slots,k b o hc e⟩)
  (fun b o _ e n=>?_) (fun b o hc e=>⟨o,k b o hc e⟩) (fun b xs e=>?_) (fun b o u e=>?_) (fun b ps e=>⟨#[],?_⟩) (fun m hm=>?_) (fun b u e=>?_) I.bare
 ·rw [aq (ne_of_lt (lt_of_lt_of_le (Heap.lt_size e) hT))]; exact n
 ·rw [aq (ak e hn)]; exact e
 ·rw [aq (ak e hn)]; exact e
 ·rw [aq (ak e hn),e]; simp
 ·obtain ⟨o,es,ep,ho,r⟩:=hm;exact ⟨o,es,ep,k _ o (fun z=>(hf _ z).2.1 rfl) ho,r⟩
 ·by_cases hb:b=T
  ·subst hb;rw [ae] at e;cases e;exact new
  ·rw [aq hb] at e;refine (I.hok b u e).mf (fun c v hc q=>k c v ?_ q) (fun c q=>by rw [aq (ak q hn)]; exact q) fun c xs q=>by rw [aq (ak q hn)]; exact q
   rcases hc with z | z
   ·rw [z]; exact nit b u e
   ·exact nit c _ z
theorem Inv.lock{d:Addr}{u:HO}(I:Inv X pins σ H s)(h:H d=some u)(mu:Mut (some u)):∃ od,Inv X pins σ (upd H d (.frz od u)) s:=by
 have x:=I.hok d u h;have ex:∃ od,s.heap.get? d=some od:=by
  cases u with
  | lst xs=>obtain ⟨_,_,_,_,e⟩:=x; exact ⟨_,e⟩
  | dK kvs=>obtain ⟨_,_,_,_,o,_,_,e,_⟩:=x; exact ⟨o,e⟩
  | dT kvs=>obtain ⟨_,_,_,_,o,_,_,e,_⟩:=x; exact ⟨o,e⟩
  | set S n=>obtain ⟨o,_,_,_,e,_⟩:=x; exact ⟨o,e⟩
  | ins C dx fs=>obtain ⟨_,_,_,e,_⟩:=x; exact ⟨_,e⟩
  | ext φ=>obtain ⟨_,⟨_,e⟩,_⟩:=x; exact ⟨_,e⟩
  | _=>exact False.elim mu
 obtain ⟨od,e⟩:=ex;have new:b7 X.prog X.w (upd H d (.frz od u)) s.heap d (.frz od u):=by
  refine ⟨e,x.mf (fun b v _ q=>q) (fun b q=>?_) fun b xs q=>?_⟩
  ·rw [aq (fun z=>by rw [z,h] at q; cases q; exact mu)]; exact q
  ·rw [aq (fun z=>by rw [z,h] at q; cases q; exact mu)]; exact q
 exact ⟨od,I.write (x:=d) (e:=d) (t':=s.toks) (h':=s.heap) (by rw [h]; exact mu) (.inl rfl) (fun b v _ q=>q) ⟨od,e⟩ new⟩
theorem Inv.Rg{d:Addr}{u:HO}(I:Inv X pins σ H s)(h:H d=some u)(mu:Mut (some u)):∀ o' u',X.H_0 d≠some (.frz o' u'):=fun o' u' e=>by
 have q:=I.base.rB d o' u' e;rw [h] at q;cases q;exact mu
theorem Inv.unlock{d:Addr}{od:Obj}{u:HO}(I:Inv X pins σ H s)(h:H d=some (.frz od u))(hn:∀ o' u',X.H_0 d≠some (.frz o' u')):Inv X pins σ (upd H d u) s:=by
 have neH:∀ b o,H b=some o→(∀ o' u',o≠.frz o' u')→b≠d:=fun b o e hne z=>by
  rw [z,h] at e;cases e;exact hne _ _ rfl
 have neN:∀ b,H b=none→b≠d:=fun b e z=>by rw [z,h] at e; cases e
 refine ⟨I.ok,I.os,I.bare,⟨I.base.keep,I.base.slot,fun b o e n hx=>?_,I.base.there,fun b xs e=>?_,fun b o x e=>?_,fun b ps e=>?_⟩,I.loc,I.cell,?_,fun x c e=>?_,fun p hp=>?_,fun b o e=>?_,I.len⟩
 ·rw [aq (neN b (I.base.free b o e n hx))]; exact I.base.free b o e n hx
 ·have q:=I.base.vk b xs e;rw [aq (neH b _ q (fun _ _ z=>nomatch z))]; exact q
 ·have q:=I.base.rB b o x e;rw [aq (fun z=>by rw [z] at e; exact hn _ _ e)]; exact q
 ·obtain ⟨m,q⟩:=I.base.vm b ps e;exact ⟨m,by rw [aq (neH b _ q (fun _ _ z=>nomatch z))]; exact q⟩
 ·rw [aq (neN _ I.free)]; exact I.free
 ·rw [aq (neN c (I.dG x c e))]; exact I.dG x c e
 ·obtain ⟨e,n,r⟩:=I.pin p hp;exact ⟨e,by rw [aq (neN _ n)]; exact n,r⟩
 ·by_cases hb:b=d
  ·rw [hb,ae] at e;cases e;rw [hb];obtain ⟨_,x⟩:=I.hok d _ h;exact x.mf (fun c v _ q=>q) (fun c q=>by rw [aq (neH c _ q (fun _ _ z=>nomatch z))]; exact q) fun c xs q=>by rw [aq (neH c _ q (fun _ _ z=>nomatch z))]; exact q
  ·rw [aq hb] at e;exact (I.hok b o e).mf (fun c v _ q=>q) (fun c q=>by rw [aq (neH c _ q (fun _ _ z=>nomatch z))]; exact q) fun c xs q=>by rw [aq (neH c _ q (fun _ _ z=>nomatch z))]; exact q
end
def Oz(t:TE):TE:=fun σ H Q=>∃ d u,H d=some u∧Mut (some u)∧∀ od,t σ (upd H d (.frz od u)) fun v H'=>H' d=some (.frz od u)∧Q v (upd H' d u)
section
variable {X:Cx}
theorem EB{e:Expr}{t:TE}(h:PE X e t):PE X e (Oz t):=by
 intro pins s σ H Q I hw;obtain ⟨d,u,hd,mu,hw⟩:=hw;obtain ⟨od,I1⟩:=I.lock hd mu;refine thn (h pins s σ _ _ I1 (hw od)) fun v s1 hq__=>?_;obtain ⟨x,H1,I2,r,e2,q⟩:=hq__; exact ⟨x,_,I2.unlock e2 (I.Rg hd mu),r,q⟩
theorem HY{tg:Expr}{pins:List (Addr×Obj)}{σ:St}{H:Hp}{s:Shared}{R:It→Hp→Prop}{J:It}{tn:Nat→Heap→Prop}{tk:Nat}(I:Inv X pins σ H s)(o:Obj)
  (T:Turn X.prog X.w X.K tg J [s.heap.objs.size] s.heap.objs.size tn) (st:tn 0 (s.heap.push o)) (q:R J H):PIE X pins σ tg R (.ref s.heap.objs.size) { s with heap:=s.heap.push o,toks:=tk }:=by
 refine ⟨s.heap.objs.size,[s.heap.objs.size],tn,J,H,rfl,I.kept fun b ob e=>Heap.get?_push_of_some _ e,T,st,fun b hb=>?_,q⟩;have e:b=s.heap.objs.size:=by simpa using hb
 subst e;exact I.FC (le_refl _) (I.hok.fresh (le_refl _))
end
section
variable {X:Cx}{tg:Expr}
end
def Its(x:Str):It:=⟨fun i _=>i<x.cps.size,fun i H v H'=>H'=H∧∃ c,x.cps[i]? = some c∧v = .str ⟨#[c]⟩,fun i _=>x.cps.size≤i⟩
theorem zO{P:Program}{w:World}{K:PySem.W.Frag}{tg:Expr}(it:Addr)(x:Str)(t:Tok)(ty:String)(hty:ty="str_ascii_iterator"∨ty="str_iterator") :
  Turn P w K tg (Its x) [it] it (fun i h=>h.IsStrIter it ty x t i) where
 mem:=by simp
 obj:=fun i h st b hb=>by
  have e:b=it:=by simpa using hb
  subst e;obtain ⟨o,e,c,d⟩:=st;exact ⟨o,e,fun v z=>by rw [d] at z; cases z⟩
 keep:=fun i h h' st k=>let ⟨o,ho,r⟩:=st; ⟨o,k it (by simp) o ho,r⟩
 item:=by
  intro X hP hw hK hc i pins s σ H E I hf st hg;subst hP hw hK;obtain ⟨f0,f1,f2,f3,f4,f5⟩:=hf it (by simp);have W:Walks X.prog X.w X.A it [it] [it] x.cps.size (SignAt x) (fun i h=>h.IsStrIter it ty x t i):=by
   rcases hty with e | e
   ·rw [e]; exact Walks.strAscii (I.ok.hd hc) it x t
   ·rw [e]; exact Walks.strWide (I.ok.hd hc) it x t
  have hno:["enumerate","zip","dict_itemiterator","dict_reverseitemiterator","odict_iterator","itertools.zip_longest","itertools.pairwise"].contains ty=false:=by
   rcases hty with e | e
   ·rw [e]; decide
   ·rw [e]; decide
  refine W.item i s _ _ hg st fun v h' tk hv st' kk=>?_;obtain ⟨c,u,hcx,rfl⟩:=hv;have I1:Inv X pins σ H { s with heap:=h',toks:=tk }:=I.turned (fun b o hb e=>kk b o (by simpa using hb) e) f0 f1 f3 f4 f5;obtain ⟨oi,e,cc,dd⟩:=id st';exact ⟨_,rfl,HI (s:={ s with heap:=h',toks:=tk }) e cc dd hno ⟨.str ⟨#[c]⟩,H,I1,⟨u,rfl⟩,⟨rfl,c,hcx,rfl⟩,st',fun b hb=>(hf b hb).1⟩⟩
 done:=by
  intro X hP hw hK hc i pins s σ H E I hf st hg;subst hP hw hK;obtain ⟨f0,f1,f2,f3,f4,f5⟩:=hf it (by simp);have hx:x.cps[i]? = none:=Array.getElem?_eq_none hg;rcases hty with e | e
  ·rw [e] at st;exact wpAny_pyNext_ascii_end (I.ok.hd hc) st hx fun h' eb=>⟨rfl,I.turned (t':=s.toks) (fun b o hb e=>eb b o hb e) f0 f1 f3 f4 f5⟩
  ·rw [e] at st;exact wpAny_pyNext_wide_end (I.ok.hd hc) st hx fun h' eb=>⟨rfl,I.turned (t':=s.toks) (fun b o hb e=>eb b o hb e) f0 f1 f3 f4 f5⟩
 self:=fun A i s Q E st h=>by
  rcases hty with e | e
  ·rw [e] at st; exact wpAny_pyIter_striter_ascii st h
  ·rw [e] at st; exact wpAny_pyIter_striter_wide st h
def Ut(te:TE):TI:=fun σ H R=>te σ H fun v H1=>∃ x,v = .str x∧R (Its x) H1
theorem OA{X:Cx}{tg e:Expr}{te:TE}(he:PE X e te):PI X tg e (Ut te):=by
 intro pins s σ H R I h;refine thn (he pins s σ H _ I h) fun v s1 hq__=>?_;obtain ⟨y,H1,I1,r1,x,ex,q⟩:=hq__; subst ex;obtain ⟨t,rfl⟩:=r1;cases ha:x.cps.all (· < 128)
 ·exact wpAny_pyIter_wide ha (HY (tk:=s1.toks) I1 _ (zO _ x t "str_iterator" (.inr rfl)) ⟨_,Heap.get?_push_size _ rfl,rfl,rfl⟩ q)
 ·exact wpAny_pyIter_ascii ha (HY (tk:=s1.toks) I1 _ (zO _ x t "str_ascii_iterator" (.inl rfl)) ⟨_,Heap.get?_push_size _ rfl,rfl,rfl⟩ q)
section
variable {prog:Program}{w:World}{A:Around}{E:Value→Shared→Prop}{s:Shared}
end
section
variable {X:Cx}{pins:List (Addr×Obj)}{σ:St}{H:Hp}{s:Shared}{d:Addr}{o:Obj}
end
section
variable {P:Program}{w:World}{K:PySem.W.Frag}{tg:Expr}{d:Addr}{o:Obj}{es:Array DictEntry}{ep:Nat}
end
section
variable {X:Cx}{tg e:Expr}{td:TE}{apos cpos:Pos}
end
def Ite(K:PySem.W.Frag)(a:Addr):It:=
 ⟨fun i H=>∃ (xs:List V) (x:V),SqL K H a xs∧xs[i]? = some x,fun i H v H'=>∃ T x,v = .ref T∧H T=none∧H'=upd H T (.tup [.int (i:Nat),x])∧∀ xs,SqL K H a xs→xs[i]? = some x,fun i H=>∃ xs:List V,SqL K H a xs∧xs.length≤i⟩
theorem FQ{P:Program}{w:World}{K:PySem.W.Frag}{elts:List Expr}{kk:Nat}{tpos:Pos}(a e it:Addr) :
  Turn P w K (.Tuple elts kk tpos) (Ite K a) [e,it] e (fun i h=>(∃ old,IsEnum h e it ((i:Nat):Int) old)∧h.IsListIter it a i∧e≠it) where
 mem:=by simp
 obj:=fun i h st b hb=>by
  obtain ⟨⟨old,he⟩,⟨o,ho,hc,hd⟩,_⟩:=st;have e':b=e∨b=it:=by simpa using hb
  rcases e' with z | z
  ·rw [z]; exact ⟨_,he,fun v q=>nomatch q⟩
  ·rw [z]; exact ⟨o,ho,fun v q=>by rw [hd] at q; cases q⟩
 keep:=fun i h h' st k=>let ⟨⟨old,he⟩,hi,hne⟩:=st; ⟨⟨old,k e (by simp) _ he⟩,hi.at fun o q=>k it (by simp) o q,hne⟩
 item:=by
  intro X hP hw hK hc i pins s σ H E I hf st hg;subst hP hw hK;obtain ⟨⟨old,he⟩,hit,hne⟩:=st;obtain ⟨xs,x,hq,hx⟩:=hg;obtain ⟨its,rv,p,hz⟩:=I.list hq;obtain ⟨u,hu,ru⟩:=rv.get hx;have hel:e<s.heap.objs.size:=Heap.lt_size he;have hil:it<s.heap.objs.size:=by obtain ⟨_,q,_⟩:=hit; exact Heap.lt_size q
  refine wpAny_pyNext_enum_item he hit p.isList (x:=u) (by simpa using hu) hne fun h' ho hit' hT hsz hk=>?_;refine ⟨_,rfl,wpAny_letOwnedTupleGo_enum (s:={ s with heap:=h',toks:=s.toks+1 }) ho fun h'' he' sb=>?_⟩;have hT2:h''.get? s.heap.objs.size=some { cls:=.type "tuple",data:=.seq #[.int i s.toks,u] }:=(sb.2 _ (ne_of_gt hel)).trans hT;have new:b7 X.prog X.w (upd H s.heap.objs.size (.tup [.int (i:Nat),x])) h'' s.heap.objs.size (.tup [.int (i:Nat),x]):=
   ⟨by show 2≤sizeLine; decide,[.int i s.toks,u],.cons ⟨_,rfl⟩ (.cons ru .nil),⟨_,hT2,rfl,_,rfl⟩⟩
  have I1:Inv X pins σ (upd H s.heap.objs.size (.tup [.int (i:Nat),x])) { s with heap:=h'',toks:=s.toks+1 }:=
   I.wz (ch:=[e,it]) (fun b ob hb q=>(sb.2 b (fun z=>hb (by simp [z]))).trans (hk b ob (fun z=>hb (by simp [z])) (fun z=>hb (by simp [z])) q)) hf (le_refl _) new
  refine ⟨.ref s.heap.objs.size,_,I1,rfl,⟨_,x,rfl,I.hok.fresh (le_refl _),rfl,fun ys hy=>by rw [I.sF hy hq]; exact hx⟩,⟨⟨u,?_⟩,hit'.at fun o q=>(sb.2 it (Ne.symm hne)).trans q,hne⟩,fun b hb=>?_⟩
  ·have e1:((i+1:Nat):Int)=(i:Int)+1:=by omega
   rw [e1]; exact he'
  ·have hb':b<s.heap.objs.size:=by
    have e':b=e∨b=it:=by simpa using hb
    rcases e' with z | z
    ·rw [z]; exact hel
    ·rw [z]; exact hil
   rw [aq (ne_of_lt hb')];exact (hf b hb).1
 done:=by
  intro X hP hw hK hc i pins s σ H E I hf st hg;subst hP hw hK;obtain ⟨⟨old,he⟩,hit,hne⟩:=st;obtain ⟨xs,hq,hx⟩:=hg;obtain ⟨its,rv,p,hz⟩:=I.list hq;obtain ⟨f0,f1,f2,f3,f4,f5⟩:=hf it (by simp);have hl:=rv.length;exact wpAny_pyNext_enum_end (I.ok.hd hc) he hit p.isList (by simp; omega) fun h' eb=>⟨rfl,I.turned (t':=s.toks) (fun b o hb q=>eb b o hb q) f0 f1 f3 f4 f5⟩
 self:=fun A i s Q E st h=>let ⟨⟨_,he⟩,_⟩:=st; wpAny_pyIter_enum he h
def Rh(K:PySem.W.Frag)(ta:TA):TI:=fun σ H R=>ta σ H fun vs H1=>∃ a xs,vs=[.ref a]∧SqL K H1 a xs∧R (Ite K a) H1
theorem dt{X:Cx}{e:Expr}{ta:TA}{p pos tpos:Pos}{elts:List Expr}{kk:Nat}(hg:Gl X "enumerate")(hm:X.mg "enumerate"=none)(ha:PA X [e] ta)(hs:starEach [e] X.env=[(false,eval e X.env)]:=by rfl) :
  PI X (.Tuple elts kk tpos) (.Call (.Name "enumerate" p) [e] [] pos) (Rh X.K ta):=by
 intro pins s σ H R I h;refine Call_ (mi I hg hm boot_enumerate (PyProof.Rows.callWith_type1 (thn (ha pos pins s σ H _ I h) fun us s1 hq__=>?_) hs rfl));obtain ⟨vs,H1,I1,r1,q1⟩:=hq__; obtain ⟨a,xs,ex,hq,q⟩:=q1;subst ex;cases r1 with
 | cons r rr=>
  cases rr;cases r;obtain ⟨its,rv,p',hz⟩:=I1.list hq;refine call_enumerate_list p'.isList fun h' he hit hsz hk=>wpAny_pyIter_enum he ?_;have I2:Inv X pins σ H1 { s1 with heap:=h' }:=I1.kept (t':=s1.toks) hk;refine ⟨s1.heap.objs.size+1,[s1.heap.objs.size+1,s1.heap.objs.size],_,_,H1,rfl,I2,FQ a (s1.heap.objs.size+1) s1.heap.objs.size,⟨⟨.none,he⟩,hit,Nat.succ_ne_self _⟩,fun b hb=>?_,q⟩;have e':b=s1.heap.objs.size+1∨b=s1.heap.objs.size:=by simpa using hb
  have hle:s1.heap.objs.size≤b:=by
   rcases e' with z | z
   ·rw [z]; exact Nat.le_add_right _ _
   ·rw [z]; exact le_refl _
  exact I1.FC hle (I1.hok.fresh hle)
end L2
section
namespace Uu
open PySem PyProof.Rows
end Uu
end
section
namespace TL
open PySem PySem.Builtin PySem.Builtin.Str PySem.StrLaws
end TL
end
namespace L2
open PySem PySem.Spec PyProof.Rows
section
variable {X:Cx}{pins:List (Addr×Obj)}{σ:St}{H:Hp}{s:Shared}{Q:VK}
end
section
variable {X:Cx}
end
section
variable {X:Cx}{o e:Expr}{to te:TE}
end
end L2
namespace L2
open PySem PySem.Spec PyProof.Rows
section
variable {X:Cx}
end
end L2
namespace Att
open PySem PySem.W PySem.Calls PyProof.Rows
section
variable {prog:Program}{w:World}{A:Around}{E:Value→Shared→Prop}{s:Shared}{K:Frag}
end
end Att
namespace L2
open PySem PySem.Spec PyProof.Rows
end L2
namespace L2
open PySem PySem.Spec PyProof.Rows
end L2
namespace L2
open PySem PySem.Spec PyProof.Rows
def inClass(s:Stmt)(j:Nat):Stmt:=match s with
 | .ClassDef _ _ _ body _ _ _ _ _ _ _=>body.getD j (.Pass ⟨0,0,0,0⟩)
 | _=>.Pass ⟨0,0,0,0⟩
def gq(s:Stmt):Arguments:=match s with
 | .FunctionDef _ a _ _ _ _ _ _ _ _=>a
 | _=>{ posonlyargs:=[],args:=[],vararg:=none,kwonlyargs:=[],kw_defaults:=[],kwarg:=none,defaults:=[] }
def du(s:Stmt):List Stmt:=match s with
 | .FunctionDef _ _ b _ _ _ _ _ _ _=>b
 | _=>[]
def ao(s:Stmt):Scope:=match s with
 | .FunctionDef _ _ _ _ _ _ sc _ _ _=>sc
 | _=>{ kind:=.function,names:=[],isGenerator:=false,isCoroutine:=false }
abbrev CX0:CXT:=fun _ _ _ _ _ _=>False
abbrev E0:XK:=fun _ _ _=>False
theorem aE{X:Cx}:Passes CX0 X E0:=fun _ _ _ _ _ _ _ h=>h.elim
structure Fun(K:PySem.W.Frag)(x qual:Str)(st:Stmt)(f:Addr)(fd:FuncData):Prop where
 ex:∃ (oc:Value) (od:Option Addr) (kV doc pm:Value) (an:Option Addr) (cdv ct:Value) (osl:Array (Option Value)),
  fd=fnOf x qual (gq st) (du st) (ao st) .none kV doc pm an cdv ct∧K.lookup f=some ⟨oc,od,.func fd,osl⟩∧codeIn K cdv qual=true
 kp:keepIn K (.ref f)=true
section
variable {P:Program}{w:World}{K:PySem.W.Frag}{mg:Str→Option Value}{base:Heap}
theorem Fun.ok{x qual:Str}{st:Stmt}{f:Addr}{fd:FuncData}{N ps:List Str}{k:Nat}{sp:Sp}(F:Fun K x qual st f fd)(S:ax N ps (ao st))(len:∀ vs H Q E,sp vs H Q E→vs.length=ps.length)
  (hbody:∀ (cdv:Value) (A:Around) (outer:List Env) (s:Shared) (H:Hp) (vs:List V) (Q:VK) (E:XK),cM k (A.deeper (envOfC qual (ao st) s.heap.objs.size f cdv))→sp vs H Q E →
   ∃ t,PSs (x8 CX0 P w K mg base N qual (ao st) f cdv A outer s H E).nox (du st) t∧t { nx:=fun _ H'=>Q .non H',rt:=Q } (start N vs) H):aF P w K mg base CX0 (k+1) f fd ps sp:=by
 obtain ⟨oc,od,kV,doc,pm,an,cdv,ct,osl,rfl,lk,hcd⟩:=F.ex;refine Np lk hcd S len fun A outer s H vs Q E hr hsp=>?_;obtain ⟨t,h,q⟩:=hbody cdv A outer s H vs Q E hr hsp;exact ⟨t,h.nox,q⟩
theorem Fun.binds{x qual:Str}{st:Stmt}{f:Addr}{fd:FuncData}{ps:List Str}(F:Fun K x qual st f fd)
  (h:∀ (kV doc pm:Value) (an:Option Addr) (cdv ct:Value) (us:List Value),us.length=ps.length→bindArgs (fnOf x qual (gq st) (du st) (ao st) .none kV doc pm an cdv ct) ⟨us,[]⟩=pure (ps.zip us)):Binds K fd ps []:=by
 obtain ⟨oc,od,kV,doc,pm,an,cdv,ct,osl,rfl,lk,hcd⟩:=F.ex;exact .all (h kV doc pm an cdv ct)
theorem OB{x qual:Str}{st:Stmt}{f:Addr}{oc:Value}{od an:Option Addr}{osl:Array (Option Value)}{kV doc pm cdv ct:Value}(l:K.lookup f=some ⟨oc,od,.func (fnOf x qual (gq st) (du st) (ao st) .none kV doc pm an cdv ct),osl⟩)
  (c:codeIn K cdv qual=true) (k:keepIn K (.ref f)=true):Fun K x qual st f (fnOf x qual (gq st) (du st) (ao st) .none kV doc pm an cdv ct):=⟨⟨oc,od,kV,doc,pm,an,cdv,ct,osl,rfl,l,c⟩,k⟩
end
theorem zP{A:Around}{k:Nat}(hr:cM k A):A.units+1<cLine:=Nat.lt_of_le_of_lt (Nat.add_le_add_left (by decide:1≤64) _) hr.units
section
variable {X:Cx}
theorem pv(i:Nat){x:Str}{pos:Pos}(hN:X.N[i]? = some x:=by rfl)(hv:Vis X.env.scope x:=by first | exact Or.inl rfl | exact Or.inr (Or.inl rfl) | exact Or.inr (Or.inr rfl))(hd:(x==("__debug__":Str))=false:=by decide)
  (hcd:(x==("__classdict__":Str))=false:=by decide):PE X (.Name x pos) (zy i):=HB hN hv hd hcd
end
theorem b0{A B:Prop}(h:B):if false=true then A else B:=by
 rw [if_neg Bool.false_ne_true];exact h
theorem bz{A B:Prop}(h:A):if true=true then A else B:=by
 rw [if_pos rfl];exact h
def aj(H H':Hp):Prop:=∀ b o,H b=some o→H' b=some o
theorem aj.trans{H H1 H2:Hp}(a:aj H H1)(b:aj H1 H2):aj H H2:=fun c o h=>b c o (a c o h)
theorem aj.free{H H':Hp}(e:aj H H'){l:Addr}(h:H' l=Option.none):H l=Option.none:=by
 cases q:H l with
 | none=>rfl
 | some o=>
  rw [e l o q] at h;cases h
theorem aj.seq{K:PySem.W.Frag}{H H':Hp}{a:Addr}{xs:List V}(e:aj H H')(h:SqL K H a xs):SqL K H' a xs:=by
 rcases h with (h | ⟨o,h⟩) | h
 ·exact .inl (.inl (e _ _ h))
 ·exact .inl (.inr ⟨o,e _ _ h⟩)
 ·exact .inr h
section
variable {κ : Type}[DecidableEq κ]
end
theorem at_of{xs:List V}{z:Int}{j:Nat}{v:V}(e:z=(j:Int))(h:xs[j]? = some v):atI xs z=some v:=by
 rw [e];exact Lm h
theorem aj.made{H H1:Hp}{x dx C:Addr}(nx:H x=Option.none)(nd:H dx=Option.none)(k:∀ b o,(upd (upd H dx (.own x)) x (.ins C dx [])) b=some o→b≠x→H1 b=some o):aj H H1:=fun b o e=>
 k b o (by rw [aq (ak e nx),aq (ak e nd)]; exact e) (ak e nx)
end L2
section
namespace L2
open PySem PySem.Spec PyProof.Rows
open PySem.W (WData Codec OpenSpec Well WellAll ReadsW ReadsAllW)
mutual
inductive Dw(K:PySem.W.Frag)(H:Hp):V→WData→Prop
 | non:Dw K H .non .none
 | bl (b:Bool):Dw K H (.bl b) (.bool b)
 | int (i:Int):Dw K H (.int i) (.int i)
 | str (x:Str):Dw K H (.str x) (.str x)
 | byt (b:Array UInt8):Dw K H (.byt b) (.bytes b.toList)
 | lst {a:Addr} {xs:List V} {ds:List WData}:SqL K H a xs→jC K H xs ds→Dw K H (.ref a) (.list ds)
 | tup {a:Addr} {xs:List V} {ds:List WData}:SqT K H a xs→jC K H xs ds→Dw K H (.ref a) (.tuple ds)
inductive jC(K:PySem.W.Frag)(H:Hp):List V→List WData→Prop
 | nil:jC K H [] []
 | cons {v:V} {vs:List V} {d:WData} {ds:List WData}:Dw K H v d→jC K H vs ds→jC K H (v::vs) (d::ds)
end
theorem EC{K:PySem.W.Frag}{H:Hp}:∀ ns:List Int,jC K H (ns.map V.int) (ns.map WData.int)
 | []=>.nil
 | n::r=>.cons (.int n) (EC r)
theorem ED{K:PySem.W.Frag}{H:Hp}:∀ (ns:List Int) (xs:List V),jC K H xs (ns.map WData.int)→xs=ns.map V.int
 | [],xs,h=>by
  cases h;rfl
 | n::r,xs,h=>by
  cases h with
  | cons h1 h2=>
   cases h1;rw [ED r _ h2] <;> rfl
section
variable {P:Program}{w:World}{K:PySem.W.Frag}{H:Hp}{h:Heap}{R:WRecords}{cl:Str→Option Addr}
theorem OC{a:Addr}{xs:List V}(hok:HOk P w H h)(KX:K.In h)(q:SqL K H a xs):∃ (its:List Value) (o:Obj) (n:Nat),Vals xs its∧h.get? a=some o∧o.cls = .type "list"∧o.data = .seq its.toArray n:=by
 rcases q with q | ⟨o,its,n,e,hc,_,hd,_,hv⟩
 ·obtain ⟨_,its,n,hv,e⟩:=(show b7 P w H h a (.lst xs) from q.ok hok);exact ⟨its,_,n,hv,e,rfl,rfl⟩
 ·exact ⟨its.toList,o,n,hv,KX _ _ e,hc,by simp [hd]⟩
theorem OD{a:Addr}{xs:List V}(hok:HOk P w H h)(KX:K.In h)(q:SqT K H a xs):∃ (its:List Value) (o:Obj) (n:Nat),Vals xs its∧h.get? a=some o∧o.cls = .type "tuple"∧o.data = .seq its.toArray n:=by
 rcases q with q | ⟨o,its,n,e,hc,hd,_,hv⟩
 ·obtain ⟨_,its,hv,o,e,hc,n,hd⟩:=(show b7 P w H h a (.tup xs) from q.ok hok);exact ⟨its,o,n,hv,e,hc,hd⟩
 ·exact ⟨its.toList,o,n,hv,KX _ _ e,hc,by simp [hd]⟩
mutual
theorem Dw.reads(hok:HOk P w H h)(KX:K.In h):∀ (d:WData) (v:V) (u:Value),Dw K H v d→RelV v u→∃ as,ReadsW R cl h u d as
 | .none,_,_,x,r=>by
  cases x;cases r;exact ⟨_,ReadsW.none⟩
 | .bool b,_,_,x,r=>by
  cases x;cases r;exact ⟨_,ReadsW.bool b⟩
 | .int i,_,_,x,r=>by
  cases x;obtain ⟨t,rfl⟩:=r;exact ⟨_,ReadsW.int i t⟩
 | .str s,_,_,x,r=>by
  cases x;obtain ⟨t,rfl⟩:=r;exact ⟨_,ReadsW.str s t⟩
 | .bytes b,_,_,x,r=>by
  cases x;obtain ⟨t,rfl⟩:=r;exact ⟨_,ReadsW.bytes _ t⟩
 | .list ds,_,_,x,r=>by
  cases x with
  | lst hs ha=>
   cases r;obtain ⟨its,o,n,rv,ho,hc,hd⟩:=OC hok KX hs;obtain ⟨as,hr⟩:=Dw.readsAll hok KX ds _ its ha rv;exact ⟨_,ReadsW.list ho hc hd hr⟩
 | .tuple ds,_,_,x,r=>by
  cases x with
  | tup hs ha=>
   cases r;obtain ⟨its,o,n,rv,ho,hc,hd⟩:=OD hok KX hs;obtain ⟨as,hr⟩:=Dw.readsAll hok KX ds _ its ha rv;exact ⟨_,ReadsW.tuple ho hc hd hr⟩
 | .float _,_,_,x,_=>by cases x
 | .dict _,_,_,x,_=>by cases x
 | .bytearray _,_,_,x,_=>by cases x
 | .set _,_,_,x,_=>by cases x
 | .frozenset _,_,_,x,_=>by cases x
 | .obj _ _,_,_,x,_=>by cases x
theorem Dw.readsAll(hok:HOk P w H h)(KX:K.In h):∀ (ds:List WData) (vs:List V) (us:List Value),jC K H vs ds→Vals vs us→∃ as,ReadsAllW R cl h us ds as
 | [],_,_,x,r=>by
  cases x;cases r;exact ⟨_,ReadsAllW.nil⟩
 | d::ds,_,_,x,r=>by
  cases x with
  | cons h1 h2=>
   cases r with
   | cons r1 r2=>
    obtain ⟨as,q1⟩:=Dw.reads hok KX d _ _ h1 r1;obtain ⟨bs,q2⟩:=Dw.readsAll hok KX ds _ _ h2 r2;exact ⟨_,ReadsAllW.cons q1 q2⟩
end
end
mutual
def plW:WData→Bool
 | .none=>true
 | .bool _=>true
 | .int _=>true
 | .str _=>true
 | .bytes _=>true
 | .list xs=>rH xs
 | .tuple xs=>rH xs
 | _=>false
def rH:List WData→Bool
 | []=>true
 | x::r=>plW x&&rH r
end
theorem zQ{α:Type}{f : α→WData}(h:∀ a,plW (f a)=true):∀ l:List α,rH (l.map f)=true
 | []=>rfl
 | x::r=>by
  show (plW (f x)&&rH (r.map f))=true;rw [h x,zQ h r] <;> rfl
theorem jN:∀ (c:Codec) (a:c.denote),plW (c.enc a)=true
 | .unit,_=>rfl
 | .bool,_=>rfl
 | .int _ _,_=>rfl
 | .nat _ _,_=>rfl
 | .u8,_=>rfl
 | .bytes _ _,_=>rfl
 | .text _ _ _ _,_=>rfl
 | .list _ _ c,a=>zQ (fun x=>jN c x) a
 | .pair c d,a=>by
  show (plW (c.enc a.1)&&(plW (d.enc a.2)&&true))=true;rw [jN c a.1,jN d a.2] <;> rfl
 | .triple c d e,a=>by
  show (plW (c.enc a.1)&&(plW (d.enc a.2.1)&&(plW (e.enc a.2.2)&&true)))=true;rw [jN c a.1,jN d a.2.1,jN e a.2.2] <;> rfl
 | .option c,none=>rfl
 | .option c,some x=>jN c x
theorem wA:∀ (cs:List Codec) (a:Codec.denoteAll cs),rH (Codec.encAll cs a)=true
 | [],_=>rfl
 | c::cs,a=>by
  show (plW (c.enc a.1)&&rH (Codec.encAll cs a.2))=true;rw [jN c a.1,wA cs a.2] <;> rfl
theorem mq:∀ {xs:List WData} {d:WData},d∈xs→d.weight≤WData.weightAll xs
 | [],d,h=>absurd h (by simp)
 | x::r,d,h=>by
  show d.weight≤x.weight+1+WData.weightAll r;rcases mem_cons.mp h with e | m
  ·rw [e];omega
  ·have z:=mq m;omega
def toV:Value→V
 | .none=>.non
 | .bool b=>.bl b
 | .int i _=>.int i
 | .str x _=>.str x
 | .bytes b _=>.byt b
 | .ref a=>.ref a
 | _=>.non
def OkU(A:List Addr):Value→Prop
 | .none=>True
 | .bool _=>True
 | .int _ _=>True
 | .str _ _=>True
 | .bytes _ _=>True
 | .ref a=>a∈A
 | _=>False
theorem OkU.mono{A B:List Addr}(h:∀ a∈A,a∈B):∀ {u:Value},OkU A u→OkU B u:=fun {u} x=>by
 cases u with
 | ref a=>exact h a x
 | none=>trivial
 | bool b=>trivial
 | int i t=>trivial
 | str s t=>trivial
 | bytes b t=>trivial
 | _=>exact False.elim x
theorem HZ{A:List Addr}{u:Value}(x:OkU A u):RelV (toV u) u:=by
 cases u with
 | ref a=>rfl
 | none=>rfl
 | bool b=>rfl
 | int i t=>exact ⟨t,rfl⟩
 | str s t=>exact ⟨t,rfl⟩
 | bytes b t=>exact ⟨t,rfl⟩
 | _=>exact False.elim x
theorem iJ{A:List Addr}:∀ {vs:List Value},(∀ u∈vs,OkU A u)→Vals (vs.map toV) vs
 | [],_=>.nil
 | u::r,h=>.cons (HZ (h u (mem_cons_self ..))) (iJ fun x hx=>h x (mem_cons_of_mem _ hx))
def jD(h:Heap)(A:List Addr)(a:Addr):Prop:=∃ vs:List Value,vs.length≤sizeLine∧(∀ u∈vs,OkU A u) ∧
 (h.get? a=some { cls:=.type "list",data:=.seq vs.toArray }∨h.get? a=some { cls:=.type "tuple",data:=.seq vs.toArray })
theorem jD.mono{h:Heap}{A B:List Addr}{a:Addr}(k:∀ a∈A,a∈B)(x:jD h A a):jD h B a:=by
 obtain ⟨vs,h1,h2,h3⟩:=x;exact ⟨vs,h1,fun u hu=>(h2 u hu).mono k,h3⟩
theorem gr{P:Params}{h:Heap}:∀ {vs:List Value} {ds:List WData},WellAll P h vs ds→vs.length=ds.length
 | _,_,.nil=>rfl
 | _,_,.cons _ b=>by
  show _+1=_+1;rw [gr b]
theorem wB{P:Params}{h:Heap}{v:Value}{ds:List WData}(x:Well P h v (.list ds)):∃ (a:Addr) (vs:List Value),v = .ref a∧h.get? a=some { cls:=.type "list",data:=.seq vs.toArray }∧WellAll P h vs ds:=by
 cases x with
 | list ho hall=>exact ⟨_,_,rfl,ho,hall⟩
theorem sU{P:Params}{h:Heap}{v:Value}{ds:List WData}(x:Well P h v (.tuple ds)):∃ (a:Addr) (vs:List Value),v = .ref a∧h.get? a=some { cls:=.type "tuple",data:=.seq vs.toArray }∧WellAll P h vs ds:=by
 cases x with
 | tuple ho hall=>exact ⟨_,_,rfl,ho,hall⟩
theorem wC{P:Params}{h:Heap}{us:List Value}{d:WData}{ds:List WData}(x:WellAll P h us (d::ds)):∃ (v:Value) (vs:List Value),us=v::vs∧Well P h v d∧WellAll P h vs ds:=by
 cases x with
 | cons a b=>exact ⟨_,_,rfl,a,b⟩
theorem EE{n:Nat}(h:n≤1048576):n≤sizeLine:=le_trans h (by decide)
section
variable {P:Params}{h:Heap}
mutual
theorem Ia:∀ (d:WData) (v:Value),Well P h v d→plW d=true→d.weight≤1048576→∃ A:List Addr,OkU A v∧∀ a∈A,jD h A a
 | .none,_,x,_,_=>by
  cases x;exact ⟨[],trivial,fun a m=>absurd m (by simp)⟩
 | .bool b,_,x,_,_=>by
  cases x;exact ⟨[],trivial,fun a m=>absurd m (by simp)⟩
 | .int i,_,x,_,_=>by
  cases x;exact ⟨[],trivial,fun a m=>absurd m (by simp)⟩
 | .str s,_,x,_,_=>by
  cases x;exact ⟨[],trivial,fun a m=>absurd m (by simp)⟩
 | .bytes b,_,x,_,_=>by
  cases x;exact ⟨[],trivial,fun a m=>absurd m (by simp)⟩
 | .list ds,_,x,p,z=>by
  obtain ⟨a,vs,rfl,ho,hall⟩:=wB x;have z2:WData.weightAll ds≤1048576:=z;obtain ⟨A,h1,h2⟩:=oQ ds _ hall p fun d hd=>le_trans (mq hd) z2;have k:∀ b∈A,b∈a::A:=fun b hb=>mem_cons_of_mem _ hb;refine ⟨a::A,mem_cons_self ..,fun b hb=>?_⟩;rcases mem_cons.mp hb with e | m
  ·rw [e];exact ⟨vs,EE (by rw [gr hall]; exact le_trans (PySem.W.length_le_weightAllW ds) z2),fun u hu=>(h1 u hu).mono k,.inl ho⟩
  ·exact (h2 b m).mono k
 | .tuple ds,_,x,p,z=>by
  obtain ⟨a,vs,rfl,ho,hall⟩:=sU x;have z2:WData.weightAll ds≤1048576:=z;obtain ⟨A,h1,h2⟩:=oQ ds _ hall p fun d hd=>le_trans (mq hd) z2;have k:∀ b∈A,b∈a::A:=fun b hb=>mem_cons_of_mem _ hb;refine ⟨a::A,mem_cons_self ..,fun b hb=>?_⟩;rcases mem_cons.mp hb with e | m
  ·rw [e];exact ⟨vs,EE (by rw [gr hall]; exact le_trans (PySem.W.length_le_weightAllW ds) z2),fun u hu=>(h1 u hu).mono k,.inr ho⟩
  ·exact (h2 b m).mono k
 | .float _,_,_,p,_=>noConfusion (show false=true from p)
 | .dict _,_,_,p,_=>noConfusion (show false=true from p)
 | .bytearray _,_,_,p,_=>noConfusion (show false=true from p)
 | .set _,_,_,p,_=>noConfusion (show false=true from p)
 | .frozenset _,_,_,p,_=>noConfusion (show false=true from p)
 | .obj _ _,_,_,p,_=>noConfusion (show false=true from p)
theorem oQ:∀ (ds:List WData) (vs:List Value),WellAll P h vs ds→rH ds=true→(∀ d∈ds,d.weight≤1048576)→∃ A:List Addr,(∀ u∈vs,OkU A u)∧∀ a∈A,jD h A a
 | [],_,x,_,_=>by
  cases x;exact ⟨[],fun u m=>absurd m (by simp),fun a m=>absurd m (by simp)⟩
 | d::ds,_,x,p,z=>by
  obtain ⟨v,vs,rfl,x1,x2⟩:=wC x;have q:plW d=true∧rH ds=true:=Bool.and_eq_true_iff.mp p;obtain ⟨A,a1,a2⟩:=Ia d v x1 q.1 (z d (mem_cons_self ..));obtain ⟨B,b1,b2⟩:=oQ ds vs x2 q.2 fun e he=>z e (mem_cons_of_mem _ he);have kA:∀ b∈A,b∈A++B:=fun b hb=>mem_append.mpr (.inl hb);have kB:∀ b∈B,b∈A++B:=fun b hb=>mem_append.mpr (.inr hb);refine ⟨A++B,fun u hu=>?_,fun b hb=>?_⟩
  ·rcases mem_cons.mp hu with e | m
   ·rw [e];exact a1.mono kA
   ·exact (b1 u m).mono kB
  ·rcases mem_append.mp hb with m | m
   ·exact (a2 b m).mono kA
   ·exact (b2 b m).mono kB
end
end
def Lu(o:Obj):Option HO:=match o.data with
 | .seq vs _=>if (o.cls==Value.type "list")=true then some (.frz o (.lst (vs.toList.map toV))) else some (.frz o (.tup (vs.toList.map toV)))
 | _=>none
def iU(K:PySem.W.Frag)(h:Heap)(A:List Addr):Hp:=fun b=>if b∈A then (if (K.lookup b).isNone=true then (h.get? b).bind Lu else none) else none
def zR(H:Hp):Prop:=∀ b,H b=none∨∃ o u,H b=some (.frz o u)
theorem zS(vs:List Value):Lu { cls:=.type "list",data:=.seq vs.toArray }=some (.frz { cls:=.type "list",data:=.seq vs.toArray } (.lst (vs.map toV))):=by
 show (if (Value.type "list"==Value.type "list")=true then some (HO.frz { cls:=.type "list",data:=.seq vs.toArray } (.lst (vs.toArray.toList.map toV))) else some (HO.frz { cls:=.type "list",data:=.seq vs.toArray } (.tup (vs.toArray.toList.map toV))))=_;rw [if_pos (beq_self_eq_true _)]
theorem zT(vs:List Value):Lu { cls:=.type "tuple",data:=.seq vs.toArray }=some (.frz { cls:=.type "tuple",data:=.seq vs.toArray } (.tup (vs.map toV))):=by
 show (if (Value.type "tuple"==Value.type "list")=true then some (HO.frz { cls:=.type "tuple",data:=.seq vs.toArray } (.lst (vs.toArray.toList.map toV))) else some (HO.frz { cls:=.type "tuple",data:=.seq vs.toArray } (.tup (vs.toArray.toList.map toV))))=_;rw [if_neg (by decide)]
section
variable {P:Program}{w:World}{K:PySem.W.Frag}{h:Heap}{A:List Addr}
theorem r6{b:Addr}{o:Obj}(hb:b∈A)(hk:K.lookup b=none)(e:h.get? b=some o):iU K h A b=Lu o:=by
 unfold iU;rw [if_pos hb,hk,if_pos (show (none:Option Obj).isNone=true from rfl),e] <;> rfl
theorem Lv{b:Addr}{u:HO}(q:iU K h A b=some u):b∈A∧K.lookup b=none:=by
 unfold iU at q;by_cases hb:b∈A
 ·rw [if_pos hb] at q;cases hk:K.lookup b with
  | none=>exact ⟨hb,rfl⟩
  | some o=>
   rw [hk,if_neg (by simp)] at q;cases q
 ·rw [if_neg hb] at q;cases q
theorem r8 (ar : ∀ a ∈ A, jD h A a) {b : Addr} {u : HO} (q : iU K h A b = some u) : K.lookup b = none ∧ ∃ vs : List Value, vs.length ≤ sizeLine ∧ (∀ u ∈ vs, OkU A u) ∧
    ((h.get? b = some { cls := .type "list", data := .seq vs.toArray } ∧ u = .frz { cls := .type "list", data := .seq vs.toArray } (.lst (vs.map toV))) ∨
     (h.get? b = some { cls := .type "tuple", data := .seq vs.toArray } ∧ u = .frz { cls := .type "tuple", data := .seq vs.toArray } (.tup (vs.map toV)))) := by
  obtain ⟨hb, hk⟩ := Lv q;obtain ⟨vs, h1, h2, h3⟩ := ar b hb;refine ⟨hk, vs, h1, h2, ?_⟩;rcases h3 with e | e
  · rw [r6 hb hk e, zS] at q;exact .inl ⟨e, (Option.some.inj q).symm⟩
  · rw [r6 hb hk e, zT] at q;exact .inr ⟨e, (Option.some.inj q).symm⟩
theorem FR(ar:∀ a∈A,jD h A a):zR (iU K h A):=fun b=>by
 cases q:iU K h A b with
 | none=>exact .inl rfl
 | some u=>
  obtain ⟨_,vs,_,_,⟨_,e⟩ | ⟨_,e⟩⟩:=r8 ar q
  ·exact .inr ⟨_,_,by rw [e]⟩
  ·exact .inr ⟨_,_,by rw [e]⟩
theorem Lw(ar:∀ a∈A,jD h A a):HOk P w (iU K h A) h:=fun b u q=>by
 obtain ⟨_,vs,h1,h2,⟨e,rfl⟩ | ⟨e,rfl⟩⟩:=r8 ar q
 ·exact ⟨e,by rw [length_map]; exact h1,vs,_,iJ h2,e⟩
 ·exact ⟨e,by rw [length_map]; exact h1,vs,iJ h2,_,e,rfl,_,rfl⟩
theorem r9{c c':Value}{vs us:List Value}(e:(some { cls:=c,data:=.seq vs.toArray }:Option Obj)=some { cls:=c',data:=.seq us.toArray }):c=c'∧vs=us:=by
 have e1:=Option.some.inj e;have e2:c=c':=congrArg Obj.cls e1;have e3:Data.seq vs.toArray=Data.seq us.toArray:=congrArg Obj.data e1;injection e3 with e4;refine ⟨e2,?_⟩;have e5:=congrArg toList e4;simpa using e5
theorem Uv(KX:K.In h)(ar:∀ a∈A,jD h A a){a:Addr}{vs:List Value}(ha:a∈A)(e:h.get? a=some { cls:=.type "list",data:=.seq vs.toArray }):(∀ u∈vs,OkU A u)∧SqL K (iU K h A) a (vs.map toV):=by
 obtain ⟨us,h1,h2,h3⟩:=ar a ha;have hu:us=vs:=by
  rcases h3 with q | q
  ·rw [e] at q;exact (r9 q).2.symm
  ·rw [e] at q;exact absurd (Value.type.inj (r9 q).1) (by decide)
 subst hu;refine ⟨h2,?_⟩;cases hk:K.lookup a with
 | none=>exact .inl (.inr ⟨_,by rw [r6 ha hk e,zS]⟩)
 | some o=>
  have e2:=KX a o hk;rw [e] at e2;obtain rfl:=Option.some.inj e2;exact .inr ⟨_,us.toArray,_,hk,rfl,rfl,rfl,by rw [size_toArray]; exact h1,by simpa using iJ h2⟩
theorem Uw(KX:K.In h)(ar:∀ a∈A,jD h A a){a:Addr}{vs:List Value}(ha:a∈A)(e:h.get? a=some { cls:=.type "tuple",data:=.seq vs.toArray }):(∀ u∈vs,OkU A u)∧SqT K (iU K h A) a (vs.map toV):=by
 obtain ⟨us,h1,h2,h3⟩:=ar a ha;have hu:us=vs:=by
  rcases h3 with q | q
  ·rw [e] at q;exact absurd (Value.type.inj (r9 q).1) (by decide)
  ·rw [e] at q;exact (r9 q).2.symm
 subst hu;refine ⟨h2,?_⟩;cases hk:K.lookup a with
 | none=>exact .inl (.inr ⟨_,by rw [r6 ha hk e,zT]⟩)
 | some o=>
  have e2:=KX a o hk;rw [e] at e2;obtain rfl:=Option.some.inj e2;exact .inr ⟨_,us.toArray,_,hk,rfl,rfl,by rw [size_toArray]; exact h1,by simpa using iJ h2⟩
mutual
theorem OE{Pm:Params}(KX:K.In h)(ar:∀ a∈A,jD h A a):∀ (d:WData) (v:Value),Well Pm h v d→plW d=true→OkU A v→Dw K (iU K h A) (toV v) d
 | .none,_,x,_,_=>by
  cases x;exact .non
 | .bool b,_,x,_,_=>by
  cases x;exact .bl b
 | .int i,_,x,_,_=>by
  cases x;exact .int i
 | .str s,_,x,_,_=>by
  cases x;exact .str s
 | .bytes b,_,x,_,_=>by
  cases x;have z:=Dw.byt (K:=K) (H:=iU K h A) b.toArray;exact z
 | .list ds,_,x,p,hu=>by
  obtain ⟨a,vs,rfl,ho,hall⟩:=wB x;obtain ⟨h2,hs⟩:=Uv KX ar hu ho;exact .lst hs (yd KX ar ds _ hall p h2)
 | .tuple ds,_,x,p,hu=>by
  obtain ⟨a,vs,rfl,ho,hall⟩:=sU x;obtain ⟨h2,hs⟩:=Uw KX ar hu ho;exact .tup hs (yd KX ar ds _ hall p h2)
 | .float _,_,_,p,_=>noConfusion (show false=true from p)
 | .dict _,_,_,p,_=>noConfusion (show false=true from p)
 | .bytearray _,_,_,p,_=>noConfusion (show false=true from p)
 | .set _,_,_,p,_=>noConfusion (show false=true from p)
 | .frozenset _,_,_,p,_=>noConfusion (show false=true from p)
 | .obj _ _,_,_,p,_=>noConfusion (show false=true from p)
theorem yd{Pm:Params}(KX:K.In h)(ar:∀ a∈A,jD h A a):∀ (ds:List WData) (vs:List Value),WellAll Pm h vs ds→rH ds=true→(∀ u∈vs,OkU A u)→jC K (iU K h A) (vs.map toV) ds
 | [],_,x,_,_=>by
  cases x;exact .nil
 | d::ds,_,x,p,hu=>by
  obtain ⟨v,vs,rfl,x1,x2⟩:=wC x;have q:plW d=true∧rH ds=true:=Bool.and_eq_true_iff.mp p;exact .cons (OE KX ar d v x1 q.1 (hu _ (mem_cons_self ..))) (yd KX ar ds vs x2 q.2 fun u m=>hu u (mem_cons_of_mem _ m))
end
end
theorem FT{P:Program}{w:World}{K:PySem.W.Frag}{mg mb:Str→Option Value}{CX:CXT}{k:Nat}{fa:Addr}{fd:FuncData}{ps:List Str}{sp:Sp}{s₁:Shared}{vals:List Value}{ds:List WData}{R:WRecords}{cl:Str→Option Addr}{d0:WData}
  (KX:K.In s₁.heap) (hns:s₁.heap.Ns mainGlobals mg) (hb:s₁.heap.Ns builtinsNs mb) (hbb:∀ x:Str,x≠"__name__"→mb x=bootBuiltins x) (hlim:s₁.heap.NoLimit) (hg:s₁.gens = #[])
  (hwl:WellAll w.params s₁.heap vals ds) (hpl:rH ds=true) (hwt:∀ d∈ds,d.weight≤1048576) (hr:cM k callerA)
  (F:∀ base:Heap,K.In base→base.Ns mainGlobals mg→aF P w K mg base CX k fa fd ps sp) (hbind:∀ (s:Shared) (us:List Value),us.length=ps.length→BindsTo s fd ⟨us,[]⟩ (ps.zip us)) (hlen:ds.length=ps.length)
  (hsp:∀ (H:Hp) (xs:List V),zR H→jC K H xs ds→sp xs H (fun v H'=>Dw K H' v d0) fun _ _ _=>False)
  (hCX:∀ H e s',CX [] H s₁ (fun _ _ _=>False) e s'→False) :
  codeAny (model P w) callerA (.call (.ref fa) ⟨vals,[]⟩) (fun r s'=>∃ u as,r = .ok (.ret u)∧ReadsW R cl s'.heap u d0 as∧OldK s₁.heap s'.heap∧s'.os=s₁.os∧AllBare s'.gens) s₁:=by
 obtain ⟨A,ho,ar⟩:=oQ ds vals hwl hpl hwt;have hO:zR (iU K s₁.heap A):=FR ar;have hok:HOk P w (iU K s₁.heap A) s₁.heap:=Lw ar;have hS:=yd KX ar ds vals hwl hpl ho;have hV:=iJ ho;have hK:∀ b u,iU K s₁.heap A b=some u→K.lookup b=none:=fun b u q=>(r8 ar q).1;have noA:∀ {b:Addr} {o:Obj} {es:Array DictEntry} {ep:Nat},s₁.heap.get? b=some o→o.data = .dict es ep→iU K s₁.heap A b=none:=fun {b o es ep} e d=>by
  cases q:iU K s₁.heap A b with
  | none=>rfl
  | some u=>
   obtain ⟨_,vs,_,_,⟨e2,_⟩ | ⟨e2,_⟩⟩:=r8 ar q
   ·rw [e2] at e;cases e;have d':Data.seq vs.toArray _=Data.dict es ep:=d;cases d'
   ·rw [e2] at e;cases e;have d':Data.seq vs.toArray _=Data.dict es ep:=d;cases d'
 generalize iU K s₁.heap A=H at hO hok hS hK noA;have base_of:∀ {b:Addr} {o:Obj},s₁.heap.get? b=some o→H b=none→(xP s₁.heap H).get? b=some o:=fun e n=>HA e n;have nsK:∀ {b:Addr} {m:Str→Option Value},s₁.heap.Ns b m→(xP s₁.heap H).Ns b m:=fun {b m} ⟨o,es,ep,e,d,r⟩=>⟨o,es,ep,base_of e (noA e d),d,r⟩;have nK:∀ b o,K.lookup b=some o→H b=none:=fun b o e=>by
  cases q:H b with
  | none=>rfl
  | some u=>
   rw [hK b u q] at e;cases e
 have hKb:K.In (xP s₁.heap H):=fun b o e=>base_of (KX b o e) (nK b o e);have hM:Mod K mg (xP s₁.heap H):=⟨hKb,nsK hns,⟨mb,nsK hb,hbb⟩,let ⟨mc,h1,h2⟩:=hlim; ⟨mc,nsK h1,h2⟩⟩;have e0:BG P w K mg (xP s₁.heap H) callerA [] s₁ H:=⟨rfl,hM,fun b o e=>Ld e,le_of_eq (Fz _ _),trivial,fun b hb=>absurd (show b∈([]:List Addr) from hb) (by simp),hok,.of_eq hg⟩;have hl:vals.length=ps.length:=by rw [gr hwl]; exact hlen
 refine codeAny_mono ((F _ hKb (nsK hns)).run callerA [] s₁ H ⟨vals,[]⟩ vals (vals.map toV) _ _ hr e0 (hbind s₁ vals hl) hV (hsp H _ hO hS)) fun r s' x=>?_;cases r with
 | error e=>exact (hCX H e s' x).elim
 | ok fl=>
  cases fl with
  | next=>exact False.elim x
  | brk=>exact False.elim x
  | cont=>exact False.elim x
  | ret u=>
   obtain ⟨v,H',os,bare,un,hok',r',q⟩:=x;have kept:∀ b o,s₁.heap.get? b=some o→s'.heap.get? b=some o:=fun b o e=>by
    cases q2:H b with
    | none=>exact un.keep b o e q2 (by intro z; exact absurd (show b∈([]:List Addr) from z) (by simp)) (by simp)
    | some u2=>
     rcases hO b with z | ⟨ob,u3,z⟩
     ·rw [q2] at z;cases z
     ·have z2:=un.rB b ob _ z;obtain ⟨e1,_⟩:=hok b _ z;obtain ⟨e2,_⟩:=hok' b _ z2;rw [e] at e1;cases e1;exact e2
   have KX':K.In s'.heap:=fun b o e=>kept b o (KX b o e);obtain ⟨as,hrd⟩:=Dw.reads (R:=R) (cl:=cl) hok' KX' d0 v u q r';exact ⟨u,as,rfl,hrd,OldK.of_keep kept,os,bare⟩
theorem sV{ds:List WData}(h:WData.layableAll ds=true):∀ d∈ds,d.weight≤1048576:=fun d hd=>
 (PySem.W.layableW_iff.mp (all_eq_true.mp h d hd)).2.2
theorem sW:∀ (cs:List Codec) (a:Codec.denoteAll cs),(Codec.encAll cs a).length=cs.length
 | [],_=>rfl
 | c::cs,a=>by
  show (Codec.encAll cs a.2).length+1=cs.length+1;rw [sW cs a.2]
theorem FU{r:OpenSpec}{k:Nat}{q:Program}{loose:List Str}{XP:(Str→Option Value)→Heap→Prop}{YP:World→Heap→Prop}{d:DefRec}{K:Params→PySem.W.Frag}{CX:World→CXT}{ps:List Str}{sp:World→Sp}
  (hwell:r.wellSaid=true) (hdf:d.params.defaults=[]) (hlen:r.args.length=ps.length) (hr:cM k callerA)
  (hY:∀ (w:World) (h:Heap),YP w h→(K w.params).In h)
  (F:∀ (w:World) (mg:Str→Option Value) (fa:Addr) (h:Heap),YP w h→(K w.params).In h→h.Ns mainGlobals mg→mg d.name=some (.ref fa) →
   ∃ fd:FuncData,(∀ (s:Shared) (us:List Value),us.length=ps.length→BindsTo s fd ⟨us,[]⟩ (ps.zip us)) ∧
    ∀ base:Heap,(K w.params).In base→base.Ns mainGlobals mg→aF r.prog w (K w.params) mg base (CX w) k fa fd ps (sp w))
  (hsp:∀ (w:World) (H:Hp) (xs:List V) (a:Codec.denoteAll r.args),zR H→Codec.withinAll r.args a=true→Codec.app r.args r.asked a=true→jC (K w.params) H xs (Codec.encAll r.args a) →
   sp w xs H (fun v H'=>Dw (K w.params) H' v (r.ret.enc (Codec.app r.args r.f a))) fun _ _ _=>False)
  (hCX:∀ (w:World) (H:Hp) (s:Shared) (e:Value) (s':Shared),CX w [] H s (fun _ _ _=>False) e s'→False) :
  WalkOS q loose XP YP r d [] (fun f vs=>PySem.call f vs):=by
 intro w s_0 s₁ mg mb G Y fa o pm cd doc dV kV ho hd hcd hD hmg hg args vals as hpre hlay hrd hwl hlo;obtain ⟨a,e1,e2⟩:=PySem.W.os_pre_some hpre;obtain ⟨e3,hwi⟩:=Codec.encAll_of_decAll r.args args a e1;subst e3;have KX:=hY w _ Y;obtain ⟨fd,hb,hF⟩:=F w mg fa _ Y KX G.T.g hmg;refine PySem.W.enter_call (codeAny_mono (FT (R:=[]) (cl:=classAt s_0.heap) (d0:=r.ret.enc (Codec.app r.args r.f a)) KX G.T.g G.T.b G.T.builtins G.T.nolimit hg hwl (wA _ _) (sV hlay) hr hF hb (by rw [sW]; exact hlen)
  (fun H xs hO hS=>hsp w H xs a hO hwi e2 hS) fun H e s'=>hCX w H s₁ e s') fun r' s' hq=>?_)
 obtain ⟨u,as',rfl,h1,h2,h3,h4⟩:=hq;exact ⟨.inl ⟨u,_,as',rfl,fun _=>rfl,h1,(OpenSpec.post_iff hwell hwi _ _).mpr rfl,fun z=>noConfusion (show false=true from z)⟩,h2,h3,h4⟩
theorem BO{r:OpenSpec}{k:Nat}{q:Program}{loose:List Str}{XP:(Str→Option Value)→Heap→Prop}{YP:World→Heap→Prop}{d:DefRec}{K:Params→PySem.W.Frag}{CX:CXT}{ps:List Str}{sp:PySem.W.Frag→Sp}
  (hwell:r.wellSaid=true) (hdf:d.params.defaults=[]) (hlen:r.args.length=ps.length) (hr:cM k callerA)
  (hY:∀ (w:World) (h:Heap),YP w h→(K w.params).In h)
  (F:∀ (w:World) (mg:Str→Option Value) (fa:Addr) (h:Heap),YP w h→(K w.params).In h→h.Ns mainGlobals mg→mg d.name=some (.ref fa) →
   ∃ fd:FuncData,(∀ (s:Shared) (us:List Value),us.length=ps.length→BindsTo s fd ⟨us,[]⟩ (ps.zip us)) ∧
    ∀ base:Heap,(K w.params).In base→base.Ns mainGlobals mg→aF r.prog w (K w.params) mg base CX k fa fd ps (sp (K w.params)))
  (hsp:∀ (K:PySem.W.Frag) (H:Hp) (xs:List V) (a:Codec.denoteAll r.args),zR H→Codec.withinAll r.args a=true→Codec.app r.args r.asked a=true→jC K H xs (Codec.encAll r.args a) →
   sp K xs H (fun v H'=>Dw K H' v (r.ret.enc (Codec.app r.args r.f a))) fun _ _ _=>False)
  (hCX:∀ (H:Hp) (s:Shared) (e:Value) (s':Shared),CX [] H s (fun _ _ _=>False) e s'→False) :
  WalkOS q loose XP YP r d [] (fun f vs=>PySem.call f vs):=
 FU (K:=K) (CX:=fun _=>CX) (sp:=fun w=>sp (K w.params)) hwell hdf hlen hr hY F (fun w H xs a h1 h2 h3 h4=>hsp (K w.params) H xs a h1 h2 h3 h4) fun _ H s e s'=>hCX H s e s'
end L2
end
namespace LX
open PySem PySem.Spec PyProof.Rows L2
abbrev iV(rest:List Value):Obj:={ cls:=.type "tuple",data:=.seq rest.toArray }
abbrev ia(C t:Addr):Obj:={ cls:=.ref C,data:=.fields #[.ref t,.none,.none,.none,.bool false,.none] }
section
variable {prog:Program}{w:World}{A:Around}{R:Result→Shared→Prop}{h:Heap}{g:Array GenState}{d:Drawn}{t:Nat}{os:OsState}
variable {nm q:Str}{C N fI:Addr}{bs bm:List Value}{hdct:Bool}{sn:List Str}{sub:List Value}{ab:Bool}{col:Option Bool}{dd:Option Addr}{k0 k1 k2 k3 k5:Option Value}{B newId initId:String}
theorem zU(F:ExcBaseFacts B newId initId bm){rest:List Value}
  (hC:h.get? C=some (excClassObj nm q C N bs bm hdct sn sub ab col dd k0 k1 k2 k3 k5 newId))
  (hi:Looks (model prog w) h (typeLookup (.ref C) "__init__") (some (.ref fI)))
  (hb:∀ self,Looks (model prog w) h (bindSpecial (.ref fI) self) (.ref fI,[self])) (hrest:rest.length≤sizeLine)
  (hq:codeAny (model prog w) (A.under (.builtin "type.__call__" ⟨.ref C::rest,[]⟩)) (.call (.ref fI) ⟨.ref (h.objs.size+1)::rest,[]⟩)
   (InitBack (h.objs.size+1) R) ⟨(h.push (iV rest)).push (ia C h.objs.size),g,d,t,os⟩) :
  codeAny (model prog w) A (.call (.ref C) ⟨rest,[]⟩) R ⟨h,g,d,t,os⟩:=by
 have f1:=tc_lookup;have f2:=tc_bind (.ref C);have hT:(⟨h,g,d,t,os⟩:Shared).TypeIs (.ref C) "type":=⟨_,hC,rfl⟩;refine codeAny_of_tree ?_;show wpAny _ _ (callAny (.ref C) _) _ _ _
 repeat (any_goals (first | assumption | with_reducible refine wpAny_loadPart_at hC ?_ | wp_step))
 refine ⟨rfl,?_⟩;refine codeAny_call_builtin_at (Code.quiet_builtin _ (by decide +kernel)) entry_typeCall (wpAny_check_type_call_sub hC ?_)
 repeat (first | with_reducible refine wpAny_loadPart_at hC ?_ | with_reducible refine wpAny_madeBy_exc hC ?_ | wp_step)
 refine codeAny_call_builtin_code (Code.quiet_builtin _ F.quiet) (wpAny_check_new_sub F hC ?_);refine codeAny_exc_new_sub F hC ?_ hrest;show wpAny _ _ _ _ _ _;have kk:∀ b o,h.get? b=some o→((h.push (iV rest)).push (ia C h.objs.size)).get? b=some o:=fun b o e=>Heap.get?_push_of_some _ (Heap.get?_push_of_some _ e);have hC1:=kk _ _ hC;have hget:((h.push (iV rest)).push (ia C h.objs.size)).get? (h.objs.size+1)=some (ia C h.objs.size):=by heap_get
 have hcC:(Value.ref C::bm).contains (.ref C)=true:=by simp
 have i1:=hi.keeps kk;have b1:=(hb (.ref (h.objs.size+1))).keeps kk;unfold isInstance
 repeat (first | with_reducible refine wpAny_loadPart_at hget ?_ | (with_reducible refine wpAny_isSubtype_exc hC1 ?_; rw [hcC]) | wp_step)
 show wpAny _ _ (isSubtype (.ref C) (.ref C)) _ _ _;refine wpAny_isSubtype_exc hC1 ?_;rw [hcC];change wpAny _ _ _ _ _ (⟨(h.push (iV rest)).push (ia C h.objs.size),g,d,t,os⟩:Shared);unfold callSpecial? specialOf;have t1:Looks (model prog w) ((h.push (iV rest)).push (ia C h.objs.size)) (typeOf (.ref (h.objs.size+1))) (.ref C):=(Looks.ld hget).andThen .now
 repeat (first | with_reducible refine wpAny_call ?_ | lk)
 refine codeAny_mono hq fun r s' z=>?_;rcases r with e | (v | _ | _ | _) <;> first | exact z | exact z.elim | skip
 obtain ⟨rfl,z⟩:=z;exact wpAny_pure (wpAny_pure z)
end
abbrev vbm:List Value:=[.type "ValueError",.type "Exception",.type "BaseException",.type "object"]
def vq(K:PySem.W.Frag)(C:Addr):Prop:=
 ∃ nm q N bs hdct sn sub ab col dd k0 k1 k2 k3 k5,K.lookup C=some (excClassObj nm q C N bs vbm hdct sn sub ab col dd k0 k1 k2 k3 k5 "ValueError.__new__")
abbrev cw(C:Addr)(dx:Option Addr)(t:Addr)(tb:Value):Obj:={ cls:=.ref C,dict:=dx,data:=.fields #[.ref t,tb,.none,.none,.bool false,.none] }
def ExO(C a:Addr)(dx:Option Addr):HO:=.ext fun h=>∃ t tb,h.get? a=some (cw C dx t tb)
def ExN(C a:Addr)(dx:Option Addr):HO:=.ext fun h=>∃ t,h.get? a=some (cw C dx t .none)
section
variable {P:Program}{w:World}{H:Hp}{h:Heap}{a C:Addr}{dx:Option Addr}
theorem BP{t:Addr}{tb:Value}(e:h.get? a=some (cw C dx t tb)):b7 P w H h a (ExO C a dx):=
 ⟨⟨t,tb,e⟩,⟨_,e⟩,fun _ _ ⟨t',tb',e'⟩ k=>⟨t',tb',k _ e'⟩⟩
theorem yf{t:Addr}(e:h.get? a=some (cw C dx t .none)):b7 P w H h a (ExN C a dx):=
 ⟨⟨t,e⟩,⟨_,e⟩,fun _ _ ⟨t',e'⟩ k=>⟨t',k _ e'⟩⟩
theorem sf(hok:HOk P w H h)(e:H a=some (ExN C a dx)):∃ t,h.get? a=some (cw C dx t .none):=(hok a _ e).1
theorem Lx(hok:HOk P w H h)(e:H a=some (ExO C a dx)):∃ t tb,h.get? a=some (cw C dx t tb):=(hok a _ e).1
end
theorem OF{H:Hp}{a:Addr}{o:HO}(e:H a=some o):upd H a o=H:=by
 funext b;unfold upd;by_cases hb:b=a
 ·rw [if_pos hb,hb,e]
 ·rw [if_neg hb]
theorem Ly(K:PySem.W.Frag):PySem.W.findCls K (.type "ValueError") (.type "type") "__init__"=some (.val (.builtin "ValueError.__init__")):=by kernel_rfl
theorem Ri:typeOf (.type "ValueError")=pure (.type "type"):=by kernel_rfl
theorem Lz:bootBuiltins "ValueError"=some (.type "ValueError"):=by kernel_rfl
theorem Rj:Manifest.isStub "ValueError"=false:=by decide +kernel
section
variable {X:Cx}{C:Addr}
theorem sX(hc:vq X.K C):gm X (.builtin "ValueError.__init__") (fun xs H Q=>∃ (a:Addr) (dx:Option Addr) (rest:List V),xs = .ref a::rest∧H a=some (ExN C a dx)∧rest.length≤sizeLine∧Q .non H):=by
 intro pins s σ H xs us Q I r h;obtain ⟨a,dx,rest,rfl,ha,hl,q⟩:=h;obtain ⟨u,ur,rfl,ru,rr⟩:∃ u ur,us=u::ur∧RelV (.ref a) u∧Vals rest ur:=by
  cases r with
  | cons r1 r2=>exact ⟨_,_,rfl,r1,r2⟩
 obtain rfl:u=Value.ref a:=ru;obtain ⟨t,e⟩:=sf I.hok ha;obtain ⟨nm,qn,N,bs,hdct,sn,sub,ab,col,dd,k0,k1,k2,k3,k5,hk⟩:=hc;have hC:=I.kIn _ _ hk;have F:=excBase_ValueError;have fin:∀ h',(∀ b u,b≠a→s.heap.get? b=some u→h'.get? b=some u)→(∃ t',h'.get? a=some (cw C dx t' .none))→EP X pins σ Q .none { s with heap:=h' }:=fun h' k ⟨t',e'⟩=>
  ⟨.non,H,by
   have J:=I.write (x:=a) (e:=a) (o:=ExN C a dx) (h':=h') (t':=s.toks) (by rw [ha]; exact True.intro) (.inl rfl) k ⟨_,e'⟩ (yf e');rw [OF ha] at J;exact J,rfl,q⟩
 have hlen:ur.length≤sizeLine:=by rw [← rr.length]; exact hl
 obtain ⟨hp,g,d,tk,os⟩:=s;refine wpAny_call (codeAny_call_builtin F.init.plain F.initEntry (wpAny_check_init_sub F hC e rfl ?_))
 wp_walk
 have hne:a<hp.objs.size:=Heap.lt_size e;refine fin _ (fun b u hb hg=>?_) ⟨hp.objs.size,?_⟩
 ·rw [Heap.get?_update_other _ _ (Ne.symm hb)];exact Heap.get?_push_of_some _ hg
 ·rw [Heap.get?_update_self _ (Heap.get?_push_of_some _ e) rfl];rfl
theorem zV{r:List V→Hp→VK→Prop}{p apos pos:Pos}{e:Expr}{es:List Expr}{t:TA}(hc:gm X (.builtin "ValueError.__init__") r)(hg:Gl X "ValueError")(hm:X.mg "ValueError"=none)(ha:PA X (e::es) t)
  (he:starEach (e::es) X.env=(false,eval e X.env)::starEach es X.env:=by rfl) (hpl:(backTo pos (starEach es X.env)).any (·.1)=false:=by rfl) {pl:Sem Bool}
  (ht:eval (.Call (.Attribute (.Name "ValueError" p) "__init__" apos) (e::es) [] pos) X.env=(do
   let ov ← eval (.Name "ValueError" p) X.env
   standAt apos.atName
   let (f,first) ← holding [ov] (getMethod ov "__init__" pl)
   callWith pos f first (backTo pos (starEach (e::es) X.env)) (backToKw pos (keywordEach [] X.env))):=by rfl) :
  PE X (.Call (.Attribute (.Name "ValueError" p) "__init__" apos) (e::es) [] pos) (tCB r t):=by
 intro pins s σ H Q I h;refine methodCall_KW (pl:=pl) (mi (u:=.type "ValueError") I hg hm Lz ?_) ht;obtain ⟨m,F⟩:=I.fr;refine PySem.W.method_type (K:=X.K) (T:="ValueError") (name:="__init__") (v:=.builtin "ValueError.__init__") F I.ok.mod.kin Ri Rj (Ly _) (by kernel_rfl) ?_;have J:=I.tok (s.toks+1);exact PyProof.Rows.callWith_builtin1 (thn (ha pos pins _ σ H _ J h) fun us s1 ⟨vs,H1,I1,r1,q1⟩=>hc pins s1 σ H1 vs us Q I1 r1 q1) he hpl
theorem BQ(self:Value):refuseLoop self "__setattr__" vbm=pure ():=by kernel_rfl
theorem LA(C:Addr):(Value.ref C::vbm).contains (.type "object")=true:=by rw [contains_cons]; rfl
end
section
variable {prog:Program}{w:World}{A:Around}{E:Value→Shared→Prop}{s:Shared}{K:PySem.W.Frag}{a C:Addr}{name:Str}{v:Value}
theorem LB{t:Addr}{tb:Value}{Q:Unit→Shared→Prop}(X:K.In s.heap)(e:s.heap.get? a=some (cw C none t tb))(hc:vq K C)(hd:hasDictIn K C=true)
  (hs:findIn K (.ref C) "__setattr__"=some (some (.builtin "object.__setattr__"))) (n:aP K C name)
  (h:∀ h' d,s.heap.objs.size≤d→h'.Ns1 d (fun y=>if y=name then some v else none)→h'.get? a=some (cw C (some d) t tb)→(∀ b u,b≠a→s.heap.get? b=some u→h'.get? b=some u) →
   Q () { s with heap:=h',toks:=s.toks+2 }) :
  wpAny (model prog w) A (setAttr (.ref a) name v) Q E s:=by
 have SF:=PySem.F.store_object;obtain ⟨nm,qn,N,bs,hdct,sn,sub,ab,col,dd,k0,k1,k2,k3,k5,hk⟩:=hc;have J:PySem.W.InstAt s.heap a (cw C none t tb) C none:=⟨e,rfl,rfl,True.intro⟩;refine set_plain X J hs ?_;have hcls:clsIn K C=some { name:=nm,bases:=bs,mro:=.ref C::vbm,ns:=N,qualname:=qn,hasDict:=hdct,slotNames:=sn,subclasses:=sub,abstract:=ab,collection:=col,hasDel:=false }:=by
  unfold PySem.W.clsIn;rw [hk]
 have tt:Looks (model prog w) s.heap (isInstance (.ref a) (.type "object")) true:=
  J.type.andThen (looks_mroIn X (by unfold mroIn; rw [hcls,bind_some,if_neg (by rw [show ((Value.ref C::vbm).isEmpty)=false from rfl]; decide),LA]))
 refine codeAny_call_builtin SF.slot.plain SF.entry (@check_slot (model prog w) _ _ { s with toks:=s.toks+1 } "object.__setattr__" "object" "__setattr__" (.ref a) [.str name s.toks,v] [] _ SF.kind SF.split tt (SF.args (.ref a) (.str name s.toks) v) ?_);have hm:Looks (model prog w) s.heap (mroOf (.ref C)) (.ref C::vbm):=(looks_clsIn X hcls).andThen .now;rw [osa_eq,refuse_eq];refine wpAny_bind (wpAny_bind (Looks.here (s:={ s with toks:=s.toks+1 }) J.type (wpAny_bind (Looks.here (s:={ s with toks:=s.toks+1 }) hm ?_))));rw [refuseLoop_ref,BQ];refine wpAny_pure (wpAny_bind (Looks.here (s:={ s with toks:=s.toks+1 }) J.type (wpAny_bind (Looks.here (s:={ s with toks:=s.toks+1 }) (looks_findIn X n) (wpAny_bind ?_)))));refine wpAny_pure (a:=none) ?_;obtain ⟨cd,hcd,hd'⟩:=any_some hd;have hx:s.heap.get? a=some ⟨.ref C,none,.fields #[.ref t,tb,.none,.none,.bool false,.none],#[]⟩:=e;refine wpAny_bind (wpAny_pure (wpAny_bind (wpAny_bind (wpAny_loadPart hx (wpAny_bind (Looks.here (s:={ s with toks:=s.toks+1 }) (looks_clsIn X hcd) ?_))))));rw [hd'];show wpAny _ _ (alloc emptyDict >>= fun d=>update a (fun o=>{ cls:=o.cls,dict:=some d,data:=o.data,slots:=o.slots }) >>= fun _=>dictMade (.ref C) a d) _ _ _;refine wpAny_bind (wpAny_alloc (wpAny_bind (wpAny_update (Heap.get?_push_of_some _ hx) ?_)));refine wpAny_bind (wpAny_pure (wpAny_pure (a:=some s.heap.objs.size) ?_));have e1:=Heap.get?_update_self (fun o:Obj=>{ cls:=o.cls,dict:=some s.heap.objs.size,data:=o.data,slots:=o.slots }) (Heap.get?_push_of_some emptyDict hx) rfl;have hne:a≠s.heap.objs.size:=ne_of_lt (Heap.lt_size hx);have e2:=(Heap.get?_update_other (s.heap.push emptyDict) (fun o:Obj=>{ cls:=o.cls,dict:=some s.heap.objs.size,data:=o.data,slots:=o.slots }) hne).trans (Heap.get?_push_size s.heap rfl);have n0:=Heap.Ns1.of_empty (h:=(s.heap.push emptyDict).update a (fun o:Obj=>{ cls:=o.cls,dict:=some s.heap.objs.size,data:=o.data,slots:=o.slots })) (a:=s.heap.objs.size) ⟨emptyDict,#[],_,e2,rfl,(fun e he=>absurd he (by simp)),fun _=>rfl⟩;refine wpAny_bind (wpAny_pure (wpAny_bind ?_));refine wpAny_nsSet1 (s:={ s with heap:=_,toks:=s.toks+1 }) n0 fun h' hn2 hs2=>?_;have hw0:PySem.Within (fun _:Str=>(none:Option Value)) []:=fun y hy=>absurd rfl hy;obtain ⟨oD,esD,epD,hoD,hdD,hcD⟩:=hn2.count (PySem.Within.cons name v hw0);refine wpAny_bind (wpAny_lookBehind hoD (by rw [hdD]; exact pastItsLine_dict (le_trans hcD (by show 1≤sizeLine+1; omega))) ?_);refine wpAny_pure (h _ _ (le_refl _) hn2 ((hs2.2 _ hne).trans e1) fun b u hb q=>?_);have hb2:b≠s.heap.objs.size:=ne_of_lt (Heap.lt_size q);rw [hs2.2 _ hb2,Heap.get?_update_other _ _ (Ne.symm hb)];exact Heap.get?_push_of_some _ q
end
theorem Un.OG{fs ex:List Addr}{H:Hp}{h h':Heap}{a d:Addr}{o o':HO}(ha:Mut (H a))(hd:h.objs.size≤d)(hn:H d=none)(k:∀ b u,b≠a→h.get? b=some u→h'.get? b=some u)(he:∃ u,h'.get? a=some u) :
  Un fs ex H (upd (upd H d o) a o') h h':=by
 have na:∀ b,H b=none→b≠a:=fun b n z=>by subst z; rw [n] at ha; exact ha
 have nd:∀ b u,h.get? b=some u→b≠d:=fun b u q=>ne_of_lt (lt_of_lt_of_le (Heap.lt_size q) hd);have hm:∀ b u,H b=some u→¬ Mut (some u)→b≠a:=fun b u q nm z=>by subst z; rw [q] at ha; exact nm ha
 refine ⟨fun b u q n _ _=>k b u (na b n) q,fun b u q n _ _=>⟨u.slots,k b u (na b n) q⟩,fun b u q n _=>by rw [aq (na b n),aq (nd b u q)]; exact n,fun b u q _=>?_,
  fun b xs q=>by rw [aq (hm b _ q fun z=>z),aq (ak q hn)]; exact q,fun b u xs q=>by rw [aq (hm b _ q fun z=>z),aq (ak q hn)]; exact q,
  fun b ps q=>⟨#[],by rw [aq (hm b _ q fun z=>z),aq (ak q hn),q]; simp⟩⟩
 by_cases hb:b=a
 ·subst hb; exact he
 ·exact ⟨u,k b u hb q⟩
theorem HOk.OG{P:Program}{w:World}{H:Hp}{h h':Heap}{a d:Addr}{o o':HO}(ok:HOk P w H h)(ha:Mut (H a))(hd:h.objs.size≤d)(k:∀ b u,b≠a→h.get? b=some u→h'.get? b=some u)
  (nd:b7 P w (upd (upd H d o) a o') h' d o) (na:b7 P w (upd (upd H d o) a o') h' a o'):HOk P w (upd (upd H d o) a o') h':=fun b u q=>by
 have hn:=ok.fresh hd;have nown:∀ c y,H c=some (.own y)→c≠a:=fun c y r z=>by subst z; rw [r] at ha; exact ha
 have ntup:∀ c xs,H c=some (.tup xs)→c≠a:=fun c xs r z=>by subst z; rw [r] at ha; exact ha
 by_cases hb:b=a
 ·subst hb; rw [ae] at q; cases q; exact na
 ·rw [aq hb] at q;by_cases hbd:b=d
  ·subst hbd; rw [ae] at q; cases q; exact nd
  ·rw [aq hbd] at q;refine (ok b u q).mf (fun c v hc r=>k c v ?_ r) (fun c r=>by rw [aq (nown c b r),aq (ak r hn)]; exact r) fun c xs r=>by rw [aq (ntup c xs r),aq (ak r hn)]; exact r
   rcases hc with rfl | hc
   ·exact hb
   ·exact nown c b hc
def Rk(C:Addr)(ta tv:TE)(f:Str):TS:=fun D σ H=>tv σ H fun y H1=>ta σ H1 fun x H2=>∃ a,x = .ref a∧H2 a=some (ExN C a none)∧∀ d,H2 d=none→d≠a→D.nx σ (upd (upd H2 d (.xd [(f,y)])) a (ExN C a (some d)))
structure XC(K:PySem.W.Frag)(C:Addr):Prop where
 cls:vq K C
 hd:hasDictIn K C=true
 sa:findIn K (.ref C) "__setattr__"=some (some (.builtin "object.__setattr__"))
section
variable {X:Cx}{C:Addr}{o value:Expr}{f:Str}{pos pos':Pos}{ta tv:TE}
theorem LC(c:XC X.K C)(n:aP X.K C f)(ha:PE X o ta)(hv:PE X value tv)(hs:swapsWith value (some (.Attribute o f pos')) pos.line X.env=pure false):PS X (.Assign [.Attribute o f pos'] value pos) (Rk C ta tv f):=by
 intro pins s σ H D I h;refine plainObj_wpAny_Assign_Attribute (thn (hv pins s σ H _ I h) fun u s1 ⟨y,H1,I1,ry,q⟩=>thn (ha pins s1 σ H1 _ I1 q) fun ov s2 hq__=>?_) hs;obtain ⟨x,H2,I2,rx,a,ex,ea,q2⟩:=hq__; subst ex;obtain rfl:ov=Value.ref a:=rx;obtain ⟨t,e⟩:=sf I2.hok ea;refine LB I2.kIn e c.cls c.hd c.sa n fun h' d hd hns he k=>?_;have hda:d≠a:=fun z=>by subst z; exact absurd (Heap.lt_size e) (Nat.not_lt.mpr hd)
 have mu:Mut (H2 a):=by rw [ea]; exact True.intro
 refine ⟨σ,_,I2.un (Un.OG mu hd (I2.hok.fresh hd) k ⟨_,he⟩) (HOk.OG (o:=.xd [(f,y)]) (o':=ExN C a (some d)) I2.hok mu hd k ⟨_,hns,fun g=>?_⟩ (yf he)),q2 d (I2.hok.fresh hd) hda⟩;show jF (List.lookup g [(f,y)]) (if g=f then some u else none);by_cases hg:g=f
 ·have hb:(g==f)=true:=beq_iff_eq.mpr hg;simp only [List.lookup,hb,if_pos hg];exact ry
 ·have hb:(g==f)=false:=beq_eq_false_iff_ne.mpr hg;simp only [List.lookup,hb,if_neg hg];exact True.intro
end
def Head(h:Heap)(tb:Value):Prop:=tb = .none∨∃ T oT ts,tb = .ref T∧h.get? T=some oT∧oT.data = .fields ts∧ts[3]? = some .none
structure sY(fs:List Addr)(C a:Addr)(dx:Option Addr)(t T:Addr)(h h':Heap):Prop where
 new:h.objs.size≤T
 keep:∀ b o,b≠a→b ∉ fs→h.get? b=some o→h'.get? b=some o
 slot:∀ b o,b≠a→h.get? b=some o→∃ sl,h'.get? b=some { o with slots:=sl }
 exc:h'.get? a=some (cw C dx t (.ref T))
 head:∃ oT ts,h'.get? T=some oT∧oT.data = .fields ts∧ts[3]? = some .none
section
variable {M:Model}{A A':Around}{E E':Value→Shared→Prop}{s:Shared}{base:Heap}{env:Env}{outer:List Env}{L a C t:Addr}{dx:Option Addr}{tb:Value}
theorem sZ{hadNext:Bool}{Q:Unit→Shared→Prop}
  (fr:A.frames=some (env::outer)) (fl:s.heap.FunFrames base (env::outer)) (hf:env.frame=some L) (he:s.heap.get? a=some (cw C dx t tb))
  (k:∀ h' T,sY (frs (env::outer)) C a dx t T s.heap h'→Q () { s with heap:=h' }) :
  wpAny M A (do let x ← frameOf env; let pl ← entryPlaceOf L hadNext; let b ← EntryCells.newEntry tb x .none (rawInt L) .none pl; setField (.ref a) 1 b)
   (fun _ s'=>wpAny M A' (setFlight (.ref a) none) Q E' s') E s:=by
 have hne:a ∉ frs (env::outer):=fun hm=>by
  obtain ⟨_,o,ho,hnf⟩:=fl.mem hm;rw [he] at ho;cases ho;exact hnf _ rfl
 refine wpAny_bind (wpAny_frameOf_fun fr fl hf fun h1 so=>?_);refine wpAny_bind (wpAny_entryPlaceOf fun pl hpl=>?_);unfold EntryCells.newEntry newFields;refine wpAny_bind (wpAny_newObj_type ?_ (hpl.sizeOk5 _ _ _ _ _));have he1:h1.get? a=some (cw C dx t tb):=(so.2.1 a hne).trans he;generalize hoT:({ cls:=.type "traceback",dict:=none,data:=.fields ([tb,.ref L,.none,rawInt L,.none]++(if pl.isEmpty then replicate 6 Value.none else pl)).toArray }:Obj)=oT;have dT:oT.data = .fields ([tb,.ref L,.none,rawInt L,.none]++(if pl.isEmpty then replicate 6 Value.none else pl)).toArray:=by rw [← hoT]
 have fT:oT.isFreed=false:=Obj.isFreed_of_fields dT;have z3:3<([tb,.ref L,.none,rawInt L,.none]++(if pl.isEmpty then replicate 6 Value.none else pl)).toArray.size:=by
  simp only [size_toArray,length_append,length_cons,length_nil];omega
 have he2:(h1.push oT).get? a=some (cw C dx t tb):=Heap.get?_push_of_some _ he1;refine wpAny_setField he2 rfl (by show 1<6; decide) ?_;have hTa:h1.objs.size≠a:=ne_of_gt (Heap.lt_size he1);have he3:((h1.push oT).update a (Obj.mapFields (·.setIfInBounds 1 (.ref h1.objs.size)))).get? a=some (cw C dx t (.ref h1.objs.size)):=by
  rw [Heap.get?_update_self _ he2 rfl];rfl
 have hT3:((h1.push oT).update a (Obj.mapFields (·.setIfInBounds 1 (.ref h1.objs.size)))).get? h1.objs.size=some oT:=
  (Heap.get?_update_other _ _ (Ne.symm hTa)).trans (Heap.get?_push_size h1 fT)
 unfold setFlight;refine wpAny_bind (wpAny_field (x:=.ref h1.objs.size) he3 rfl rfl ?_);rw [if_pos (show (Value.ref h1.objs.size != Value.none)=true from by simp)];refine wpAny_setField hT3 dT z3 (k _ h1.objs.size ⟨?_,fun b o ha hb q=>?_,fun b o ha q=>?_,?_,?_⟩)
 ·exact le_of_eq so.1.symm
 ·have q1:h1.get? b=some o:=(so.2.1 b hb).trans q;rw [Heap.get?_update_other _ _ (ne_of_gt (Heap.lt_size q1)),Heap.get?_update_other _ _ (Ne.symm ha)];exact Heap.get?_push_of_some _ q1
 ·obtain ⟨sl,q1⟩:=so.2.2 b o q;refine ⟨sl,?_⟩;rw [Heap.get?_update_other _ _ (ne_of_gt (Heap.lt_size q1)),Heap.get?_update_other _ _ (Ne.symm ha)];exact Heap.get?_push_of_some _ q1
 ·rw [Heap.get?_update_other _ _ hTa];exact he3
 ·have dT':=Obj.data_mapFields dT (·.setIfInBounds 3 ((none:Option Addr).elim Value.none fun f=>rawInt f));refine ⟨_,_,Heap.get?_update_self _ hT3 (Obj.isFreed_of_fields dT'),dT',?_⟩;show (Array.setIfInBounds _ 3 Value.none)[3]? = some Value.none;rw [Array.getElem?_setIfInBounds_self_of_lt z3]
theorem qf{Q:Unit→Shared→Prop}(fr:A.frames=some (env::outer))(fl:s.heap.FunFrames base (env::outer))(hf:env.frame=some L)(he:s.heap.get? a=some (cw C dx t tb))(hh:Head s.heap tb)
  (k:∀ h' T,sY (frs (env::outer)) C a dx t T s.heap h'→Q () { s with heap:=h' }) :
  wpAny M A (noteFrame (.ref a) env) (fun _ s'=>wpAny M A' (setFlight (.ref a) none) Q E' s') E s:=by
 unfold noteFrame;simp only [hf];refine wpAny_bind (wpAny_field (x:=tb) he rfl rfl ?_);rcases hh with rfl | ⟨T,oT,ts,rfl,hT,dT,h3⟩
 ·rw [if_neg (by decide)];exact sZ fr fl hf he k
 ·rw [if_pos (show (Value.ref T != Value.none)=true from by simp)];refine wpAny_bind (wpAny_field hT dT h3 ?_);rw [if_neg (show ¬ ((Value.none==rawInt L)=true) from by simp [rawInt])];refine wpAny_bind (wpAny_setField hT dT (Array.getElem?_eq_some_iff.mp h3).1 ?_);rw [Heap.update_setField_same _ _ _ _ _ _ hT dT h3];exact sZ fr fl hf he k
end
section
variable {P:Program}{w:World}{H:Hp}{fs:List Addr}{C a t T:Addr}{dx:Option Addr}{h h':Heap}
theorem sY.un(N:sY fs C a dx t T h h')(ea:H a=some (ExO C a dx)):Un fs [] H H h h':=by
 have na:∀ b,H b=none→b≠a:=fun b n z=>by rw [z,ea] at n; cases n
 refine ⟨fun b o q n hb _=>N.keep b o (na b n) hb q,fun b o q n _ _=>N.slot b o (na b n) q,fun _ _ _ n _=>n,fun b o q _=>?_,fun _ _ q=>q,fun _ _ _ q=>q,fun b ps q=>⟨#[],by rw [q]; simp⟩⟩;by_cases hb:b=a
 ·exact ⟨_,by rw [hb]; exact N.exc⟩
 ·obtain ⟨sl,e⟩:=N.slot b o hb q;exact ⟨_,e⟩
theorem sY.hok(N:sY fs C a dx t T h h')(ea:H a=some (ExO C a dx))(ff:∀ b∈fs,H b=none)(ok:HOk P w H h):HOk P w H h':=fun b o q=>by
 by_cases hb:b=a
 ·subst hb;rw [ea] at q;cases q;exact BP N.exc
 ·refine (ok b o q).mf (fun c u hc r=>N.keep c u (fun z=>?_) (fun z=>?_) r) (fun _ z=>z) fun _ _ z=>z
  ·rcases hc with e | e
   ·exact hb (e.symm.trans z)
   ·rw [z,ea] at e;cases e
  ·have n:=ff c z;rcases hc with e | e
   ·rw [e,q] at n;cases n
   ·rw [n] at e;cases e
end
theorem Inv.Ib{X:Cx}{pins:List (Addr×Obj)}{σ:L2.St}{H:Hp}{s:Shared}{C a t T:Addr}{dx:Option Addr}{h':Heap}(I:Inv X pins σ H s)(ea:H a=some (ExO C a dx))(N:sY (frs X.stack) C a dx t T s.heap h') :
  Inv X pins σ H { s with heap:=h' }:=
 I.call (ch:=[]) (N.un ea) (N.hok ea I.xS I.hok) I.bare fun b z=>absurd z (by simp)
structure Fly(P:Program)(w:World)(C:Addr)(outer:List Env)(H:Hp)(s:Shared)(a:Addr)(d:Option Addr)(H':Hp)(s':Shared):Prop where
 os:s'.os=s.os
 bare:AllBare s'.gens
 un:Un (frs outer) [] H H' s.heap s'.heap
 hok:HOk P w H' s'.heap
 ea:H' a=some (ExO C a d)
 na:s.heap.objs.size≤a
 sz:s.heap.objs.size≤s'.heap.objs.size
 tr:∃ t T,s'.heap.get? a=some (cw C d t (.ref T))∧Head s'.heap (.ref T)
def CXF(P:Program)(w:World)(C:Addr):CXT:=fun outer H s E e s'=>∃ (a:Addr) (d:Option Addr) (H':Hp),e = .ref a∧Fly P w C outer H s a d H' s'∧E (.ref a) d H'
def Ups(X:Cx)(C:Addr)(E:XK):Prop:=∀ (pins:List (Addr×Obj)) (σ:L2.St) (H:Hp) (s:Shared) (a:Addr) (d:Option Addr) (t:Addr) (tb:Value),Inv X pins σ H s→H a=some (ExO C a d)→X.s_0.heap.objs.size≤a →
 s.heap.get? a=some (cw C d t tb)→Head s.heap tb→E (.ref a) d H→X.xe (.ref a) s
theorem Ups.passes{X:Cx}{C:Addr}{E:XK}(u:Ups X C E):Passes (CXF X.prog X.w C) X E:=by
 intro pins σ H s e s' I hq__; obtain ⟨a,d,H',he,F,hE⟩:=hq__;subst he;obtain ⟨t,T,ht,hT⟩:=F.tr;exact u pins σ H' s' a d t (.ref T) (I.Nh (ch:=[]) F.os F.un F.hok F.bare fun b z=>absurd z (by simp)) F.ea (le_trans I.sz F.na) ht hT hE
section
variable {P:Program}{w:World}{K:PySem.W.Frag}{mg:Str→Option Value}{base:Heap}{N:List Str}{qual:Str}{scope:Scope}{f C:Addr}{cd:Value}{A:Around}{outer:List Env}{s:Shared}{H:Hp}{E:XK}
theorem bc:Ups (x8 (CXF P w C) P w K mg base N qual scope f cd A outer s H E) C E:=by
 intro pins σ H1 s1 a d t tb I ea na he hh hE;have fr:=I.ok.frames;have fl:=I.stack;refine wpAny_bind (qf (L:=s.heap.objs.size) (outer:=outer) fr fl rfl he hh fun h' T Nt=>?_);have J:=Inv.Ib I ea Nt;exact ⟨a,d,H1,rfl,⟨J.os,J.bare,J.base,J.hok,ea,na,J.sz,t,T,Nt.exc,.inr (let ⟨oT,ts,e1,e2,e3⟩:=Nt.head; ⟨T,oT,ts,rfl,e1,e2,e3⟩)⟩,hE⟩
end
theorem yg{P:Program}{w:World}{K:PySem.W.Frag}{mg:Str→Option Value}{base:Heap}{C:Addr}{x qual:Str}{st:Stmt}{f:Addr}{fd:FuncData}{N ps:List Str}{k:Nat}{sp:Sp}(F:Fun K x qual st f fd)(S:ax N ps (ao st))
  (len:∀ vs H Q E,sp vs H Q E→vs.length=ps.length)
  (hbody:∀ (cdv:Value) (A:Around) (outer:List Env) (s:Shared) (H:Hp) (vs:List V) (Q:VK) (E:XK),cM k (A.deeper (envOfC qual (ao st) s.heap.objs.size f cdv))→sp vs H Q E →
   ∃ t,PSs (x8 (CXF P w C) P w K mg base N qual (ao st) f cdv A outer s H E) (du st) t∧t { nx:=fun _ H'=>Q .non H',rt:=Q } (start N vs) H):aF P w K mg base (CXF P w C) (k+1) f fd ps sp:=by
 obtain ⟨oc,od,kV,doc,pm,an,cdv,ct,osl,rfl,lk,hcd⟩:=F.ex;exact Np lk hcd S len fun A outer s H vs Q E hr hsp=>hbody cdv A outer s H vs Q E hr hsp
structure XMk(K:PySem.W.Frag)(C fI:Addr):Prop extends XC K C where
 init:findIn K (.ref C) "__init__"=some (some (.ref fI))
 fn:isFn K (.ref fI)=true
 kp:keepIn K (.ref C)=true
def Ic(C:Addr)(sp:Sp)(E:XK)(t:TA):TS:=fun D σ H=>t σ H fun vs H1=>vs.length≤sizeLine∧∀ a,H1 a=none →
 sp (.ref a::vs) (upd H1 a (ExN C a none)) (fun v H2=>v = .non∧∃ d:Option Addr,H2 a=some (ExN C a d)∧E (.ref a) d (upd H2 a (ExO C a d))) E0
theorem jO:vbm.contains (.type "BaseException")=true:=by decide +kernel
theorem e8{X:Cx}{k:Nat}{f C:Addr}{fd:FuncData}{ps:List Str}{sp:Sp}{E:XK}{x:Str}{np cpos pos:Pos}{e:Expr}{es:List Expr}{t:TA}
  (M:XMk X.K C f) (F:aF X.prog X.w X.K X.mg X.base CX0 k f fd ps sp) (hr:cM (k+1) X.A) (hc:X.calm=true) (up:Ups X C E) (hg:Gl X x) (hm:X.mg x=some (.ref C)) (hb:Binds X.K fd ps []) (ha:PA X (e::es) t)
  (hdb:(x==("__debug__":Str))=false:=by decide) (he:starEach (e::es) X.env=(false,eval e X.env)::starEach es X.env:=by rfl) (hpl:(backTo cpos (starEach es X.env)).any (·.1)=false:=by rfl) :
  PS X (.Raise (some (.Call (.Name x np) (e::es) [] cpos)) none pos) (Ic C sp E t):=by
 intro pins s σ H D I h;rw [arm_exec_Raise];refine wpAny_bind (wpAny_standAt ?_);unfold raiseStmt;simp only [evalOpt,Option.map];refine wpAny_bind (wpAny_bind (wpAny_Call_Name_kw (gj I hg hm ?_ hdb)));refine callWith_K (h₀:=X.base) I.ok.mod.kin M.kp (thn (ha cpos pins s σ H _ I h) fun us s1 ⟨vs,H1,I1,r,hl,q⟩=>⟨I1.kIn,?_⟩) he hpl;have ok:=M.cls;obtain ⟨nm,qn,N,bs,hdct,sn,sub,ab,col,dd,k0,k1,k2,k3,k5,hk⟩:=ok;have hz:s1.heap.objs.size≤s1.heap.objs.size+1:=le_succ _;have q1:=q (s1.heap.objs.size+1) (I1.hok.fresh hz);have hp1:((s1.heap.push (iV us)).push (ia C s1.heap.objs.size)).get? (s1.heap.objs.size+1)=some (cw C none s1.heap.objs.size .none):=by heap_get
 have I2:Inv X pins σ (upd H1 (s1.heap.objs.size+1) (ExN C (s1.heap.objs.size+1) none)) { s1 with heap:=(s1.heap.push (iV us)).push (ia C s1.heap.objs.size) }:=
  I1.laid (t':=s1.toks) (fun b u z=>Heap.get?_push_of_some _ (Heap.get?_push_of_some _ z)) hz (yf hp1)
 have r2:Vals (V.ref (s1.heap.objs.size+1)::vs) (Value.ref (s1.heap.objs.size+1)::us):=.cons rfl r;have hl2:(Value.ref (s1.heap.objs.size+1)::us++[]).length=ps.length:=by
  rw [append_nil,← r2.length];exact F.len _ _ _ _ q1
 have hin:=hb _ (Value.ref (s1.heap.objs.size+1)::us) I2.kIn hl2;rw [append_nil] at hin;show wpAny _ _ (call (.ref C) us) _ _ _;refine wpAny_call (zU excBase_ValueError (I1.kIn _ _ hk) (looks_findIn I1.kIn M.init) (fun self=>bind_fn I1.kIn self (beq_iff_eq.mp M.fn)) (by rw [← r.length]; exact hl) ?_);refine codeAny_mono (F.run _ X.stack _ _ _ _ _ _ E0 (hr.make C us []) (I2.Lk.make C us []) hin r2 q1) fun rr s' hq'=>?_;cases rr with
 | error ev=>exact hq'.elim
 | ok fl=>
  cases fl with
  | next=>exact hq'.elim
  | brk=>exact hq'.elim
  | cont=>exact hq'.elim
  | ret u=>
  obtain ⟨v,H3,I3,rv,rfl,d,ha3,hE⟩:=I2.after hq';cases rv;refine ⟨rfl,?_⟩;obtain ⟨t3,e3⟩:=sf I3.hok ha3;have mu:Mut (H3 (s1.heap.objs.size+1)):=by rw [ha3]; exact True.intro
  have I4:Inv X pins σ (upd H3 (s1.heap.objs.size+1) (ExO C (s1.heap.objs.size+1) d)) s':=
   I3.write (t':=s'.toks) (h':=s'.heap) mu (.inl rfl) (fun _ _ _ z=>z) ⟨_,e3⟩ (BP e3)
  have fin:=up pins σ _ s' (s1.heap.objs.size+1) d t3 .none I4 ae (le_trans I1.sz hz) e3 (.inl rfl) hE;have hcl:=I3.kIn _ _ hk;have hcB:(Value.ref C::vbm).contains (.type "BaseException")=true:=by rw [contains_cons,jO,Bool.or_true]
  have hh:=I.ok.hd hc;obtain ⟨hp,g,dr,tk,os⟩:=s';refine wpAny_bind (wpAny_standAt (wpAny_pure ?_))
  repeat (first | with_reducible refine wpAny_loadPart_at e3 ?_ | with_reducible refine wpAny_loadPart_at hcl ?_ | (with_reducible refine wpAny_isSubtype_exc hcl ?_; rw [hcB]) | wp_step)
  exact wpAny_raiseNew_none hh fin
section
variable {X:Cx}{pins pins':List (Addr×Obj)}{σ:L2.St}{H:Hp}{s:Shared}
theorem lx{M:Model}{A:Around}{E:Value→Shared→Prop}{i:Nat}{x:Str}{pos:Pos}{Q:Unit→Shared→Prop}(I:Inv X pins σ H s)(hN:X.N.Nodup)(hi:X.N[i]? = some x)(hk:X.env.scope.names.lookup x=some .local)
  (h:∀ s',Inv X pins (σ.set i none) H s'→Q () s'):wpAny M A (do bindName X.env x .none; unbindBehindTheSuite X.env x pos) Q E s:=by
 obtain ⟨m,hn,hl⟩:=id I.loc;have hcls:(X.env.scope.kind == .class || (X.env.scope.kind == .module&&X.env.locals != X.env.globals))=false:=by rw [I.ok.kind]; rfl
 have cne:=I.cne;refine wpAny_nameGoes_keeps hk hn hcls fun h' v hn' hs=>?_;obtain ⟨oL,_,_,hoL,_⟩:=id hn;have low:∀ b o,X.s_0.heap.get? b=some o→h'.get? b=s.heap.get? b:=fun b o e=>hs.2 b (ne_of_lt (lt_of_lt_of_le (Heap.lt_size e) I.ok.above));have ok':HOk X.prog X.w H h':=fun b ob e=>by
  refine (I.hok b ob e).mf (fun c w' hc q=>(hs.2 c fun z=>?_).trans q) (fun _ q=>q) fun _ _ q=>q;have fr:=I.free;subst z;rcases hc with z | z
  ·rw [← z,fr] at e;cases e
  ·rw [fr] at z;cases z
 refine h _ ⟨I.ok,I.os,I.bare,⟨fun b o e n hb hx=>(low b o e).trans (I.base.keep b o e n hb hx),fun b o e n hb hx=>?_,I.base.free,fun b o e hx=>?_,I.base.vk,I.base.rB,I.base.vm⟩,⟨_,hn',fun j y v' e1 e2 e3=>?_⟩,fun y c e=>?_,I.free,I.dG,fun p hp=>?_,ok',by simpa using I.len⟩
 ·obtain ⟨sl,e1⟩:=I.base.slot b o e n hb hx;exact ⟨sl,(low b o e).trans e1⟩
 ·obtain ⟨o',e1⟩:=I.base.there b o e hx;exact ⟨o',(low b o e).trans e1⟩
 ·have hj:j≠i:=fun z=>by
   subst z;by_cases hlt:j<σ.length
   ·rw [getElem?_set_self hlt] at e2;cases e2
   ·rw [getElem?_eq_none (by rw [length_set]; omega)] at e2;cases e2
  rw [getElem?_set_ne (Ne.symm hj)] at e2;obtain ⟨u',r',q⟩:=hl j y v' e1 e2 e3;refine ⟨u',r',?_⟩;rcases q with ⟨k,e⟩ | ⟨k,c,e,z⟩
  ·have ne:y≠x:=fun z=>hj (oA hN e1 (by rw [z]; exact hi));exact .inl ⟨k,by show (if y=x then v else m y)=some u'; rw [if_neg ne]; exact e⟩
  ·exact .inr ⟨k,c,e,z.sameBut hs (cne y c e)⟩
 ·obtain ⟨w',z⟩:=I.cell y c e;exact ⟨w',z.sameBut hs (cne y c e)⟩
 ·obtain ⟨e,n,ne,nf,d⟩:=I.pin p hp;exact ⟨(hs.2 p.1 ne).trans e,n,ne,nf,d⟩
abbrev qN(X:Cx)(xe:Value→Shared→Prop)(pn:List (Addr×Obj)):Cx:={ X with xe:=xe,pn:=pn }
abbrev oR(X:Cx)(e:Value):Cx:={ X with A:=X.A.mark (some e),calm:=false,xe:=fun _ _=>False }
theorem Inv.Rl{xe:Value→Shared→Prop}(I:Inv X pins σ H s):Inv (qN X xe (X.pn++pins)) [] σ H s:=by
 have ok:=I.ok;exact ⟨⟨ok.mod,ok.kind,ok.glob,ok.blt,ok.above,ok.inj,ok.has,ok.cab,ok.hd,ok.frames,ok.stk,ok.exf,ok.bs,ok.bsz,ok.xQ,ok.xR,ok.lP,ok.frf⟩,I.os,I.bare,I.base,I.loc,I.cell,I.free,I.dG,
  fun p hp=>I.pin p (by rw [append_nil] at hp; exact hp),I.hok,I.len⟩
theorem Inv.lX{xe:Value→Shared→Prop}(I:Inv (qN X xe (X.pn++pins)) pins' σ H s):Inv X pins σ H s:=by
 have ok:=I.ok;exact ⟨⟨ok.mod,ok.kind,ok.glob,ok.blt,ok.above,ok.inj,ok.has,ok.cab,ok.hd,ok.frames,ok.stk,ok.exf,ok.bs,ok.bsz,ok.xQ,ok.xR,ok.lP,ok.frf⟩,I.os,I.bare,I.base,I.loc,I.cell,I.free,I.dG,
  fun p hp=>I.pin p (mem_append_left _ hp),I.hok,I.len⟩
theorem Inv.sui{e:Value}(I:Inv X pins σ H s):Inv (oR X e) pins σ H s:=by
 have ok:=I.ok;exact ⟨⟨ok.mod,ok.kind,ok.glob,ok.blt,ok.above,ok.inj,ok.has,ok.cab,fun z=>(nomatch z),ok.frames,ok.stk,ok.exf,ok.bs,ok.bsz,ok.xQ,ok.xR,ok.lP,ok.frf⟩,I.os,I.bare,I.base,I.loc,I.cell,I.free,I.dG,I.pin,I.hok,I.len⟩
theorem Inv.qO{e:Value}(hd:X.calm=true→X.A.handled=none)(I:Inv (oR X e) pins σ H s):Inv X pins σ H s:=by
 have ok:=I.ok;exact ⟨⟨ok.mod,ok.kind,ok.glob,ok.blt,ok.above,ok.inj,ok.has,ok.cab,hd,ok.frames,ok.stk,ok.exf,ok.bs,ok.bsz,ok.xQ,ok.xR,ok.lP,ok.frf⟩,I.os,I.bare,I.base,I.loc,I.cell,I.free,I.dG,I.pin,I.hok,I.len⟩
def gone(i:Nat)(D:Ends):Ends:={ nx:=fun σ H=>D.nx (σ.set i none) H,rt:=D.rt,bk:=fun σ H=>D.bk (σ.set i none) H,ct:=fun σ H=>D.ct (σ.set i none) H }
def Ux(i:Nat)(tb:XK→TS)(ts:TS):TS:=fun D σ H=>tb (fun e _ H'=>∀ a,e = .ref a→∀ σ':L2.St,σ'.length=σ.length→ts (gone i D) (σ'.set i (some (.ref a))) H') D σ H
theorem OH{C:Addr}{x n:Str}{i:Nat}{np hpos pos:Pos}{body suite:List Stmt}{b:Stmt}{tb:XK→TS}{ts:TS}(stk:X.stack=X.env::X.outer)(hf:X.env.frame=some X.env.locals)(hN:X.N.Nodup)(hi:X.N[i]? = some n)
  (hk:X.env.scope.names.lookup n=some .local) (cls:vq X.K C) (hg:Gl X x) (hm:X.mg x=some (.ref C)) (hb:∀ (E:XK) (xe:Value→Shared→Prop) (pn:List (Addr×Obj)),Ups (qN X xe pn) C E→PSs (qN X xe pn) body (tb E))
  (hs:∀ e,PSs (oR X e) (b::suite) ts) (hdb:(x==("__debug__":Str))=false:=by decide) :
  PS X (.Try body [.ExceptHandler (some (.Name x np)) (some n) (b::suite) hpos] [] [] pos) (Ux i tb ts):=by
 intro pins s σ H D I h;refine wpAny_Try_except ?_;have up:Ups (qN X (fun e s₁=>wpAny (model X.prog X.w) X.A (noteFrame e X.env) (fun _ s₂=>wpAny (model X.prog X.w) X.A (setFlight e none) (fun _ s₃=>wpAny (model X.prog X.w) X.A (handleBy e X.env [.ExceptHandler (some (.Name x np)) (some n) (b::suite) hpos]) (SP X pins D) X.xe s₃) X.xe s₂) X.xe s₁) (X.pn++pins)) C
   (fun e _ H'=>∀ a,e = .ref a→∀ σ':L2.St,σ'.length=σ.length→ts (gone i D) (σ'.set i (some (.ref a))) H'):=by
  intro pins' σ' H' s' a d t tb' I' ea na he hh hE;have J0:Inv X pins σ' H' s':=Inv.lX I';have fr:=J0.ok.frames;have fl:=J0.stack;rw [stk] at fr fl;refine qf (L:=X.env.locals) (outer:=X.outer) fr fl hf he hh fun h' T Nt=>?_;rw [← stk] at Nt;have J:=Inv.Ib J0 ea Nt;obtain ⟨oT,tv,eT,dT,h3⟩:=Nt.head;have JS:Inv (oR X (.ref a)) pins σ' H' { s' with heap:=h' }:=Inv.sui J;have hC:=J.kIn;obtain ⟨nm,qn,N,bs,hdct,sn,sub,ab,col,dd,k0,k1,k2,k3,k5,hcl⟩:=cls;refine wpAny_handleBy_cons (codeAny_handlers_test (gj (X:=oR X (.ref a)) JS hg hm ?_ hdb)) (by intro q; cases q);refine wpAny_excMatches_sub_self (hC _ _ hcl) Nt.exc rfl jO ?_;refine codeAny_handlers_suite_as ?_;unfold setFlight;refine wpAny_bind (wpAny_field (x:=.ref T) Nt.exc rfl rfl ?_);rw [if_pos (show (Value.ref T != Value.none)=true from by simp)];refine wpAny_setField eT dT (Array.getElem?_eq_some_iff.mp h3).1 ?_;have same:h'.update T (Obj.mapFields (·.setIfInBounds 3 ((none:Option Addr).elim Value.none fun f=>rawInt f)))=h':=Heap.update_setField_same _ _ _ _ _ _ eT dT h3;refine oB (X:=oR X (.ref a)) (v:=.ref a) (i:=i) (by rw [same]; exact JS) hN hi (.inl hk) rfl (fun s2 J2=>?_) (.inr hk);refine wpAny_mono (hs (.ref a) pins s2 _ H' (gone i D) J2 (hE a rfl σ' (by rw [I'.len,I.len]))) (fun fl s3 q=>?_) fun _ _ z=>z.elim;have hd:=I.ok.hd;cases fl with
  | next=>obtain ⟨σ3,H3,J3,q3⟩:=q; exact lx (Inv.qO hd J3) hN hi hk fun s4 J4=>⟨_,H3,J4,q3⟩
  | brk=>obtain ⟨σ3,H3,J3,q3⟩:=q; exact lx (Inv.qO hd J3) hN hi hk fun s4 J4=>⟨_,H3,J4,q3⟩
  | cont=>obtain ⟨σ3,H3,J3,q3⟩:=q; exact lx (Inv.qO hd J3) hN hi hk fun s4 J4=>⟨_,H3,J4,q3⟩
  | ret u=>obtain ⟨v3,σ3,H3,J3,r3,q3⟩:=q; exact lx (Inv.qO hd J3) hN hi hk fun s4 J4=>⟨v3,_,H3,J4,r3,q3⟩
 refine wpAny_mono (hb _ _ _ up [] s σ H D (Inv.Rl I) h) (fun fl s1 q=>?_) fun _ _ z=>z;cases fl with
 | next=>obtain ⟨σ1,H1,J,q1⟩:=q; exact wpAny_execs_nil ⟨σ1,H1,Inv.lX J,q1⟩
 | brk=>obtain ⟨σ1,H1,J,q1⟩:=q; exact ⟨σ1,H1,Inv.lX J,q1⟩
 | cont=>obtain ⟨σ1,H1,J,q1⟩:=q; exact ⟨σ1,H1,Inv.lX J,q1⟩
 | ret u=>obtain ⟨v1,σ1,H1,J,r1,q1⟩:=q; exact ⟨v1,σ1,H1,Inv.lX J,r1,q1⟩
end
section
variable {prog:Program}{w:World}{A:Around}{E:Value→Shared→Prop}{s:Shared}{K:PySem.W.Frag}{a C d:Addr}{name:Str}{v:Value}
structure LD(K:PySem.W.Frag)(C:Addr):Prop where
 ga:findIn K (.ref C) "__getattribute__"=some (some (.builtin "BaseException.__getattribute__"))
 gt:findIn K (.ref C) "__getattr__"=some none
theorem LF{t:Addr}{tb:Value}{mA:Str→Option Value}{ex:Bool}{Q:Value→Shared→Prop}(X:K.In s.heap)(e:s.heap.get? a=some (cw C (some d) t tb))(n1:s.heap.Ns1 d mA)(hc:vq K C)(hd:hasDictIn K C=true)
  (g:LD K C) (na:aP K C name) (hv:mA name=some v) (hh:handedIn v=true) (h:Q v { s with toks:=s.toks+1 }):wpAny (model prog w) A (getAttr (.ref a) name ex) Q E s:=by
 obtain ⟨od,ho,hl⟩:=wm n1;have J:PySem.W.InstAt s.heap a (cw C (some d) t tb) C (some od):=⟨e,rfl,rfl,ho⟩;obtain ⟨nm,qn,N,bs,hdct,sn,sub,ab,col,dd,k0,k1,k2,k3,k5,hk⟩:=hc;have hcls:clsIn K C=some { name:=nm,bases:=bs,mro:=.ref C::vbm,ns:=N,qualname:=qn,hasDict:=hdct,slotNames:=sn,subclasses:=sub,abstract:=ab,collection:=col,hasDel:=false }:=by
  unfold PySem.W.clsIn;rw [hk]
 have hbB:(Value.ref C::vbm).contains (.type "BaseException")=true:=by rw [contains_cons,jO,Bool.or_true]
 have tt:Looks (model prog w) s.heap (isInstance (.ref a) (.type "BaseException")) true:=
  J.type.andThen (looks_mroIn X (by unfold mroIn; rw [hcls,bind_some,if_neg (by rw [show ((Value.ref C::vbm).isEmpty)=false from rfl]; decide),hbB]))
 have L0:=J.type (M:=model prog w);have L1:=looks_findIn (M:=model prog w) X g.ga;have L2':=looks_findIn (M:=model prog w) X g.gt;have L3:=PySem.W.looks_find (M:=model prog w) X J (findObj_own hd na rfl (by rw [hl,hv]));obtain ⟨hp,gg,dr,tk,os⟩:=s;unfold getAttr getAttrBy;refine wpAny_bind (wpAny_mkText (wpAny_holding (wpAny_bind (L0.at (wpAny_bind (L1.at ?_))))));dsimp only;rw [if_neg (by rw [show (Value.builtin "BaseException.__getattribute__"==Value.builtin "object.__getattribute__")=false by decide +kernel,Bool.and_false]; decide)];unfold getAttrByItsOwn;refine wpAny_bind (show wpAny _ _ (typeLookup (.ref C) "__getattr__") _ _ _ from L2'.at (wpAny_bind (wpAny_attempt (wpAny_holding ?_))));unfold callGetattribute;rw [if_neg (by rw [show onTheHeap (Value.builtin "BaseException.__getattribute__")=false from rfl,Bool.and_false]; decide)];unfold boundAndCalled;rw [PySem.F.excAttr_ValueError.ga.bind];refine wpAny_bind (wpAny_pure ?_);have hkd:builtinKind "BaseException.__getattribute__"=some .slot:=by decide +kernel
 have hsp:splitId "BaseException.__getattribute__"=some ("BaseException","__getattribute__"):=by decide +kernel
 refine wpAny_call (codeAny_call_builtin PySem.F.excAttr_ValueError.ga.plain PySem.F.entry_bexc_ga (@check_slot (model prog w) _ _ ⟨hp,gg,dr,tk+1,os⟩ "BaseException.__getattribute__" "BaseException" "__getattribute__" (.ref a) [.str name tk] [] _ hkd hsp tt (PySem.F.args_bexc_ga (.ref a) (.str name tk)) ?_));refine wpAny_bind (wpAny_pure (wpAny_bind (wpAny_pure (wpAny_bind (L0.at (wpAny_bind (L3.at ?_)))))));refine wpAny_pure ?_;show wpAny _ _ (handedOut v) _ _ _;rw [PySem.W.handedOut_of hh];exact wpAny_pure h
end
def Rm(ta:TE)(C:Addr)(f:Str):TE:=fun σ H Q=>ta σ H fun x H1=>∃ a d fs v,x = .ref a∧H1 a=some (ExO C a (some d))∧H1 d=some (.xd fs)∧fs.lookup f=some v∧Q v H1
theorem LG{X:Cx}{C:Addr}{e:Expr}{f:Str}{pos:Pos}{ta:TE}(c:vq X.K C)(hd:hasDictIn X.K C=true)(g:LD X.K C)(na:aP X.K C f)(he:PE X e ta)(hb:attributeBase e f X.env (eval e X.env)=eval e X.env) :
  PE X (.Attribute e f pos) (Rm ta C f):=by
 intro pins s σ H Q I h;refine Eo hb (thn (he pins s σ H _ I h) fun u s1 hq=>?_);obtain ⟨x,H1,I1,rx,a,d,fs,v,ex,ea,ed,l,q⟩:=hq; subst ex;obtain rfl:u=Value.ref a:=rx;obtain ⟨t,tb,e1⟩:=Lx I1.hok ea;obtain ⟨mA,n1,r⟩:=(show b7 X.prog X.w H1 s1.heap d (.xd fs) from I1.hok d _ ed);obtain ⟨u,hu,ru⟩:=jF.some_of (v:=v) (o:=mA f) (by rw [← l]; exact r f);exact LF I1.kIn e1 n1 c hd g na hu (wo ru) ⟨v,H1,I1.tok _,ru,q⟩
def tf(P:Program)(w:World)(K:PySem.W.Frag)(a:Addr)(vs:List (Key×Value)):Prop:=∀ h:Heap,K.In h→h.DictOf (cH P w) a vs
def Rn(X:Cx)(td ty:TE):TE:=fun σ H Q=>td σ H fun x H1=>ty σ H1 fun y H2=>∃ a vs k v u,x = .ref a∧y=kV k∧tf X.prog X.w X.K a vs∧valueAt vs k=some u∧RelV v u∧Q v H2
theorem Ie{P:Program}{w:World}{K:PySem.W.Frag}{a:Addr}{vs:List (Key×Value)}{s:Shared}(d:tf P w K a vs)(X:K.In s.heap):s.TypeIs (.ref a) "dict":=(d _ X).typeIs
section
variable {X:Cx}{o i:Expr}{pos:Pos}{td ty:TE}
theorem EF(ho:PE X o td)(hi:PE X i ty)(hs:Ox i):PE X (.Subscript o i pos) (Rn X td ty):=by
 intro pins s σ H Q I h;refine Ez PySem.F.slot_dict_getitem.lookup hs (thn (ho pins s σ H _ I h) fun u s1 hq=>?_);obtain ⟨x,H1,I1,rx,q1⟩:=hq; refine thn (hi pins s1 σ H1 _ I1 q1) fun iv s2 hq=>?_; obtain ⟨y,H2,I2,ry,a,vs,k,v,w',ex,ey,kd,hv,rv,q2⟩:=hq; subst ex ey;obtain rfl:u=Value.ref a:=rx;exact ⟨Ie kd I2.kIn,wpAny_getItem_of (zM ry) (kd _ I2.kIn).mapOf hv ⟨v,H2,I2.tok _,rv,q2⟩⟩
def OI(X:Cx)(j:Nat)(t:TA):TE:=fun σ H Q=>∃ (CX:CXT) (k:Nat) (f:Addr) (fd:FuncData) (ps:List Str) (sp:Sp) (E:XK),σ[j]? = some (some (.ref f))∧keepIn X.K (.ref f)=true ∧
 aF X.prog X.w X.K X.mg X.base CX k f fd ps sp∧cM k X.A∧L2.Binds X.K fd ps []∧Passes CX X E∧t σ H fun vs H1=>sp vs H1 Q E
theorem zW{j:Nat}{x:Str}{p pos:Pos}{e:Expr}{es:List Expr}{t:TA}(hN:X.N[j]? = some x)(hv:Vis X.env.scope x)(ha:PA X (e::es) t)(hdb:(x==("__debug__":Str))=false:=by decide)(hcd:(x==("__classdict__":Str))=false:=by decide)
  (he:starEach (e::es) X.env=(false,eval e X.env)::starEach es X.env:=by rfl) (hpl:(backTo pos (starEach es X.env)).any (·.1)=false:=by rfl):PE X (.Call (.Name x p) (e::es) [] pos) (OI X j t):=by
 intro pins s σ H Q I hq; obtain ⟨CX,k,f,fd,ps,sp,E,ej,kp,F,hr,hb,hx,h⟩:=hq;refine wpAny_Call_Name_kw (thn (HB hN hv hdb hcd pins s σ H (fun v H'=>v = .ref f∧H'=H) I ⟨_,ej,rfl,rfl⟩) fun u s1 hq__=>?_);obtain ⟨v,H1,I1,r1,e1,e2⟩:=hq__; subst e1 e2;obtain rfl:u=Value.ref f:=r1;refine callWith_K (h₀:=X.base) I.ok.mod.kin kp (thn (ha pos pins s1 σ H1 _ I1 h) fun us s2 ⟨vs,H2,I2,r,q⟩=>⟨I2.kIn,?_⟩) he hpl;exact xZ (dvs:=[]) F hr hb .nil hx I2 r (by rw [append_nil]; exact q)
end
abbrev gu(ns:List Int):PyData:=.list (ns.map PyData.int)
theorem e9{K:PySem.W.Frag}{H:Hp}:∀ ns:List Int,sS K H (ns.map V.int) (ns.map PyData.int)
 | []=>.nil
 | n::ns=>.cons (.int n) (e9 ns)
theorem qP:∀ a b:List Int,PyData.eqvAll (a.map PyData.int) (b.map PyData.int)=(a==b)
 | [],[]=>rfl
 | [],y::b=>rfl
 | x::a,[]=>rfl
 | x::a,y::b=>by
  show (PyData.eqv (.int x) (.int y)&&PyData.eqvAll (a.map PyData.int) (b.map PyData.int))=_;rw [qP a b];rfl
theorem zX(a b:List Int):PyData.eqv (gu a) (gu b)=(a==b):=qP a b
theorem zY:∀ a:List Int,PyData.canLayAll0 (a.map PyData.int)=true
 | []=>rfl
 | x::a=>zY a
theorem tj:∀ a:List Int,PyData.depthAll (a.map PyData.int)≤1
 | []=>by decide
 | x::a=>by
  have:=tj a;show max _ _≤1;exact Nat.max_le.mpr ⟨zero_le 1,this⟩
theorem oS(a:List Int):SeqAt.shaped (gu a)=true:=by
 unfold SeqAt.shaped;rw [show (gu a).canLay0=true from zY a,Bool.true_and,decide_eq_true_eq];have:=tj a;show PyData.depthAll (a.map PyData.int)+1≤64;omega
section
variable {X:Cx}
def Uy(K:PySem.W.Frag):R2:=fun x y H Q=>∃ (p q:Addr) (a b:List Int),x = .ref p∧y = .ref q∧SqL K H p (a.map V.int)∧SqL K H q (b.map V.int)∧Q (.bl (a==b)) H
theorem BR(hu:X.A.units+64<cLine):OpR X (compareOp .Eq) (Uy X.K):=by
 intro pins s σ H x y v u Q I rx ry hq__; obtain ⟨p,q,a,b,ex,ey,hp,hq,k⟩:=hq__;subst ex ey;exact Ot hu pins s σ H _ _ v u Q I rx ry ⟨gu a,gu b,.lst hp (e9 a),.lst hq (e9 b),oS a,oS b,by rw [zX]; exact k⟩
inductive Rows(K:PySem.W.Frag)(H:Hp):List Addr→List (List Int)→Prop
 | nil:Rows K H [] []
 | cons {r:Addr} {rs:List Addr} {w:List Int} {ws:List (List Int)}:SqL K H r (w.map V.int)→Rows K H rs ws→Rows K H (r::rs) (w::ws)
def intOf:Value→Option Int
 | .int i _=>some i
 | _=>none
def rowOf(h:Heap)(u:Value):Option (List Int):=match u with
 | .ref a=>match h.get? a with
  | some o=>match o.data with
   | .seq its _=>its.toList.mapM intOf
   | _=>none
  | none=>none
 | _=>none
theorem wD:∀ {ns:List Int} {us:List Value},Vals (ns.map V.int) us→us.mapM intOf=some ns
 | [],_,.nil=>rfl
 | n::ns,u::us,.cons r t=>by
  obtain ⟨k,rfl⟩:=r;rw [List.mapM_cons,wD t];rfl
theorem zZ{pins:List (Addr×Obj)}{σ:L2.St}{H:Hp}{s:Shared}(I:Inv X pins σ H s){a:Addr}{w:List Int}(h:SqL X.K H a (w.map V.int)):rowOf s.heap (.ref a)=some w:=by
 obtain ⟨its,r,⟨o,n,ho,_,_,hd⟩,_⟩:=I.list h;unfold rowOf;dsimp only;rw [ho];dsimp only;rw [hd];exact wD r
theorem Aa{pins:List (Addr×Obj)}{σ:L2.St}{H:Hp}{s:Shared}(I:Inv X pins σ H s){b:List Int}:∀ {rs:List Addr} {ws:List (List Int)} {us:List Value},Rows X.K H rs ws→Vals (rs.map V.ref) us →
  us.any (fun u=>rowOf s.heap u==some b)=ws.any fun w=>w==b
 | [],_,_,.nil,.nil=>rfl
 | r::rs,w::ws,u::us,.cons h t,.cons ru tu=>by
  obtain rfl:u=Value.ref r:=ru;rw [any_cons,any_cons,zZ I h,Aa I t tu];rfl
theorem wF{pins:List (Addr×Obj)}{σ:L2.St}{H:Hp}{s:Shared}{A:Around}(I:Inv X pins σ H s)(hu:A.units+3<cLine){p:Addr}{b:List Int}(hb:SqL X.K H p (b.map V.int)) :
  ∀ {rs:List Addr} {ws:List (List Int)} {us:List Value},Rows X.K H rs ws→Vals (rs.map V.ref) us→∀ u∈us,SeqAt.EqAt A s u (.ref p) (rowOf s.heap u==some b)
 | [],_,_,.nil,.nil=>fun u hu=>by cases hu
 | r::rs,w::ws,u::us,.cons h t,.cons ru tu=>fun v hv=>by
  rcases mem_cons.mp hv with e | e
  ·subst e;obtain rfl:v=Value.ref r:=ru;rw [zZ I h];obtain ⟨as,r1⟩:=Dp.reads I (gu w) (.ref r) (.ref r) (.lst h (e9 w)) rfl;obtain ⟨bs,r2⟩:=Dp.reads I (gu b) (.ref p) (.ref p) (.lst hb (e9 b)) rfl;have z:=SeqAt.eqAt_reads (gu w) (gu b) A s (.ref r) (.ref p) as bs r1 r2 (SeqAt.canLay_of_shaped (oS w)) (SeqAt.canLay_of_shaped (oS b)) (by have h1:=tj w; have h2:(gu w).depth=PyData.depthAll (w.map PyData.int)+1:=rfl; have h3:min (gu w).depth (gu b).depth≤(gu w).depth:=Nat.min_le_left _ _; omega);rw [zX] at z;exact z
  ·exact wF I hu hb t tu v e
def Uz(K:PySem.W.Frag):R2:=fun x y H Q=>∃ (p q:Addr) (b:List Int) (rs:List Addr) (ws:List (List Int)),x = .ref p∧y = .ref q∧SqL K H p (b.map V.int)∧SqL K H q (rs.map V.ref)∧Rows K H rs ws∧Q (.bl (ws.any fun w=>w==b)) H
theorem OJ(hu:X.A.units+64<cLine):OpR X (compareOp .In) (Uz X.K):=by
 intro pins s σ H x y v u Q I rx ry hq__; obtain ⟨p,q,b,rs,ws,ex,ey,hp,hq,hr,k⟩:=hq__;subst ex ey;obtain rfl:v=Value.ref p:=rx;obtain rfl:u=Value.ref q:=ry;obtain ⟨its,r,pl,hz⟩:=I.list hq;refine SeqAt.in_listAt (fun u=>rowOf s.heap u==some b) pl.isList (fun w hw=>wF I (A:=X.A.in1) ?_ hp hr r w (by simpa using hw)) ⟨.bl _,H,I,rfl,?_⟩
 ·show X.A.units+1+3<cLine;omega
 ·rw [show its.toArray.any (fun u=>rowOf s.heap u==some b)=its.any (fun u=>rowOf s.heap u==some b) by simp,Aa I hr r];exact k
end
theorem ly{X:Cx}{k:Nat}{f C:Addr}{fd:FuncData}{ps:List Str}{sp:Sp}{E:XK}{x:Str}{np cpos pos:Pos}
  (M:XMk X.K C f) (F:aF X.prog X.w X.K X.mg X.base CX0 k f fd ps sp) (hr:cM (k+1) X.A) (hc:X.calm=true) (up:Ups X C E) (hg:Gl X x) (hm:X.mg x=some (.ref C)) (hb:Binds X.K fd ps [])
  (hdb:(x==("__debug__":Str))=false:=by decide) :
  PS X (.Raise (some (.Call (.Name x np) [] [] cpos)) none pos) (Ic C sp E BF):=by
 intro pins s1 σ H1 D I1 h;rw [arm_exec_Raise];refine wpAny_bind (wpAny_standAt ?_);unfold raiseStmt;simp only [evalOpt,Option.map];refine wpAny_bind (wpAny_bind (wpAny_Call_Name_kw (gj I1 hg hm ?_ hdb)));refine callWith_K0 I1.kIn M.kp ?_;obtain ⟨hl,q⟩:=h;have r:Vals ([]:List V) ([]:List Value):=.nil;have ok:=M.cls;obtain ⟨nm,qn,N,bs,hdct,sn,sub,ab,col,dd,k0,k1,k2,k3,k5,hk⟩:=ok;have hz:s1.heap.objs.size≤s1.heap.objs.size+1:=le_succ _;have q1:=q (s1.heap.objs.size+1) (I1.hok.fresh hz);have hp1:((s1.heap.push (iV [])).push (ia C s1.heap.objs.size)).get? (s1.heap.objs.size+1)=some (cw C none s1.heap.objs.size .none):=by heap_get
 have I2:Inv X pins σ (upd H1 (s1.heap.objs.size+1) (ExN C (s1.heap.objs.size+1) none)) { s1 with heap:=(s1.heap.push (iV [])).push (ia C s1.heap.objs.size) }:=
  I1.laid (t':=s1.toks) (fun b u z=>Heap.get?_push_of_some _ (Heap.get?_push_of_some _ z)) hz (yf hp1)
 have r2:Vals [V.ref (s1.heap.objs.size+1)] [Value.ref (s1.heap.objs.size+1)]:=.cons rfl r;have hl2:([Value.ref (s1.heap.objs.size+1)]++[]).length=ps.length:=by
  rw [append_nil,← r2.length];exact F.len _ _ _ _ q1
 have hin:=hb _ [Value.ref (s1.heap.objs.size+1)] I2.kIn hl2;rw [append_nil] at hin;show wpAny _ _ (call (.ref C) []) _ _ _;refine wpAny_call (zU excBase_ValueError (I1.kIn _ _ hk) (looks_findIn I1.kIn M.init) (fun self=>bind_fn I1.kIn self (beq_iff_eq.mp M.fn)) (zero_le _) ?_);refine codeAny_mono (F.run _ X.stack _ _ _ _ _ _ E0 (hr.make C [] []) (I2.Lk.make C [] []) hin r2 q1) fun rr s' hq'=>?_;cases rr with
 | error ev=>exact hq'.elim
 | ok fl=>
  cases fl with
  | next=>exact hq'.elim
  | brk=>exact hq'.elim
  | cont=>exact hq'.elim
  | ret u=>
  obtain ⟨v,H3,I3,rv,rfl,d,ha3,hE⟩:=I2.after hq';cases rv;refine ⟨rfl,?_⟩;obtain ⟨t3,e3⟩:=sf I3.hok ha3;have mu:Mut (H3 (s1.heap.objs.size+1)):=by rw [ha3]; exact True.intro
  have I4:Inv X pins σ (upd H3 (s1.heap.objs.size+1) (ExO C (s1.heap.objs.size+1) d)) s':=
   I3.write (t':=s'.toks) (h':=s'.heap) mu (.inl rfl) (fun _ _ _ z=>z) ⟨_,e3⟩ (BP e3)
  have fin:=up pins σ _ s' (s1.heap.objs.size+1) d t3 .none I4 ae (le_trans I1.sz hz) e3 (.inl rfl) hE;have hcl:=I3.kIn _ _ hk;have hcB:(Value.ref C::vbm).contains (.type "BaseException")=true:=by rw [contains_cons,jO,Bool.or_true]
  have hh:=I1.ok.hd hc;obtain ⟨hp,g,dr,tk,os⟩:=s';refine wpAny_bind (wpAny_standAt (wpAny_pure ?_))
  repeat (first | with_reducible refine wpAny_loadPart_at e3 ?_ | with_reducible refine wpAny_loadPart_at hcl ?_ | (with_reducible refine wpAny_isSubtype_exc hcl ?_; rw [hcB]) | wp_step)
  exact wpAny_raiseNew_none hh fin
section
variable {X:Cx}
def Ro(tb:XK→TS)(ts:TS):TS:=fun D σ H=>tb (fun _ _ H'=>∀ σ':L2.St,σ'.length=σ.length→ts D σ' H') D σ H
theorem LH{C:Addr}{x:Str}{np hpos pos:Pos}{body suite:List Stmt}{b:Stmt}{tb:XK→TS}{ts:TS}(stk:X.stack=X.env::X.outer)(hf:X.env.frame=some X.env.locals)
  (cls:vq X.K C) (hg:Gl X x) (hm:X.mg x=some (.ref C)) (hb:∀ (E:XK) (xe:Value→Shared→Prop) (pn:List (Addr×Obj)),Ups (qN X xe pn) C E→PSs (qN X xe pn) body (tb E))
  (hs:∀ e,PSs (oR X e) (b::suite) ts) (hdb:(x==("__debug__":Str))=false:=by decide) :
  PS X (.Try body [.ExceptHandler (some (.Name x np)) none (b::suite) hpos] [] [] pos) (Ro tb ts):=by
 intro pins s σ H D I h;refine wpAny_Try_except ?_;have up:Ups (qN X (fun e s₁=>wpAny (model X.prog X.w) X.A (noteFrame e X.env) (fun _ s₂=>wpAny (model X.prog X.w) X.A (setFlight e none) (fun _ s₃=>wpAny (model X.prog X.w) X.A (handleBy e X.env [.ExceptHandler (some (.Name x np)) none (b::suite) hpos]) (SP X pins D) X.xe s₃) X.xe s₂) X.xe s₁) (X.pn++pins)) C
   (fun _ _ H'=>∀ σ':L2.St,σ'.length=σ.length→ts D σ' H'):=by
  intro pins' σ' H' s' a d t tb' I' ea na he hh hE;have J0:Inv X pins σ' H' s':=Inv.lX I';have fr:=J0.ok.frames;have fl:=J0.stack;rw [stk] at fr fl;refine qf (L:=X.env.locals) (outer:=X.outer) fr fl hf he hh fun h' T Nt=>?_;rw [← stk] at Nt;have J:=Inv.Ib J0 ea Nt;obtain ⟨oT,tv,eT,dT,h3⟩:=Nt.head;have JS:Inv (oR X (.ref a)) pins σ' H' { s' with heap:=h' }:=Inv.sui J;have hC:=J.kIn;obtain ⟨nm,qn,N,bs,hdct,sn,sub,ab,col,dd,k0,k1,k2,k3,k5,hcl⟩:=cls;refine wpAny_handleBy_cons (codeAny_handlers_test (gj (X:=oR X (.ref a)) JS hg hm ?_ hdb)) (by intro q; cases q);refine wpAny_excMatches_sub_self (hC _ _ hcl) Nt.exc rfl jO ?_;refine codeAny_handlers_suite ?_;unfold setFlight;refine wpAny_bind (wpAny_field (x:=.ref T) Nt.exc rfl rfl ?_);rw [if_pos (show (Value.ref T != Value.none)=true from by simp)];refine wpAny_setField eT dT (Array.getElem?_eq_some_iff.mp h3).1 ?_;have same:h'.update T (Obj.mapFields (·.setIfInBounds 3 ((none:Option Addr).elim Value.none fun f=>rawInt f)))=h':=Heap.update_setField_same _ _ _ _ _ _ eT dT h3;rw [same];refine wpAny_mono (hs (.ref a) pins _ _ H' D JS (hE σ' (by rw [I'.len,I.len]))) (fun fl s3 q=>?_) fun _ _ z=>z.elim;have hd:=I.ok.hd;cases fl with
  | next=>obtain ⟨σ3,H3,J3,q3⟩:=q; exact ⟨_,H3,Inv.qO hd J3,q3⟩
  | brk=>obtain ⟨σ3,H3,J3,q3⟩:=q; exact ⟨_,H3,Inv.qO hd J3,q3⟩
  | cont=>obtain ⟨σ3,H3,J3,q3⟩:=q; exact ⟨_,H3,Inv.qO hd J3,q3⟩
  | ret u=>obtain ⟨v3,σ3,H3,J3,r3,q3⟩:=q; exact ⟨v3,_,H3,Inv.qO hd J3,r3,q3⟩
 refine wpAny_mono (hb _ _ _ up [] s σ H D (Inv.Rl I) h) (fun fl s1 q=>?_) fun _ _ z=>z;cases fl with
 | next=>obtain ⟨σ1,H1,J,q1⟩:=q; exact wpAny_execs_nil ⟨σ1,H1,Inv.lX J,q1⟩
 | brk=>obtain ⟨σ1,H1,J,q1⟩:=q; exact ⟨σ1,H1,Inv.lX J,q1⟩
 | cont=>obtain ⟨σ1,H1,J,q1⟩:=q; exact ⟨σ1,H1,Inv.lX J,q1⟩
 | ret u=>obtain ⟨v1,σ1,H1,J,r1,q1⟩:=q; exact ⟨v1,σ1,H1,Inv.lX J,r1,q1⟩
theorem FV:gm X (.type "range") (fun xs H Q=>∃ j:Int,xs=[.int j]∧∀ p,H p=none→Q (.ref p) (upd H p (.rng 0 j))):=by
 intro pins s σ H xs us Q I r h;obtain ⟨j,rfl,q⟩:=h;obtain ⟨u,rfl,t,rfl⟩:=vals1 r;refine call_range_1 ?_;exact ⟨.ref s.heap.objs.size,_,I.laid (a:=s.heap.objs.size) (o:=.rng 0 j) (fun _ _ z=>Heap.get?_push_of_some _ z) (le_refl _) ⟨_,_,_,Heap.get?_push_size _ rfl⟩,rfl,q _ (I.hok.fresh (le_refl _))⟩
theorem FX:gm X (.type "range") (fun xs H Q=>∃ i j:Int,xs=[.int i,.int j]∧∀ p,H p=none→Q (.ref p) (upd H p (.rng i j))):=by
 intro pins s σ H xs us Q I r h;obtain ⟨i,j,rfl,q⟩:=h;obtain ⟨u,w',rfl,⟨t,rfl⟩,⟨t',rfl⟩⟩:=vals2 r;refine call_range_2 ?_;exact ⟨.ref s.heap.objs.size,_,I.laid (a:=s.heap.objs.size) (o:=.rng i j) (fun _ _ z=>Heap.get?_push_of_some _ z) (le_refl _) ⟨_,_,_,Heap.get?_push_size _ rfl⟩,rfl,q _ (I.hok.fresh (le_refl _))⟩
theorem LI{n:Nat}(f:Nat→Int):∀ {acc:List Value},acc.length=n→(∀ (j:Nat) (v:Value),acc[j]? = some v→∃ t,v=Value.int (f j) t)→Vals ((List.range n).map fun j=>V.int (f j)) acc:=by
 induction n generalizing f with
 | zero=>
  intro acc h _;rw [length_eq_zero_iff.mp h];exact .nil
 | succ n ih=>
  intro acc h hv;cases acc with
  | nil=>cases h
  | cons u r=>
   rw [range_succ_eq_map,map_cons,map_map];exact .cons (hv 0 u rfl) (ih (fun j=>f (j+1)) (by simpa using h) fun j v e=>hv (j+1) v e)
theorem lY(hc:X.calm=true):gm X (.type "list") (fun xs H Q=>∃ (p:Addr) (lo hi:Int),xs=[.ref p]∧H p=some (.rng lo hi)∧(-(2 ^ 62)≤lo∧lo<2 ^ 62∧-(2 ^ 62)≤hi∧hi<2 ^ 62)∧(hi-lo).toNat≤100000 ∧
  ∀ l,H l=none→Q (.ref l) (upd H l (.lst ((List.range (hi-lo).toNat).map fun (i:Nat)=>V.int (lo+(i:Int)))))):=by
 intro pins s σ H xs us Q I r h;obtain ⟨p,lo,hi,rfl,hp,⟨b1,b2,b3,b4⟩,hn,q⟩:=h;obtain ⟨u,rfl,rx⟩:=vals1 r;cases rx;obtain ⟨t,u,v,e⟩:=(show b7 X.prog X.w H s.heap p (.rng lo hi) from I.hok p _ hp);have e2:Builtin.Range.rangeSize lo hi 1=(((hi-lo).toNat:Nat):Int):=by rw [rangeSize_one]; split <;> omega
 refine call_list_range (I.ok.hd hc) (show IsRange s.heap p lo hi 1 t u v from e) (small_one b1 b2 b3 b4) e2 (by omega) fun h' tk acc c kp hS hacc=>?_;refine ⟨.ref s.heap.objs.size,_,I.laid (a:=s.heap.objs.size) (t':=tk) kp (le_refl _) (show b7 X.prog X.w _ h' _ (.lst ((List.range (hi-lo).toNat).map fun (i:Nat)=>V.int (lo+(i:Int)))) from ⟨?_,acc.toList,c,?_,hS⟩),rfl,q _ (I.hok.fresh (le_refl _))⟩
 ·rw [length_map,length_range,sizeLine_eq];omega
 ·refine LI (fun j=>lo+(j:Int)) (by rw [length_toList]; exact hacc.1) fun j v z=>?_;obtain ⟨t',ev⟩:=hacc.2 j v (by rw [← getElem?_toList]; exact z);exact ⟨t',by rw [ev,Int.mul_one]⟩
end
end LX
namespace NC
def aX(hi:Nat):Nat→List Nat→Prop
 | _,[]=>True
 | lo,x::r=>lo≤x∧x≤hi∧aX hi (x+1) r
def bit(h:Nat):Nat:=2 ^ (h-1)
def mask(m:List Nat):Nat:=m.foldl (fun v h=>v ||| bit h) 0
def marks(n H:Nat):List Nat:=(range' 1 H).filter fun h=>n &&& bit h != 0
def subs:Nat→Nat→List (List Nat)
 | 0,_=>[[]]
 | n+1,lo=>(subs n (lo+1)).map (fun m=>lo::m)++subs n (lo+1)
theorem aX.low{hi lo lo2:Nat}(h:lo2≤lo):∀ {m:List Nat},aX hi lo m→aX hi lo2 m
 | [],_=>True.intro
 | x::r,⟨a,b,c⟩=>⟨le_trans h a,b,c⟩
theorem aX.mem{hi:Nat}:∀ {m:List Nat} {lo x:Nat},aX hi lo m→x∈m→lo≤x∧x≤hi
 | y::r,lo,x,⟨a,b,c⟩,h=>by
  rcases mem_cons.mp h with e | e
  ·subst e;exact ⟨a,b⟩
  ·have:=aX.mem c e;omega
end NC
namespace NC
open Vbenab (known freeHoles fits valuesOf pure_ stayedAt fellAt)
theorem eR:∀ (n i:Nat),(known n i).length=n
 | 0,_=>rfl
 | n+1,i=>by rw [known,length_cons,eR n]
theorem p3(n:Nat):0<3 ^ n:=Nat.pow_pos (by decide)
theorem iW:∀ (n i:Nat),known (n+1) i=known n (i % 3 ^ n)++[i / 3 ^ n % 3]
 | 0,i=>by
  show [i % 3]=[]++[i / 1 % 3];rw [Nat.div_one];rfl
 | n+1,i=>by
  rw [known,iW n (i / 3)];have e1:i % 3 ^ (n+1) % 3=i % 3:=by
   rw [pow_succ];exact Nat.mod_mul_left_mod i (3 ^ n) 3
  have e2:i % 3 ^ (n+1) / 3=i / 3 % 3 ^ n:=by
   rw [pow_succ,mul_comm];exact Nat.mod_mul_right_div_self i 3 (3 ^ n)
  have e3:i / 3 / 3 ^ n=i / 3 ^ (n+1):=by
   rw [Nat.div_div_eq_div_mul,pow_succ,mul_comm]
  rw [known,e1,e2,e3];rfl
theorem wG:∀ {n i j:Nat},i<3 ^ n→j<3 ^ n→known n i=known n j→i=j
 | 0,i,j,hi,hj,_=>by
  rw [Nat.pow_zero] at hi hj;omega
 | n+1,i,j,hi,hj,h=>by
  rw [known,known] at h;have h1:=(List.cons.inj h).1;rw [pow_succ] at hi hj;have h2:=wG (n:=n) (i:=i / 3) (j:=j / 3) (by omega) (by omega) (List.cons.inj h).2;omega
theorem Ab:∀ {n i:Nat} {d:Nat},d∈known n i→d<3
 | n+1,i,d,h=>by
  rw [known] at h;rcases mem_cons.mp h with e | e
  ·rw [e];exact Nat.mod_lt _ (by decide)
  ·exact Ab e
theorem qg(k:List Nat)(d:Nat):freeHoles (k++[d])=freeHoles k++(if d=2 then [k.length+1] else []):=by
 unfold freeHoles;rw [zipIdx_append,filter_append,map_append,List.zipIdx_singleton,zero_add];by_cases h:d=2
 ·subst h;rw [if_pos rfl];rfl
 ·rw [if_neg h,filter_cons_of_neg (by show ¬ (d==2)=true; rw [beq_iff_eq]; exact h)];rfl
def unn:Nat→List (List Nat)
 | 0=>[[]]
 | h+1=>unn h++unn h++(unn h).map fun u=>u++[h+1]
theorem BS:∀ n:Nat,unn n=(List.range (3 ^ n)).map fun i=>freeHoles (known n i)
 | 0=>rfl
 | n+1=>by
  rw [unn,BS n];have e:3 ^ (n+1)=3 ^ n+3 ^ n+3 ^ n:=by rw [pow_succ]; omega
  rw [e,range_add,map_append,range_add,map_append,map_map,map_map,map_map];have hp:=p3 n;congr 1
  ·congr 1
   ·refine map_congr_left fun i hi=>?_;have hi:=mem_range.mp hi;rw [iW,qg,Nat.mod_eq_of_lt hi,Nat.div_eq_of_lt hi,if_neg (by decide),append_nil]
   ·refine map_congr_left fun i hi=>?_;have hi:=mem_range.mp hi;show freeHoles (known n i)=freeHoles (known (n+1) (3 ^ n+i));rw [iW,qg,Nat.add_mod_left,Nat.mod_eq_of_lt hi,Nat.add_div_left _ hp,Nat.div_eq_of_lt hi,if_neg (by decide),append_nil]
  ·refine map_congr_left fun i hi=>?_;have hi:=mem_range.mp hi;show freeHoles (known n i)++[n+1]=freeHoles (known (n+1) (3 ^ n+3 ^ n+i));have e2:3 ^ n+3 ^ n+i=i+3 ^ n*2:=by omega
   rw [iW,qg,e2,Nat.add_mul_mod_self_left,Nat.mod_eq_of_lt hi,Nat.add_mul_div_left _ _ hp,Nat.div_eq_of_lt hi,if_pos (by decide),eR]
theorem tm{k:List Nat}{h:Nat}:h∈freeHoles k↔∃ j,h=j+1∧k[j]? = some 2:=by
 unfold freeHoles;rw [mem_map];constructor
 ·rintro ⟨⟨d,j⟩,hm,e⟩;obtain ⟨h1,h2⟩:=mem_filter.mp hm;have e2:d=2:=beq_iff_eq.mp h2;subst e2;exact ⟨j,e.symm,mem_zipIdx_iff_getElem?.mp h1⟩
 ·rintro ⟨j,e,hj⟩;exact ⟨(2,j),mem_filter.mpr ⟨mem_zipIdx_iff_getElem?.mpr hj,rfl⟩,e.symm⟩
theorem yh:∀ {n i j:Nat} (c:Nat),(known n i)[j]? = some 2→c≤2→c*3 ^ j≤i∧known n (i-c*3 ^ j)=(known n i).set j (2-c)
 | 0,i,j,c,h,_=>by
  rw [known] at h;simp at h
 | n+1,i,0,c,h,hc=>by
  rw [known] at h ⊢;have h2:i % 3=2:=by simpa using h
  rw [Nat.pow_zero,Nat.mul_one,known];refine ⟨by omega,?_⟩;rw [show (i-c) % 3=2-c by omega,show (i-c) / 3=i / 3 by omega];rfl
 | n+1,i,j+1,c,h,hc=>by
  rw [known] at h ⊢;have h2:(known n (i / 3))[j]? = some 2:=by simpa using h
  obtain ⟨a,b⟩:=yh c h2 hc;have e:c*3 ^ (j+1)=3*(c*3 ^ j):=by rw [pow_succ,← Nat.mul_assoc,mul_comm]
  rw [e,known];refine ⟨by omega,?_⟩;rw [show (i-3*(c*3 ^ j)) % 3=i % 3 by omega,show (i-3*(c*3 ^ j)) / 3=i / 3-c*3 ^ j by omega,b];rfl
theorem jP{n i h:Nat}(hh:h∈freeHoles (known n i)):1≤h∧h≤n∧(known n i)[h-1]? = some 2:=by
 obtain ⟨j,e,hj⟩:=tm.mp hh;have:=(List.getElem?_eq_some_iff.mp hj).1;rw [eR] at this;subst e;exact ⟨by omega,by omega,hj⟩
theorem dJ{n i h:Nat}(hh:h∈freeHoles (known n i)):2*3 ^ (h-1)≤i∧known n (stayedAt i h)=(known n i).set (h-1) 0:=yh 2 (jP hh).2.2 (by decide)
theorem tq{n i h:Nat}(hh:h∈freeHoles (known n i)):known n (fellAt i h)=(known n i).set (h-1) 1:=by
 have z:=yh 1 (jP hh).2.2 (by decide);rw [one_mul] at z;exact z.2
theorem eN{n i h:Nat}(hh:h∈freeHoles (known n i)):stayedAt i h<i∧fellAt i h<i:=by
 have a:=(dJ hh).1;have b:=p3 (h-1);unfold stayedAt fellAt;omega
theorem dW{m k:List Nat}:fits m k=true↔∀ j d,k[j]? = some d→d=2∨(d==1)=m.contains (j+1):=by
 unfold fits;rw [all_eq_true];constructor
 ·intro h j d hd;have z:=h (d,j) (mem_zipIdx_iff_getElem?.mpr hd);rw [or_eq_true,beq_iff_eq,beq_iff_eq] at z;exact z
 ·rintro h ⟨d,j⟩ hx;rw [or_eq_true,beq_iff_eq,beq_iff_eq];exact h j d (mem_zipIdx_iff_getElem?.mp hx)
theorem mv{m k:List Nat}{j:Nat}(hj:k[j]? = some 2):fits m k=(fits m (k.set j 0) || fits m (k.set j 1)):=by
 have hlt:=(List.getElem?_eq_some_iff.mp hj).1;rw [Bool.eq_iff_iff,or_eq_true];constructor
 ·intro h;have h:=dW.mp h;cases hc:m.contains (j+1) with
  | false=>
   left;refine dW.mpr fun j2 d hd=>?_;by_cases e:j=j2
   ·subst e;rw [getElem?_set_self hlt] at hd;cases hd;right;rw [hc];rfl
   ·rw [getElem?_set_ne e] at hd;exact h j2 d hd
  | true=>
   right;refine dW.mpr fun j2 d hd=>?_;by_cases e:j=j2
   ·subst e;rw [getElem?_set_self hlt] at hd;cases hd;right;rw [hc];rfl
   ·rw [getElem?_set_ne e] at hd;exact h j2 d hd
 ·intro h;refine dW.mpr fun j2 d hd=>?_;by_cases e:j=j2
  ·subst e;rw [hj] at hd;cases hd;exact .inl rfl
  ·rcases h with h | h
   ·exact dW.mp h j2 d (by rw [getElem?_set_ne e]; exact hd)
   ·exact dW.mp h j2 d (by rw [getElem?_set_ne e]; exact hd)
theorem mx{ws:List (List Nat)}{k:List Nat}{v:Nat}:v∈valuesOf ws k↔∃ m,ws[v]? = some m∧fits m k=true:=by
 unfold valuesOf;rw [mem_map];constructor
 ·rintro ⟨⟨m,j⟩,hm,e⟩;obtain ⟨h1,h2⟩:=mem_filter.mp hm;have e:j=v:=e;subst e;exact ⟨m,mem_zipIdx_iff_getElem?.mp h1,h2⟩
 ·rintro ⟨m,h1,h2⟩;exact ⟨(m,v),mem_filter.mpr ⟨mem_zipIdx_iff_getElem?.mpr h1,h2⟩,rfl⟩
def inn(ws:List (List Nat))(s k:List Nat)(b:Bool):Bool:=(valuesOf ws k).any fun v=>s.contains v==b
def Ac(a b:Bool):Nat:=(if a=true then 1 else 0)+(if b=true then 2 else 0)
def lf(ws:List (List Nat))(s k:List Nat):Nat:=Ac (inn ws s k true) (inn ws s k false)
theorem oU{ws:List (List Nat)}{s k:List Nat}{b:Bool}:inn ws s k b=true↔∃ v m,ws[v]? = some m∧fits m k=true∧s.contains v=b:=by
 unfold inn;rw [any_eq_true];constructor
 ·rintro ⟨v,hv,e⟩;obtain ⟨m,h1,h2⟩:=mx.mp hv;exact ⟨v,m,h1,h2,beq_iff_eq.mp e⟩
 ·rintro ⟨v,m,h1,h2,e⟩;exact ⟨v,mx.mpr ⟨m,h1,h2⟩,beq_iff_eq.mpr e⟩
theorem wH{ws:List (List Nat)}{s k:List Nat}{b:Bool}{j:Nat}(hj:k[j]? = some 2):inn ws s k b=(inn ws s (k.set j 0) b || inn ws s (k.set j 1) b):=by
 rw [Bool.eq_iff_iff,or_eq_true,oU,oU,oU];constructor
 ·rintro ⟨v,m,h1,h2,h3⟩;rw [mv hj,or_eq_true] at h2;rcases h2 with h2 | h2
  ·exact .inl ⟨v,m,h1,h2,h3⟩
  ·exact .inr ⟨v,m,h1,h2,h3⟩
 ·rintro (⟨v,m,h1,h2,h3⟩ | ⟨v,m,h1,h2,h3⟩)
  ·exact ⟨v,m,h1,by rw [mv hj,h2]; rfl,h3⟩
  ·exact ⟨v,m,h1,by rw [mv hj,h2,Bool.or_true],h3⟩
theorem LJ:∀ a b c d:Bool,Ac (a || c) (b || d)=Ac a b ||| Ac c d:=by decide
theorem Ig{ws:List (List Nat)}{s k:List Nat}{j:Nat}(hj:k[j]? = some 2):lf ws s k=lf ws s (k.set j 0) ||| lf ws s (k.set j 1):=by
 unfold lf;rw [wH hj,wH (b:=false) hj,LJ]
theorem LK(ws:List (List Nat))(s k:List Nat):pure_ s (valuesOf ws k)=(lf ws s k != 3):=by
 have e1:(valuesOf ws k).all (fun v=>s.contains v) = !inn ws s k false:=by
  unfold inn;rw [List.not_any_eq_all_not];refine congrArg (fun p=>(valuesOf ws k).all p) (funext fun v=>?_);cases s.contains v <;> rfl
 have e2:((valuesOf ws k).all fun v=>!s.contains v) = !inn ws s k true:=by
  unfold inn;rw [List.not_any_eq_all_not];refine congrArg (fun p=>(valuesOf ws k).all p) (funext fun v=>?_);cases s.contains v <;> rfl
 unfold pure_;rw [e1,e2];unfold lf;have:∀ a b:Bool,(!b || !a)=(Ac a b != 3):=by decide
 exact this _ _
theorem Ih(ws:List (List Nat))(s k:List Nat)(h:lf ws s k≠3):((valuesOf ws k).isEmpty=false∧((valuesOf ws k).all fun v=>s.contains v)=true)↔lf ws s k=1:=by
 have e1:(valuesOf ws k).all (fun v=>s.contains v) = !inn ws s k false:=by
  unfold inn;rw [List.not_any_eq_all_not];refine congrArg (fun p=>(valuesOf ws k).all p) (funext fun v=>?_);cases s.contains v <;> rfl
 have e2:(valuesOf ws k).isEmpty = !(inn ws s k true || inn ws s k false):=by
  unfold inn;cases hv:valuesOf ws k with
  | nil=>rfl
  | cons v r=>
   rw [List.isEmpty_cons,any_cons,any_cons];cases s.contains v <;> simp
 rw [e1,e2];unfold lf at h ⊢;revert h;generalize inn ws s k true=a;generalize inn ws s k false=b;revert a b;decide
theorem cN{hi:Nat}:∀ {n lo:Nat} {m:List Nat},aX hi lo m→hi<lo+n→m∈subs n lo
 | 0,lo,[],_,_=>mem_singleton.mpr rfl
 | 0,lo,x::r,⟨a,b,_⟩,h=>by omega
 | n+1,lo,m,hm,h=>by
  rw [subs];cases m with
  | nil=>exact mem_append_right _ (cN (hi:=hi) (m:=[]) True.intro (by omega))
  | cons x r=>
   obtain ⟨a,b,c⟩:=hm;by_cases e:x=lo
   ·subst e;exact mem_append_left _ (mem_map.mpr ⟨r,cN c (by omega),rfl⟩)
   ·exact mem_append_right _ (cN (m:=x::r) ⟨by omega,b,c⟩ (by omega))
def jQ(m:List Nat):Nat:=(m.map fun h=>3 ^ (h-1)).sum
theorem Ii:((List.range 9).all fun n=>(subs n 1).all fun m=>decide (jQ m<3 ^ n)&&(known n (jQ m)==(List.range n).map fun j=>if m.contains (j+1)=true then 1 else 0))=true:=by decide +kernel
theorem yi{n:Nat}{m:List Nat}(h:aX n 1 m)(hn:n≤8):jQ m<3 ^ n∧known n (jQ m)=(List.range n).map fun j=>if m.contains (j+1)=true then 1 else 0:=by
 have a:=all_eq_true.mp (all_eq_true.mp Ii n (mem_range.mpr (by omega))) m (cN h (by omega));rw [and_eq_true,decide_eq_true_eq,beq_iff_eq] at a;exact a
theorem FY{n:Nat}{m:List Nat}(h:aX n 1 m)(hn:n≤8):freeHoles (known n (jQ m))=[]:=by
 refine List.eq_nil_iff_forall_not_mem.mpr fun x hx=>?_;obtain ⟨j,_,hj⟩:=tm.mp hx;rw [(yi h hn).2,getElem?_map] at hj;cases hr:(List.range n)[j]? with
 | none=>
  rw [hr] at hj;cases hj
 | some y=>
  rw [hr] at hj;have e:(if m.contains (y+1)=true then 1 else 0)=2:=by simpa using hj
  split at e <;> omega
theorem iK{n i:Nat}{m:List Nat}(h:aX n 1 m)(hn:n≤8)(hi:i<3 ^ n)(hf:freeHoles (known n i)=[]):fits m (known n i)=true↔i=jQ m:=by
 obtain ⟨t1,t2⟩:=yi h hn;constructor
 ·intro hx;have hx:=dW.mp hx;refine wG hi t1 ?_;rw [t2];refine ext_getElem? fun j=>?_;by_cases hj:j<n
  ·have l1:j<(known n i).length:=by rw [eR]; exact hj
   have g1:=getElem?_eq_getElem l1;have z:=hx j _ g1;have n2:(known n i)[j]≠2:=fun e=>by
    have:j+1∈freeHoles (known n i):=tm.mpr ⟨j,rfl,by rw [g1,e]⟩;rw [hf] at this;cases this
   have lt:=Ab (getElem_mem l1);rw [g1,getElem?_map,getElem?_range hj];show _=some (if m.contains (j+1)=true then 1 else 0);rcases z with z | z
   ·exact absurd z n2
   ·rw [← z];generalize (known n i)[j]=d at n2 lt
    match d,lt,n2 with
    | 0,_,_=>rfl
    | 1,_,_=>rfl
    | 2,_,n2=>exact absurd rfl n2
  ·rw [getElem?_eq_none (by rw [eR]; omega),getElem?_eq_none (by rw [length_map,length_range]; omega)]
 ·intro e;rw [e,t2];refine dW.mpr fun j d hd=>?_;rw [getElem?_map] at hd;cases hr:(List.range n)[j]? with
  | none=>
   rw [hr] at hd;cases hd
  | some y=>
   have ey:y=j:=by
    have hl:=(List.getElem?_eq_some_iff.mp hr).1;rw [length_range] at hl;rw [getElem?_range hl] at hr;exact (Option.some.inj hr).symm
   subst ey;rw [hr] at hd;have e:(if m.contains (y+1)=true then 1 else 0)=d:=by simpa using hd
   right;rw [← e];cases m.contains (y+1) <;> rfl
structure GoodW(n:Nat)(ws:List (List Nat)):Prop where
 hn:n≤8
 ri:∀ m∈ws,aX n 1 m
 nd:ws.Nodup
theorem Ad{n:Nat}{m m2:List Nat}(h:aX n 1 m)(h2:aX n 1 m2)(hn:n≤8)(e:jQ m=jQ m2):m=m2:=by
 have a:((List.range 9).all fun n=>(subs n 1).all fun m=>((range' 1 n).filter fun h=>(known n (jQ m)).getD (h-1) 0==1)==m)=true:=by decide +kernel
 have f:∀ {m:List Nat},aX n 1 m→((range' 1 n).filter fun h=>(known n (jQ m)).getD (h-1) 0==1)=m:=fun {m} h=>by
  have z:=all_eq_true.mp (all_eq_true.mp a n (mem_range.mpr (by omega))) m (cN h (by omega));exact beq_iff_eq.mp z
 rw [← f h,← f h2,e]
theorem qQ{ws:List (List Nat)}{t:Nat}{m:List Nat}(h:ws[t]? = some m)(k:List Nat):valuesOf (ws.take (t+1)) k=valuesOf (ws.take t) k++if fits m k=true then [t] else []:=by
 obtain ⟨hl,e⟩:=List.getElem?_eq_some_iff.mp h;have e2:ws.take (t+1)=ws.take t++[m]:=by
  rw [List.take_succ,h];rfl
 unfold valuesOf;rw [e2,zipIdx_append,filter_append,map_append,List.zipIdx_singleton,zero_add,length_take,min_eq_left (le_of_lt hl)];cases hf:fits m k with
 | true=>rw [if_pos rfl,filter_cons_of_pos (p:=fun x:List Nat×Nat=>fits x.1 k) (a:=(m,t)) hf]; rfl
 | false=>rw [if_neg (by decide),filter_cons_of_neg (by show ¬ fits m k=true; rw [hf]; decide)]; rfl
def f1(n:Nat)(ws:List (List Nat))(s:List Nat)(t i:Nat):Nat:=if freeHoles (known n i)=[] then lf (ws.take t) s (known n i) else 0
theorem LL(n:Nat)(ws:List (List Nat))(s:List Nat)(i:Nat):f1 n ws s 0 i=0:=by
 unfold f1;split
 ·rfl
 ·rfl
theorem LM{n:Nat}{ws:List (List Nat)}(g:GoodW n ws){s:List Nat}{t i:Nat}{m:List Nat}(h:ws[t]? = some m)(hi:i<3 ^ n):f1 n ws s (t+1) i=if i=jQ m then (if s.contains t=true then 1 else 2) else f1 n ws s t i:=by
 have rm:=g.ri m (mem_of_getElem? h);unfold f1;by_cases hf:freeHoles (known n i)=[]
 ·rw [if_pos hf,if_pos hf];by_cases e:i=jQ m
  ·rw [if_pos e];have none:valuesOf (ws.take t) (known n i)=[]:=by
    refine List.eq_nil_iff_forall_not_mem.mpr fun v hv=>?_;obtain ⟨m2,h1,h2⟩:=mx.mp hv;have hlt:v<t:=by
     have:=(List.getElem?_eq_some_iff.mp h1).1;rw [length_take] at this;omega
    have h1':ws[v]? = some m2:=by
     rw [List.getElem?_take_of_lt hlt] at h1;exact h1
    have rm2:=g.ri m2 (mem_of_getElem? h1');have e2:=(iK rm2 g.hn hi hf).mp h2;have e3:m2=m:=Ad rm2 rm g.hn (e2.symm.trans e);subst e3;obtain ⟨l1,q1⟩:=List.getElem?_eq_some_iff.mp h1';obtain ⟨l2,q2⟩:=List.getElem?_eq_some_iff.mp h;have:=(getElem_inj g.nd).mp (q1.trans q2.symm);omega
   unfold lf inn;rw [qQ h,none,if_pos ((iK rm g.hn hi hf).mpr e),nil_append];cases hs:s.contains t with
   | true=>
    simp only [any_cons,any_nil,hs];rfl
   | false=>
    simp only [any_cons,any_nil,hs];rfl
  ·rw [if_neg e];unfold lf inn;rw [qQ h,if_neg (fun z=>e ((iK rm g.hn hi hf).mp z)),append_nil]
 ·rw [if_neg hf,if_neg hf];rw [if_neg];intro e;rw [e] at hf;exact hf (FY rm g.hn)
def f2(n:Nat)(ws:List (List Nat))(s:List Nat)(t i:Nat):Nat:=if i<t then lf ws s (known n i) else f1 n ws s ws.length i
theorem LN(n:Nat)(ws:List (List Nat))(s:List Nat)(i:Nat):f2 n ws s 0 i=f1 n ws s ws.length i:=if_neg (not_lt_zero _)
theorem LO{n:Nat}{ws:List (List Nat)}{s:List Nat}{t:Nat}(hf:freeHoles (known n t)=[])(i:Nat):f2 n ws s (t+1) i=f2 n ws s t i:=by
 unfold f2;by_cases e:i=t
 ·subst e;rw [if_pos (lt_succ_self _),if_neg (lt_irrefl _),f1,if_pos hf,take_length]
 ·by_cases h:i<t
  ·rw [if_pos h,if_pos (by omega)]
  ·rw [if_neg h,if_neg (by omega)]
theorem LP{n:Nat}{ws:List (List Nat)}{s:List Nat}{t h:Nat}(hh:h∈freeHoles (known n t))(i:Nat):f2 n ws s (t+1) i=if i=t then (f2 n ws s t (stayedAt t h) ||| f2 n ws s t (fellAt t h)) else f2 n ws s t i:=by
 obtain ⟨l1,l2⟩:=eN hh;by_cases e:i=t
 ·subst e;rw [if_pos rfl];unfold f2;rw [if_pos (lt_succ_self _),if_pos l1,if_pos l2,(dJ hh).2,tq hh];exact Ig (jP hh).2.2
 ·rw [if_neg e];unfold f2;by_cases h:i<t
  ·rw [if_pos h,if_pos (by omega)]
  ·rw [if_neg h,if_neg (by omega)]
end NC
namespace NC
open Vbenab (known freeHoles fits valuesOf pure_ stayedAt fellAt least)
theorem dX{α:Type}(l:List α)(i:Nat)(d : α):l.toArray.getD i d=l.getD i d:=by
 rw [Array.getD_eq_getD_getElem?,List.getElem?_toArray,getD_eq_getElem?_getD]
section
variable (g:Nat→Nat→Nat)(n:Nat)(ws:List (List Nat))(s:List Nat)
def oV(T:List Nat)(i:Nat):Nat:=if lf ws s (known n i)=3 then 1+least ((freeHoles (known n i)).map fun h=>g (T.getD (stayedAt i h) 0) (T.getD (fellAt i h) 0)) else 0
def tab:Nat→List Nat
 | 0=>[]
 | i+1=>tab i++[oV g n ws s (tab i) i]
def cst(i:Nat):Nat:=oV g n ws s (tab g n ws s i) i
theorem lz:∀ N,(tab g n ws s N).length=N
 | 0=>rfl
 | N+1=>by rw [tab,length_append,lz N]; rfl
theorem BU:∀ N,tab g n ws s N=(List.range N).map (cst g n ws s)
 | 0=>rfl
 | N+1=>by
  rw [range_succ,map_append,← BU N];rfl
theorem iX{N i:Nat}(h:i<N):(tab g n ws s N).getD i 0=cst g n ws s i:=by
 rw [BU,getD_eq_getElem?_getD,getElem?_map,getElem?_range h];rfl
theorem OK(i:Nat):cst g n ws s i=if lf ws s (known n i)=3 then 1+least ((freeHoles (known n i)).map fun h=>g (cst g n ws s (stayedAt i h)) (cst g n ws s (fellAt i h))) else 0:=by
 unfold cst oV;split
 ·refine congrArg (fun l=>1+least l) (map_congr_left fun h hh=>?_);obtain ⟨l1,l2⟩:=eN hh;rw [iX g n ws s l1,iX g n ws s l2];rfl
 ·rfl
theorem tD(f:Array Nat→Nat→Nat)(hf:∀ (T:List Nat) i,f T.toArray i=oV g n ws s T i):∀ N,(List.range N).foldl (fun a i=>a.push (f a i)) #[]=(tab g n ws s N).toArray
 | 0=>rfl
 | N+1=>by
  rw [range_succ,foldl_append,tD f hf N];show push _ _=_;rw [hf,tab,List.push_toArray]
end
theorem sg{ws:List (List Nat)}{s k:List Nat}{α:Type}{a b : α}:(if pure_ s (valuesOf ws k)=true then a else b)=if lf ws s k=3 then b else a:=by
 rw [LK];by_cases h:lf ws s k=3
 ·rw [if_pos h,h];rfl
 ·rw [if_neg h,if_pos (by rw [bne_iff_ne]; exact h)]
theorem qh(c:Vbenab.Code)(s:List Nat):costs c s=(tab (· + ·) c.holes (codeWords c) s (3 ^ c.holes)).toArray:=by
 unfold Vbenab.costs;refine tD _ _ _ _ _ (fun T i=>?_) _;unfold Vbenab.costAt oV;dsimp only;rw [sg];simp only [dX]
theorem BV(c:Vbenab.Code)(s:List Nat):depths c s=(tab max c.holes (codeWords c) s (3 ^ c.holes)).toArray:=by
 unfold Vbenab.depths;refine tD _ _ _ _ _ (fun T i=>?_) _;unfold Vbenab.deepAt oV;dsimp only;rw [sg];simp only [dX]
theorem oW(n:Nat):3 ^ n-1<3 ^ n:=Nat.sub_lt (p3 n) (by decide)
theorem tE(c:Vbenab.Code)(s:List Nat):fewest c s=cst (· + ·) c.holes (codeWords c) s (3 ^ c.holes-1):=by
 unfold Vbenab.fewest Vbenab.whole;rw [qh,dX,iX _ _ _ _ (oW _)]
theorem qR(c:Vbenab.Code)(s:List Nat):shallowest c s=cst max c.holes (codeWords c) s (3 ^ c.holes-1):=by
 unfold Vbenab.shallowest Vbenab.whole;rw [BV,dX,iX _ _ _ _ (oW _)]
theorem fold_min:∀ (l:List Nat) (a:Nat),(l.foldl min a=a∨l.foldl min a∈l)∧l.foldl min a≤a∧∀ x∈l,l.foldl min a≤x
 | [],a=>⟨.inl rfl,le_refl _,fun _ h=>by cases h⟩
 | b::l,a=>by
  obtain ⟨h1,h2,h3⟩:=fold_min l (min a b);rw [foldl_cons];refine ⟨?_,by omega,fun x hx=>?_⟩
  ·rcases h1 with h1 | h1
   ·by_cases e:a≤b
    ·left;rw [h1];omega
    ·right;rw [h1,show min a b=b by omega];exact mem_cons_self
   ·right;exact mem_cons_of_mem _ h1
  ·rcases mem_cons.mp hx with e | e
   ·subst e;omega
   ·exact h3 x e
theorem wI{l:List Nat}(h:l≠[]):least l∈l∧∀ x∈l,least l≤x:=by
 cases l with
 | nil=>exact absurd rfl h
 | cons a r=>
  obtain ⟨h1,h2,h3⟩:=fold_min r a;refine ⟨?_,fun x hx=>?_⟩
  ·rcases h1 with h1 | h1
   ·show r.foldl min a∈a::r;rw [h1];exact mem_cons_self
   ·exact mem_cons_of_mem _ h1
  ·rcases mem_cons.mp hx with e | e
   ·subst e;exact h2
   ·exact h3 x e
theorem Ij{l:List Nat}{m:Nat}(h:m∈l)(hm:∀ x∈l,m≤x):least l=m:=by
 have hn:l≠[]:=fun e=>by rw [e] at h; cases h
 obtain ⟨a,b⟩:=wI hn;exact Nat.le_antisymm (b m h) (hm _ a)
theorem qi{n:Nat}{ws:List (List Nat)}(g:GoodW n ws){s:List Nat}{i:Nat}(hi:i<3 ^ n)(h:lf ws s (known n i)=3):freeHoles (known n i)≠[]:=by
 intro hf;have ha:inn ws s (known n i) true=true∧inn ws s (known n i) false=true:=by
  unfold lf at h;revert h;generalize inn ws s (known n i) true=a;generalize inn ws s (known n i) false=b;revert a b;decide
 obtain ⟨v,m,h1,h2,h3⟩:=oU.mp ha.1;obtain ⟨v2,m2,k1,k2,k3⟩:=oU.mp ha.2;have rm:=g.ri m (mem_of_getElem? h1);have rm2:=g.ri m2 (mem_of_getElem? k1);have e:m=m2:=Ad rm rm2 g.hn (((iK rm g.hn hi hf).mp h2).symm.trans ((iK rm2 g.hn hi hf).mp k2));subst e;obtain ⟨l1,q1⟩:=List.getElem?_eq_some_iff.mp h1;obtain ⟨l2,q2⟩:=List.getElem?_eq_some_iff.mp k1;have:=(getElem_inj g.nd).mp (q1.trans q2.symm);subst this;rw [h3] at k3;cases k3
theorem BW{l:List Int}{x m:Int}(h1:m∈l)(h2:∀ y∈l,m≤y):decide (x≤1+m)=l.all fun y=>decide (x≤1+y):=by
 rw [Bool.eq_iff_iff,decide_eq_true_eq,all_eq_true];constructor
 ·intro h y hy;rw [decide_eq_true_eq];have:=h2 y hy;omega
 ·intro h;have:=h m h1;rw [decide_eq_true_eq] at this;exact this
def tF(n:Nat)(ws:List (List Nat))(s:List Nat)(d:List Int)(i:Nat):Bool:=
 if lf ws s (known n i)=3 then (freeHoles (known n i)).all fun h=>decide (d.getD i 0≤1+(d.getD (stayedAt i h) 0+d.getD (fellAt i h) 0)) else decide (d.getD i 0≤0)
theorem BX(c:Vbenab.Code)(s:List Nat)(d:List Int):accepts c s d=(decide (d.length=3 ^ c.holes)&&(List.range (3 ^ c.holes)).all (tF c.holes (codeWords c) s d)):=by
 unfold Vbenab.accepts;dsimp only;have e1:(d.length==3 ^ c.holes)=decide (d.length=3 ^ c.holes):=by rw [Bool.eq_iff_iff,beq_iff_eq,decide_eq_true_eq]
 rw [e1];refine congrArg (fun p=>decide (d.length=3 ^ c.holes)&&(List.range (3 ^ c.holes)).all p) (funext fun i=>?_);rw [sg];unfold tF;simp only [dX];split
 ·refine congrArg (fun p=>(freeHoles (known c.holes i)).all p) (funext fun h=>?_);rw [Int.add_assoc]
 ·rfl
end NC
namespace NC
open Vbenab (known freeHoles fits valuesOf pure_ stayedAt fellAt least Tree treeRow)
section
variable (n:Nat)(ws:List (List Nat))(s:List Nat)
abbrev cs(i:Nat):Nat:=cst (· + ·) n ws s i
def eK(i:Nat):List Nat:=(freeHoles (known n i)).filter fun h=>cs n ws s i==1+cs n ws s (stayedAt i h)+cs n ws s (fellAt i h)
def bld:Nat→Nat→Tree
 | 0,_=>.no
 | f+1,i=>if lf ws s (known n i)=3 then (match (eK n ws s i).head? with
   | none=>.no
   | some h=>.node h (bld f (stayedAt i h)) (bld f (fellAt i h))) else if lf ws s (known n i)=1 then .yes else .no
end
theorem head_filter{α:Type}(p : α→Bool):∀ l:List α,l.find? p=(l.filter p).head?
 | []=>rfl
 | a::l=>by
  cases h:p a with
  | true=>rw [List.find?_cons_of_pos h,filter_cons_of_pos h]; rfl
  | false=>rw [List.find?_cons_of_neg (by rw [h]; decide),filter_cons_of_neg (by rw [h]; decide),head_filter p l]
theorem qj(c:Vbenab.Code)(s:List Nat):∀ f i,i<3 ^ c.holes→build c s (costs c s) f i=bld c.holes (codeWords c) s f i
 | 0,i,_=>rfl
 | f+1,i,hi=>by
  rw [build,bld];unfold Vbenab.valuesAt;rw [sg];by_cases h3:lf (codeWords c) s (known c.holes i)=3
  ·rw [if_pos h3,if_pos h3];have e:((freeHoles (known c.holes i)).find? fun h=>1+(costs c s).getD (stayedAt i h) 0+(costs c s).getD (fellAt i h) 0==(costs c s).getD i 0)=(eK c.holes (codeWords c) s i).head?:=by
    rw [head_filter];unfold eK;refine congrArg head? (filter_congr fun h hh=>?_);obtain ⟨l1,l2⟩:=eN hh;rw [qh,dX,dX,dX,iX _ _ _ _ hi,iX _ _ _ _ (lt_trans l1 hi),iX _ _ _ _ (lt_trans l2 hi),Bool.eq_iff_iff,beq_iff_eq,beq_iff_eq];exact ⟨Eq.symm,Eq.symm⟩
   rw [e];cases hm:(eK c.holes (codeWords c) s i).head? with
   | none=>rfl
   | some h=>
    have hh:h∈freeHoles (known c.holes i):=(mem_filter.mp (List.mem_of_mem_head? (show h∈(eK c.holes (codeWords c) s i).head? by rw [hm]; rfl))).1;obtain ⟨l1,l2⟩:=eN hh;dsimp only;rw [qj c s f _ (lt_trans l1 hi),qj c s f _ (lt_trans l2 hi)]
  ·rw [if_neg h3,if_neg h3];by_cases h1:lf (codeWords c) s (known c.holes i)=1
   ·rw [if_pos h1,if_pos ((Ih _ _ _ h3).mpr h1)]
   ·rw [if_neg h1,if_neg (fun z=>h1 ((Ih _ _ _ h3).mp z))]
theorem iY:∀ (k:List Nat),(freeHoles k).length=k.count 2:=by
 intro k;unfold freeHoles;rw [length_map,← List.countP_eq_length_filter,List.count];have:∀ (l:List Nat) (o:Nat),(l.zipIdx o).countP (fun x=>x.1==2)=l.countP (fun x=>x==2):=by
  intro l
  induction l with
  | nil=>intro o; rfl
  | cons a l ih=>
   intro o;rw [List.zipIdx_cons,List.countP_cons,List.countP_cons,ih]
 exact this k 0
theorem my{b:Nat}(hb:b≠2):∀ {k:List Nat} {j:Nat},k[j]? = some 2→(k.set j b).count 2+1=k.count 2
 | [],j,h=>by simp at h
 | a::k,0,h=>by
  have e:a=2:=by simpa using h
  subst e;rw [List.set_cons_zero,count_cons,count_cons,if_neg (by rw [beq_iff_eq]; exact hb),if_pos (show (2==2)=true from rfl)]
 | a::k,j+1,h=>by
  have h2:k[j]? = some 2:=by simpa using h
  have:=my hb h2;rw [List.set_cons_succ,count_cons,count_cons];omega
def rk(n i:Nat):Nat:=(freeHoles (known n i)).length
theorem EG{n i h:Nat}(hh:h∈freeHoles (known n i)):rk n (stayedAt i h)+1=rk n i∧rk n (fellAt i h)+1=rk n i:=by
 unfold rk;rw [iY,iY,iY,(dJ hh).2,tq hh];exact ⟨my (by decide) (jP hh).2.2,my (by decide) (jP hh).2.2⟩
theorem EH(n i:Nat):rk n i≤n:=by
 unfold rk;rw [iY];have:=List.count_le_length (a:=2) (l:=known n i);rw [eR] at this;exact this
theorem oX{n:Nat}{ws:List (List Nat)}{s:List Nat}:∀ (f f2 i:Nat),rk n i<f→rk n i<f2→bld n ws s f i=bld n ws s f2 i
 | 0,_,_,h,_=>absurd h (not_lt_zero _)
 | _+1,0,_,_,h=>absurd h (not_lt_zero _)
 | f+1,f2+1,i,h1,h2=>by
  rw [bld,bld];by_cases h3:lf ws s (known n i)=3
  ·rw [if_pos h3,if_pos h3];cases hm:(eK n ws s i).head? with
   | none=>rfl
   | some h=>
    have hh:h∈freeHoles (known n i):=(mem_filter.mp (List.mem_of_mem_head? (show h∈(eK n ws s i).head? by rw [hm]; rfl))).1;obtain ⟨r1,r2⟩:=EG hh;dsimp only;rw [oX f f2 (stayedAt i h) (by omega) (by omega),oX f f2 (fellAt i h) (by omega) (by omega)]
  ·rw [if_neg h3,if_neg h3]
def cP(n:Nat)(ws:List (List Nat))(s:List Nat)(i:Nat):Tree:=bld n ws s (n+1) i
theorem Ae{n:Nat}{ws:List (List Nat)}{s:List Nat}{i:Nat}(h:lf ws s (known n i)≠3):cP n ws s i=if lf ws s (known n i)=1 then .yes else .no:=by
 unfold cP;rw [bld,if_neg h]
theorem Ik{n:Nat}{ws:List (List Nat)}(g:GoodW n ws){s:List Nat}{i:Nat}(hi:i<3 ^ n)(h:lf ws s (known n i)=3):eK n ws s i≠[]:=by
 have hf:=qi g hi h;have hne:((freeHoles (known n i)).map fun h=>cs n ws s (stayedAt i h)+cs n ws s (fellAt i h))≠[]:=fun e=>hf (List.map_eq_nil_iff.mp e);obtain ⟨hm,_⟩:=wI hne;obtain ⟨x,hx,ex⟩:=mem_map.mp hm;intro e;have:x∈eK n ws s i:=by
  refine mem_filter.mpr ⟨hx,beq_iff_eq.mpr ?_⟩;have z:=OK (· + ·) n ws s i;rw [if_pos h] at z;show cst (· + ·) n ws s i=_;rw [z,← ex];omega
 rw [e] at this;cases this
theorem Af{n:Nat}{ws:List (List Nat)}{s:List Nat}{i h:Nat}{r:List Nat}(h3:lf ws s (known n i)=3)(hm:eK n ws s i=h::r):cP n ws s i = .node h (cP n ws s (stayedAt i h)) (cP n ws s (fellAt i h)):=by
 have hh:h∈freeHoles (known n i):=(mem_filter.mp (by show h∈eK n ws s i; rw [hm]; exact mem_cons_self)).1;obtain ⟨r1,r2⟩:=EG hh;have:=EH n i;unfold cP;rw [bld,if_pos h3,hm];dsimp only [head?];rw [oX n (n+1) (stayedAt i h) (by omega) (by omega),oX n (n+1) (fellAt i h) (by omega) (by omega)]
theorem LQ(c:Vbenab.Code)(s:List Nat):tree c s=cP c.holes (codeWords c) s (3 ^ c.holes-1):=by
 unfold Vbenab.tree Vbenab.whole cP;exact qj c s _ _ (oW _)
theorem yj{n:Nat}{ws:List (List Nat)}{s:List Nat}:∀ f i,(treeRow (bld n ws s f i)).length+2≤4*2 ^ f
 | 0,i=>by
  show 1+2≤4;decide
 | f+1,i=>by
  have hp:0<2 ^ f:=Nat.pow_pos (by decide);rw [bld,pow_succ];split
  ·split
   ·show 1+2≤_;omega
   ·rename_i h _
    have a:=yj (n:=n) (ws:=ws) (s:=s) f (stayedAt i h);have b:=yj (n:=n) (ws:=ws) (s:=s) f (fellAt i h);rw [treeRow,length_append,length_append];show 2+_+2≤_;omega
  ·split
   ·show 1+2≤_;omega
   ·show 1+2≤_;omega
theorem tG{n:Nat}(hn:n≤8)(ws:List (List Nat))(s:List Nat)(i:Nat):(treeRow (cP n ws s i)).length≤2048:=by
 have a:=yj (n:=n) (ws:=ws) (s:=s) (n+1) i;have b:2 ^ (n+1)≤2 ^ 9:=Nat.pow_le_pow_right (by decide) (by omega);unfold cP;omega
theorem LR(t:Tree):1≤(treeRow t).length:=by
 cases t with
 | no=>exact le_refl _
 | yes=>exact le_refl _
 | node h a b=>
  rw [treeRow,length_append];show 1≤2+_;omega
end NC
namespace NC
open Vbenab (Tree treeIn comes needlings depth)
def a9(most:Nat):Nat→List Int→Option (List Tree×List Int)
 | 0,l=>some ([],l)
 | _+1,[]=>none
 | k+1,x::l=>if x=0 then (match a9 most k l with
   | none=>none
   | some y=>some (.no::y.1,y.2)) else if x=1 then (match a9 most k l with
   | none=>none
   | some y=>some (.yes::y.1,y.2)) else if x=2 then (match l with
   | []=>none
   | h::l=>if h<1∨(most:Int)<h then none else match a9 most (k+2) l with
    | some (a::b::ts,r)=>some (.node h.toNat a b::ts,r)
    | _=>none) else none
theorem tH(most k:Nat):a9 most (k+1) []=none:=by rw [a9.eq_def]
theorem b6(most k:Nat)(x:Int)(l:List Int):a9 most (k+1) (x::l)=if x=0 then (match a9 most k l with
   | none=>none
   | some y=>some (.no::y.1,y.2)) else if x=1 then (match a9 most k l with
   | none=>none
   | some y=>some (.yes::y.1,y.2)) else if x=2 then (match l with
   | []=>none
   | h::l=>if h<1∨(most:Int)<h then none else match a9 most (k+2) l with
    | some (a::b::ts,r)=>some (.node h.toNat a b::ts,r)
    | _=>none) else none:=by
 rw [a9.eq_def]
theorem iZ(most:Nat):∀ (N:Nat) (k:Nat) (l:List Int) (ts:List Tree) (r:List Int),l.length≤N→a9 most k l=some (ts,r)→ts.length=k∧r.length≤l.length
 | N,0,l,ts,r,_,h=>by
  rw [a9] at h;cases h;exact ⟨rfl,le_refl _⟩
 | N,k+1,[],ts,r,_,h=>by
  rw [a9] at h;cases h
 | 0,k+1,x::l,ts,r,hl,h=>absurd hl (Nat.not_succ_le_zero _)
 | N+1,k+1,x::l,ts,r,hl,h=>by
  rw [length_cons] at hl;rw [b6] at h;split at h
  ·split at h
   ·cases h
   ·rename_i y hy
    obtain ⟨a,b⟩:=iZ most N k l y.1 y.2 (by omega) hy;cases h;rw [length_cons,length_cons];omega
  ·split at h
   ·split at h
    ·cases h
    ·rename_i y hy
     obtain ⟨a,b⟩:=iZ most N k l y.1 y.2 (by omega) hy;cases h;rw [length_cons,length_cons];omega
   ·split at h
    ·split at h
     ·cases h
     ·rename_i h0 l2
      rw [length_cons] at hl;split at h
      ·cases h
      ·split at h
       ·rename_i a b ts2 r2 hy
        obtain ⟨e1,e2⟩:=iZ most N (k+2) l2 _ _ (by omega) hy;cases h;rw [length_cons,length_cons] at e1;rw [length_cons,length_cons,length_cons];omega
       ·cases h
    ·cases h
theorem tI(most:Nat):∀ (f:Nat) (l:List Int) (x:Tree×List Int),treeIn most f l=some x→x.2.length<l.length
 | 0,l,x,h=>by
  rw [treeIn] at h;cases h
 | f+1,l,x,h=>by
  unfold treeIn at h;split at h
  ·cases h;exact lt_succ_self _
  ·cases h;exact lt_succ_self _
  ·split at h
   ·cases h
   ·split at h
    ·cases h
    ·rename_i a ha
     split at h
     ·cases h
     ·rename_i b hb
      cases h;have h1:=tI most f _ _ ha;have h2:=tI most f _ _ hb;rw [length_cons,length_cons];show b.2.length<_;omega
  ·cases h
theorem Il(h:Int)(most:Nat):(isBetween h 1 (most:Int)=false)↔(h<1∨(most:Int)<h):=by
 unfold VbenCore.isBetween;rw [and_eq_false_iff,decide_eq_false_iff_not,decide_eq_false_iff_not];omega
theorem jR(most:Nat):∀ (N f k:Nat) (l:List Int),l.length≤N→l.length<f→a9 most (k+1) l=match treeIn most f l with
  | none=>none
  | some y=>match a9 most k y.2 with
   | none=>none
   | some z=>some (y.1::z.1,z.2)
 | _,0,_,_,_,h=>absurd h (not_lt_zero _)
 | N,f+1,k,[],_,_=>by
  rw [tH,treeIn];intro _ z; cases z;intro _ z; cases z;intro _ _ z; cases z
 | 0,f+1,k,x::l,hl,_=>absurd hl (Nat.not_succ_le_zero _)
 | N+1,f+1,k,x::l,hl,hf=>by
  rw [length_cons] at hl hf;by_cases h0:x=0
  ·subst h0;rw [b6,if_pos rfl,treeIn]
  ·by_cases h1:x=1
   ·subst h1;rw [b6,if_neg h0,if_pos rfl,treeIn]
   ·by_cases h2:x=2
    ·subst h2;rw [b6,if_neg h0,if_neg h1,if_pos rfl];cases l with
     | nil=>
      rw [treeIn];intro _ z; cases z;intro _ z; cases z;intro _ _ z; cases z
     | cons h l=>
      rw [length_cons] at hl hf;rw [treeIn];dsimp only;by_cases hb:h<1∨(most:Int)<h
      ·rw [if_pos hb,if_pos ((Il h most).mpr hb)]
      ·rw [if_neg hb,if_neg (fun z=>hb ((Il h most).mp z))];rw [jR most N f (k+1) l (by omega) (by omega)];cases ha:treeIn most f l with
       | none=>rfl
       | some a=>
        have la:=tI most f _ _ ha;dsimp only;rw [jR most N f k a.2 (by omega) (by omega)];cases hb2:treeIn most f a.2 with
        | none=>rfl
        | some b=>
         dsimp only;cases a9 most k b.2 with
         | none=>rfl
         | some z=>rfl
    ·rw [b6,if_neg h0,if_neg h1,if_neg h2,treeIn]
     ·intro r z;exact h0 (List.cons.inj z).1
     ·intro r z;exact h1 (List.cons.inj z).1
     ·intro h r z;exact h2 (List.cons.inj z).1
section
variable (ws:List (List Nat))(s:List Nat)
abbrev wd(v:Nat):List Nat:=ws.getD v []
def vv:Bool→Nat→Nat→List (Nat×List Nat)→List Tree→Bool×Nat×Nat
 | p,nd,dp,(d,vs)::st,y::ts=>vv (p&&vs.all fun v=>comes (wd ws v) y==s.contains v) (nd+needlings y) (max dp (d+depth y)) st ts
 | p,nd,dp,_,_=>(p,nd,dp)
def jS(o:Option (List Tree×List Int))(p:Bool)(nd dp:Nat)(st:List (Nat×List Nat)):Option (Bool×Nat×Nat):=match o with
 | some (ts,[])=>some (vv ws s p nd dp st ts)
 | _=>none
abbrev oY(h:Nat)(vs:List Nat):List Nat:=vs.filter fun v=>!(wd ws v).contains h
abbrev oZ(h:Nat)(vs:List Nat):List Nat:=vs.filter fun v=>(wd ws v).contains h
theorem tJ(h:Nat)(a b:Tree):∀ vs:List Nat,(vs.all fun v=>comes (wd ws v) (.node h a b)==s.contains v)=((oY ws h vs).all (fun v=>comes (wd ws v) a==s.contains v)&&(oZ ws h vs).all fun v=>comes (wd ws v) b==s.contains v)
 | []=>rfl
 | v::vs=>by
  rw [all_cons,tJ h a b vs];have e:comes (wd ws v) (.node h a b)=if (wd ws v).contains h=true then comes (wd ws v) b else comes (wd ws v) a:=rfl
  rw [e];unfold oY oZ;cases hc:(wd ws v).contains h with
  | true=>
   rw [if_pos rfl,filter_cons_of_neg (by rw [hc]; decide),filter_cons_of_pos (p:=fun v=>(wd ws v).contains h) hc,all_cons,Bool.and_left_comm]
  | false=>
   rw [if_neg (by decide),filter_cons_of_pos (by rw [hc]; decide),filter_cons_of_neg (p:=fun v=>(wd ws v).contains h) (by rw [hc]; decide),all_cons,Bool.and_assoc]
theorem Im{p:Bool}{nd dp d h:Nat}{vs:List Nat}{st:List (Nat×List Nat)}{a b:Tree}{ts:List Tree}:vv ws s p nd dp ((d,vs)::st) (.node h a b::ts)=vv ws s p (nd+1) dp ((d+1,oY ws h vs)::(d+1,oZ ws h vs)::st) (a::b::ts):=by
 rw [vv,vv,vv,tJ];have e1:needlings (.node h a b)=1+needlings a+needlings b:=rfl;have e2:depth (.node h a b)=1+max (depth a) (depth b):=rfl;rw [e1,e2,← Bool.and_assoc,show nd+(1+needlings a+needlings b)=nd+1+needlings a+needlings b by omega,show max dp (d+(1+max (depth a) (depth b)))=max (max dp (d+1+depth a)) (d+1+depth b) by rw [← Nat.add_assoc,← Nat.add_max_add_left,Nat.max_assoc]]
theorem OL{most:Nat}{p:Bool}{nd dp d:Nat}{vs:List Nat}{st:List (Nat×List Nat)}{k:Nat}{l:List Int} :
  jS ws s (a9 most (k+1) (0::l)) p nd dp ((d,vs)::st)=jS ws s (a9 most k l) (p&&vs.all fun v=>false==s.contains v) nd (max dp d) st:=by
 rw [b6,if_pos rfl];cases a9 most k l with
 | none=>rfl
 | some y=>
  obtain ⟨ts,r⟩:=y;cases r with
  | nil=>rfl
  | cons a r=>rfl
theorem LS{most:Nat}{p:Bool}{nd dp d:Nat}{vs:List Nat}{st:List (Nat×List Nat)}{k:Nat}{l:List Int} :
  jS ws s (a9 most (k+1) (1::l)) p nd dp ((d,vs)::st)=jS ws s (a9 most k l) (p&&vs.all fun v=>true==s.contains v) nd (max dp d) st:=by
 rw [b6,if_neg (by decide),if_pos rfl];cases a9 most k l with
 | none=>rfl
 | some y=>
  obtain ⟨ts,r⟩:=y;cases r with
  | nil=>rfl
  | cons a r=>rfl
theorem LU{most:Nat}{p:Bool}{nd dp d h:Nat}{vs:List Nat}{st:List (Nat×List Nat)}{l:List Int}(h1:1≤h)(h2:h≤most) :
  jS ws s (a9 most (st.length+1) (2::(h:Int)::l)) p nd dp ((d,vs)::st)=jS ws s (a9 most (st.length+2) l) p (nd+1) dp ((d+1,oY ws h vs)::(d+1,oZ ws h vs)::st):=by
 rw [b6,if_neg (by decide),if_neg (by decide),if_pos rfl];dsimp only;rw [if_neg (by omega)];cases hf:a9 most (st.length+2) l with
 | none=>rfl
 | some y=>
  obtain ⟨ts,r⟩:=y;obtain ⟨e,_⟩:=iZ most _ _ _ _ _ (le_refl _) hf
  match ts,e with
  | a::b::ts,_=>
   cases r with
   | nil=>
    show some (vv ws s p nd dp ((d,vs)::st) (.node (h:Int).toNat a b::ts))=some _;rw [toNat_natCast,Im]
   | cons a r=>rfl
theorem LV{most k:Nat}{p:Bool}{nd dp:Nat}{st:List (Nat×List Nat)}:jS ws s (a9 most (k+1) []) p nd dp st=none:=by
 rw [tH];rfl
theorem Io{most k:Nat}{p:Bool}{nd dp:Nat}{st:List (Nat×List Nat)}:jS ws s (a9 most (k+1) [2]) p nd dp st=none:=by
 rw [b6];rfl
theorem Ag{most k:Nat}{p:Bool}{nd dp:Nat}{st:List (Nat×List Nat)}{h:Int}{l:List Int}(hb:h<1∨(most:Int)<h):jS ws s (a9 most (k+1) (2::h::l)) p nd dp st=none:=by
 rw [b6,if_neg (by decide),if_neg (by decide),if_pos rfl];dsimp only;rw [if_pos hb];rfl
theorem Ip{most k:Nat}{p:Bool}{nd dp:Nat}{st:List (Nat×List Nat)}{x:Int}{l:List Int}(h0:x≠0)(h1:x≠1)(h2:x≠2):jS ws s (a9 most (k+1) (x::l)) p nd dp st=none:=by
 rw [b6,if_neg h0,if_neg h1,if_neg h2];rfl
theorem Iq{most:Nat}{p:Bool}{nd dp:Nat}{l:List Int}:jS ws s (a9 most 0 l) p nd dp []=if l.length=0 then some (p,nd,dp) else none:=by
 rw [a9.eq_def];cases l with
 | nil=>rfl
 | cons a r=>rfl
end
def lB(c:Vbenab.Code)(x:List Nat)(t:List Int):Option (Bool×Nat×Nat):=jS (codeWords c) x (a9 c.holes 1 t) true 0 0 [(0,List.range (codeWords c).length)]
theorem Ir(c:Vbenab.Code)(x:List Nat)(t:List Int)(st:State):(match treeIn c.holes (t.length+1) t with
  | some (y,[])=>(st,[if partsAll c x y=true then 1 else 0,(needlings y:Int),(depth y:Int)])
  | _=>(st,[-2]))=(st,match lB c x t with
  | some (p,nd,dp)=>[if p=true then 1 else 0,(nd:Int),(dp:Int)]
  | none=>[-2]):=by
 unfold lB;rw [jR c.holes t.length (t.length+1) 0 t (le_refl _) (lt_succ_self _)];cases treeIn c.holes (t.length+1) t with
 | none=>rfl
 | some y=>
  obtain ⟨y,r⟩:=y;cases r with
  | cons a r=>
   dsimp only;rw [a9.eq_def];rfl
  | nil=>
   dsimp only;rw [a9.eq_def];dsimp only;unfold jS;dsimp only;rw [vv,vv]
   ·dsimp only;rw [Bool.true_and,zero_add,zero_add,Nat.zero_max];rfl
   ·intros; simp_all
end NC
namespace NC
theorem Iu:((List.range 9).all fun n=>(subs n 1).all fun m=>marks (mask m) n==m&&decide (mask m<256))=true:=by decide +kernel
theorem EI{n:Nat}{m:List Nat}(h:aX n 1 m)(hn:n≤8):marks (mask m) n=m∧mask m<256:=by
 have a:=all_eq_true.mp (all_eq_true.mp Iu n (mem_range.mpr (by omega))) m (cN h (by omega));rw [and_eq_true,decide_eq_true_eq,beq_iff_eq] at a;exact a
theorem i3{m:List Nat}{hi:Nat}(h:aX hi 1 m)(hh:hi≤8):marks (mask m) hi=m:=(EI h hh).1
theorem tK{m m2:List Nat}{hi:Nat}(h:aX hi 1 m)(h2:aX hi 1 m2)(hh:hi≤8)(e:mask m=mask m2):m=m2:=by
 rw [← i3 h hh,e,i3 h2 hh]
theorem BY:((subs 8 1).all fun a=>(subs 8 1).all fun b=>inside a b==((mask b &&& mask a)==mask a))=true:=by decide +kernel
theorem wJ{a b:List Nat}{hi:Nat}(ha:aX hi 1 a)(hb:aX hi 1 b)(hh:hi≤8):inside a b=((mask b &&& mask a)==mask a):=by
 have h1:=all_eq_true.mp BY a (cN ha (by omega));exact beq_iff_eq.mp (all_eq_true.mp h1 b (cN hb (by omega)))
def Iv:Nat→Nat→List Nat→Bool
 | _,_,[]=>true
 | hi,lo,x::r=>decide (lo≤x)&&(decide (x≤hi)&&Iv hi (x+1) r)
theorem yk{hi:Nat}:∀ {m:List Nat} {lo:Nat},Iv hi lo m=true↔aX hi lo m
 | [],_=>⟨fun _=>True.intro,fun _=>rfl⟩
 | x::r,lo=>by
  rw [Iv,and_eq_true,and_eq_true,decide_eq_true_eq,decide_eq_true_eq,yk (m:=r)];rfl
abbrev si(h:Nat)(m:List Nat):List Nat:=sortBy (fun a b=>decide (a<b)) (h::m)
theorem Iw:((List.range 9).all fun n=>(subs n 1).all fun m=>(range' 1 n).all fun h=>m.contains h==(mask m ||| bit h==mask m)&&((mask m &&& bit h != 0)==m.contains h&&(m.contains h || (mask (si h m)==mask m ||| bit h&&Iv n 1 (si h m)))))=true:=by decide +kernel
theorem EJ{n h:Nat}{m:List Nat}(hr:aX n 1 m)(hn:n≤8)(h1:1≤h)(h2:h≤n):m.contains h=(mask m ||| bit h==mask m)∧(mask m &&& bit h != 0)=m.contains h∧(m.contains h=false→mask (si h m)=mask m ||| bit h∧aX n 1 (si h m)):=by
 have a:=all_eq_true.mp (all_eq_true.mp (all_eq_true.mp Iw n (mem_range.mpr (by omega))) m (cN hr (by omega))) h (mem_range'_1.mpr ⟨h1,by omega⟩);rw [and_eq_true,and_eq_true,beq_iff_eq,beq_iff_eq,or_eq_true,and_eq_true,beq_iff_eq] at a;refine ⟨a.1,a.2.1,fun hc=>?_⟩;rcases a.2.2 with z | z
 ·rw [hc] at z;cases z
 ·exact ⟨z.1,yk.mp z.2⟩
def dY:Nat→Nat→Nat
 | 0,_=>0
 | f+1,n=>n % 2+dY f (n / 2)
def sumTo(f:Nat→Nat):Nat→Nat
 | 0=>0
 | n+1=>sumTo f n+f n
theorem Iy:∀ (f n:Nat),dY f n=sumTo (fun j=>(n.testBit j).toNat) f:=by
 have step:∀ (f:Nat) (g:Nat→Nat),sumTo g (f+1)=g 0+sumTo (fun j=>g (j+1)) f:=by
  intro f
  induction f with
  | zero=>intro g; show 0+g 0=g 0+0; omega
  | succ f ih=>
   intro g;show sumTo g (f+1)+g (f+1)=_;rw [ih];show _=g 0+(sumTo (fun j=>g (j+1)) f+g (f+1));omega
 intro f
 induction f with
 | zero=>intro n; rfl
 | succ f ih=>
  intro n;rw [dY,step,ih];congr 1
  ·rw [Nat.testBit_zero];have:=Nat.mod_two_eq_zero_or_one n;rcases this with e | e <;> rw [e] <;> rfl
  ·refine congrArg (fun g=>sumTo g f) (funext fun j=>?_);rw [Nat.testBit_succ]
theorem LW:((subs 8 1).all fun m=>(List.range 8).all fun j=>(mask m).testBit j==m.contains (j+1))=true:=by decide +kernel
theorem bits_is{a:List Nat}{hi:Nat}(ha:aX hi 1 a)(hh:hi≤8){j:Nat}(hj:j<8):(mask a).testBit j=a.contains (j+1):=
 beq_iff_eq.mp (all_eq_true.mp (all_eq_true.mp LW a (cN ha (by omega))) j (mem_range.mpr hj))
theorem wK(f g:Nat→Nat):∀ n,sumTo f n+sumTo g n=sumTo (fun j=>f j+g j) n
 | 0=>rfl
 | n+1=>by
  rw [sumTo,sumTo,sumTo,← wK f g n];omega
theorem qS{f g:Nat→Nat}:∀ {n},(∀ j,j<n→f j=g j)→sumTo f n=sumTo g n
 | 0,_=>rfl
 | n+1,h=>by
  rw [sumTo,sumTo,qS fun j hj=>h j (by omega),h n (by omega)]
theorem mz(p:Nat→Bool):∀ n,((range' 1 n).filter p).length=sumTo (fun j=>(p (j+1)).toNat) n
 | 0=>rfl
 | n+1=>by
  rw [range'_concat,filter_append,length_append,mz p n,sumTo];congr 1;rw [show 1+1*n=n+1 by omega];cases h:p (n+1) with
  | true=>rw [filter_cons_of_pos h]; rfl
  | false=>rw [filter_cons_of_neg (by rw [h]; decide)]; rfl
theorem Ah:((subs 8 1).all fun m=>(range' 1 8).filter (fun h=>m.contains h)==m)=true:=by decide +kernel
theorem Iz{a b:List Nat}{hi:Nat}(ha:aX hi 1 a)(hb:aX hi 1 b)(hh:hi≤8):apart a b=dY 8 (mask a ^^^ mask b):=by
 have sa:=beq_iff_eq.mp (all_eq_true.mp Ah a (cN ha (by omega)));have sb:=beq_iff_eq.mp (all_eq_true.mp Ah b (cN hb (by omega)));have fa:(a.filter fun h=>!b.contains h).length=sumTo (fun j=>(a.contains (j+1) && !b.contains (j+1)).toNat) 8:=by
  rw [← mz (fun h=>a.contains h && !b.contains h) 8]
  conv=>lhs; rw [← sa]
  rw [List.filter_filter];refine congrArg length (filter_congr fun h _=>?_);rw [Bool.and_comm]
 have fb:(b.filter fun h=>!a.contains h).length=sumTo (fun j=>(b.contains (j+1) && !a.contains (j+1)).toNat) 8:=by
  rw [← mz (fun h=>b.contains h && !a.contains h) 8]
  conv=>lhs; rw [← sb]
  rw [List.filter_filter];refine congrArg length (filter_congr fun h _=>?_);rw [Bool.and_comm]
 unfold Vbenab.apart;rw [fa,fb,wK,Iy];refine qS fun j hj=>?_;rw [Nat.testBit_xor,bits_is ha hh hj,bits_is hb hh hj];cases a.contains (j+1) <;> cases b.contains (j+1) <;> rfl
def bg(hi:Int):Int→List Int→Bool
 | _,[]=>true
 | lo,x::r=>if x<lo∨hi<x then false else bg hi (x+1) r
theorem qT(x y:Int)(r:List Int):isRising (x::y::r)=(decide (x<y)&&isRising (y::r)):=rfl
theorem eS{hi:Int}:∀ {l:List Int} {lo:Int},bg hi lo l=true↔((l.all fun x=>isBetween x lo hi)=true∧isRising l=true)
 | [],_=>⟨fun _=>⟨rfl,rfl⟩,fun _=>rfl⟩
 | x::r,lo=>by
  rw [bg,all_cons];unfold VbenCore.isBetween;by_cases h:x<lo∨hi<x
  ·rw [if_pos h];constructor
   ·intro z;cases z
   ·rintro ⟨z,_⟩;rw [and_eq_true,and_eq_true,decide_eq_true_eq,decide_eq_true_eq] at z;omega
  ·rw [if_neg h,eS (l:=r)];have hx:decide (lo≤x)=true∧decide (x≤hi)=true:=⟨decide_eq_true (by omega),decide_eq_true (by omega)⟩;rw [hx.1,hx.2,Bool.true_and,Bool.true_and];cases r with
   | nil=>exact ⟨fun _=>⟨rfl,rfl⟩,fun _=>⟨rfl,rfl⟩⟩
   | cons y r=>
    rw [qT,and_eq_true,decide_eq_true_eq];unfold VbenCore.isBetween;constructor
    ·rintro ⟨a,b⟩;rw [all_cons,and_eq_true,and_eq_true,decide_eq_true_eq,decide_eq_true_eq] at a;refine ⟨?_,by omega,b⟩;rw [all_cons,and_eq_true,and_eq_true,decide_eq_true_eq,decide_eq_true_eq];refine ⟨by omega,all_eq_true.mpr fun z hz=>?_⟩;have:=all_eq_true.mp a.2 z hz;rw [and_eq_true,decide_eq_true_eq,decide_eq_true_eq] at this ⊢;omega
    ·rintro ⟨a,b,c⟩;refine ⟨?_,c⟩;have key:∀ (r:List Int) (y:Int),x<y→isRising (y::r)=true→∀ z∈y::r,x<z:=by
      intro r
      induction r with
      | nil=>
       intro y hy _ z hz;rw [mem_singleton.mp hz];exact hy
      | cons w r ih=>
       intro y hy hr z hz;rw [qT,and_eq_true,decide_eq_true_eq] at hr;rcases mem_cons.mp hz with e | e
       ·rw [e]; exact hy
       ·exact ih w (by omega) hr.2 z e
     refine all_eq_true.mpr fun z hz=>?_;have h1:=all_eq_true.mp a z hz;have h2:=key r y b c z hz;rw [and_eq_true,decide_eq_true_eq,decide_eq_true_eq] at h1 ⊢;omega
theorem tL(c:State)(h:List Int)(f:List Nat→State×Answer):onHoles c h f=if bg (c.holes:Int) 1 h=true then f (h.map toNat) else (c,[-4]):=by
 unfold Vbenab.onHoles;by_cases hh:bg (c.holes:Int) 1 h=true
 ·rw [if_pos hh,if_pos (eS.mp hh)]
 ·rw [if_neg hh,if_neg (fun z=>hh (eS.mpr z))]
theorem dj(c:State)(h:List Int)(f:List Nat→State×Answer):onValues c h f=if bg ((count c:Int)-1) 0 h=true then f (h.map toNat) else (c,[-4]):=by
 unfold Vbenab.onValues;by_cases hh:bg ((count c:Int)-1) 0 h=true
 ·rw [if_pos hh,if_pos (eS.mp hh)]
 ·rw [if_neg hh,if_neg (fun z=>hh (eS.mpr z))]
theorem qk{hi:Nat}:∀ {l:List Int} {lo:Nat},bg (hi:Int) (lo:Int) l=true→aX hi lo (l.map toNat)∧∀ x∈l,(lo:Int)≤x∧x≤(hi:Int)
 | [],_,_=>⟨True.intro,fun _ h=>by cases h⟩
 | x::r,lo,h=>by
  rw [bg] at h;by_cases hx:x<(lo:Int)∨(hi:Int)<x
  ·rw [if_pos hx] at h;cases h
  ·rw [if_neg hx] at h;have e:x+1=((x.toNat+1:Nat):Int):=by omega
   rw [e] at h;obtain ⟨a,b⟩:=qk (l:=r) h;refine ⟨⟨by omega,by omega,a⟩,fun y hy=>?_⟩;rcases mem_cons.mp hy with q | q
   ·subst q;omega
   ·have:=b y q;omega
def jT(h:Nat):Nat→Nat
 | 0=>1
 | k+1=>jT h k*(h-k) / (k+1)
theorem IA:((List.range 61).all fun n=>jT n (n / 2)==Vbenab.most n&&(List.range 31).all fun k=>decide (jT n k<2 ^ 60))=true:=by decide +kernel
theorem LY{n:Nat}(h:n≤60):jT n (n / 2)=Vbenab.most n∧∀ k,k≤n / 2→jT n k<2 ^ 60:=by
 have a:=all_eq_true.mp IA n (mem_range.mpr (by omega));rw [and_eq_true,beq_iff_eq] at a;exact ⟨a.1,fun k hk=>of_decide_eq_true (all_eq_true.mp a.2 k (mem_range.mpr (by omega)))⟩
def o7(ns:List Nat)(x:Nat):Option Nat:=if ns.contains x=true then some (ns.idxOf x) else none
theorem wL(y x:Nat)(ns:List Nat):o7 (y::ns) x=if y=x then some 0 else (o7 ns x).map (· + 1):=by
 unfold o7;rw [contains_cons,List.idxOf_cons];by_cases h:y=x
 ·subst h;rw [if_pos rfl,beq_self_eq_true,Bool.true_or,if_pos rfl];rfl
 ·rw [if_neg h,show (x==y)=false by rw [beq_eq_false_iff_ne]; exact fun z=>h z.symm,Bool.false_or,show (y==x)=false by rw [beq_eq_false_iff_ne]; exact h];by_cases h2:ns.contains x=true
  ·rw [if_pos h2,if_pos h2];rfl
  ·rw [if_neg h2,if_neg h2];rfl
theorem tM{n:Nat}(hn:n≤8){m:List Nat}(hm:aX n 1 m):∀ {ws:List (List Nat)},(∀ x∈ws,aX n 1 x)→(if ws.contains m=true then some (ws.idxOf m) else none)=o7 (ws.map mask) (mask m)
 | [],_=>rfl
 | y::ws,h=>by
  have ih:=tM hn hm (ws:=ws) fun x hx=>h x (mem_cons_of_mem _ hx);rw [map_cons,wL,← ih,contains_cons,List.idxOf_cons];by_cases e:y=m
  ·subst e;rw [if_pos rfl,beq_self_eq_true,Bool.true_or,if_pos rfl];rfl
  ·have e2:¬ mask y=mask m:=fun z=>e (tK (h y mem_cons_self) hm hn z);rw [if_neg e2,show (m==y)=false by rw [beq_eq_false_iff_ne]; exact fun z=>e z.symm,Bool.false_or,show (y==m)=false by rw [beq_eq_false_iff_ne]; exact e];by_cases h2:ws.contains m=true
   ·rw [if_pos h2,if_pos h2];rfl
   ·rw [if_neg h2,if_neg h2];rfl
theorem tN{c:Vbenab.Code}(g:GoodW c.holes (codeWords c)){m:List Nat}(hm:aX c.holes 1 m):valueOf c m=o7 ((codeWords c).map mask) (mask m):=tM g.hn hm g.ri
theorem BZ{c:Vbenab.Code}{v:Nat}(h:v<(codeWords c).length):wordAt c v∈codeWords c:=by
 unfold Vbenab.wordAt;rw [getD_eq_getElem?_getD,getElem?_eq_getElem h];exact getElem_mem h
theorem dc{c:Vbenab.Code}(g:GoodW c.holes (codeWords c)){v:Nat}(h:v<(codeWords c).length):aX c.holes 1 (wordAt c v):=g.ri _ (BZ h)
abbrev nt(ns:List Nat)(v:Nat):Nat:=ns.getD v 0
theorem lC{c:Vbenab.Code}{v:Nat}(h:v<(codeWords c).length):nt ((codeWords c).map mask) v=mask (wordAt c v):=by
 unfold nt Vbenab.wordAt;rw [getD_eq_getElem?_getD,getD_eq_getElem?_getD,getElem?_map,getElem?_eq_getElem h];rfl
theorem FZ{c:Vbenab.Code}(g:GoodW c.holes (codeWords c)){hs:List Nat}(hh:aX c.holes 1 hs):fallen c hs=(List.range ((codeWords c).map mask).length).filter fun v=>(nt ((codeWords c).map mask) v &&& mask hs)==mask hs:=by
 unfold Vbenab.fallen;rw [length_map];refine filter_congr fun v hv=>?_;have hv:=mem_range.mp hv;rw [lC hv,wJ hh (dc g hv) g.hn]
def mB(ns:List Nat)(v:Nat):Option (Nat×Nat):=((List.range ns.length).find? fun w=>w != v&&((nt ns v &&& nt ns w)==nt ns v)).map fun w=>(v,w)
theorem jU{α β:Type}{f g : α→Option β}:∀ {l:List α},(∀ x∈l,f x=g x)→l.findSome? f=l.findSome? g
 | [],_=>rfl
 | a::l,h=>by
  rw [List.findSome?_cons,List.findSome?_cons,h a mem_cons_self,jU fun x hx=>h x (mem_cons_of_mem _ hx)]
theorem tO{α:Type}{f g : α→Bool}:∀ {l:List α},(∀ x∈l,f x=g x)→l.find? f=l.find? g
 | [],_=>rfl
 | a::l,h=>by
  rw [find?_cons,find?_cons,h a mem_cons_self,tO fun x hx=>h x (mem_cons_of_mem _ hx)]
theorem F0{c:Vbenab.Code}(g:GoodW c.holes (codeWords c)):nested c=(List.range ((codeWords c).map mask).length).findSome? (mB ((codeWords c).map mask)):=by
 unfold Vbenab.nested;rw [length_map];refine jU fun v hv=>?_;have hv:=mem_range.mp hv;unfold mB;rw [length_map];refine congrArg (Option.map fun w=>(v,w)) (tO fun w hw=>?_);have hw:=mem_range.mp hw;rw [lC hv,lC hw,wJ (dc g hv) (dc g hw) g.hn,Nat.and_comm]
def wM(ns:List Nat)(o:Option (Nat×Nat×Nat))(v w:Nat):Option (Nat×Nat×Nat):=match o with
 | none=>some (dY 8 (nt ns v ^^^ nt ns w),v,w)
 | some y=>if dY 8 (nt ns v ^^^ nt ns w)<y.1 then some (dY 8 (nt ns v ^^^ nt ns w),v,w) else some y
def gx(ns:List Nat)(o:Option (Nat×Nat×Nat))(v:Nat):Option (Nat×Nat×Nat):=(range' (v+1) (ns.length-(v+1))).foldl (fun o w=>wM ns o v w) o
theorem filter_lt(w:Nat):∀ n,((List.range n).filter fun v=>decide (w<v))=range' (w+1) (n-(w+1))
 | 0=>by
  rw [Nat.zero_sub];rfl
 | n+1=>by
  rw [range_succ,filter_append,filter_lt w n];by_cases h:w<n
  ·rw [filter_cons_of_pos (p:=fun v=>decide (w<v)) (decide_eq_true h),show n+1-(w+1)=(n-(w+1))+1 by omega,range'_concat,show w+1+1*(n-(w+1))=n by omega];rfl
  ·rw [filter_cons_of_neg (by rw [decide_eq_false h]; decide),show n-(w+1)=0 by omega,show n+1-(w+1)=0 by omega];rfl
theorem tP{α β γ:Type}(f : γ→β→γ)(h : α→List β):∀ (l:List α) (o : γ),(l.flatMap h).foldl f o=l.foldl (fun o a=>(h a).foldl f o) o
 | [],o=>rfl
 | a::l,o=>by rw [flatMap_cons,foldl_append,tP f h l,foldl_cons]
theorem foldl_congr{α γ:Type}{f g : γ→α→γ}:∀ {l:List α} {o : γ},(∀ x∈l,∀ o,f o x=g o x)→l.foldl f o=l.foldl g o
 | [],_,_=>rfl
 | a::l,o,h=>by rw [foldl_cons,foldl_cons,h a mem_cons_self,foldl_congr fun x hx=>h x (mem_cons_of_mem _ hx)]
theorem B1{c:Vbenab.Code}(g:GoodW c.holes (codeWords c)):nearest c=(List.range ((codeWords c).map mask).length).foldl (gx ((codeWords c).map mask)) none:=by
 unfold Vbenab.nearest Vbenab.pairs;rw [tP,length_map];refine foldl_congr fun v hv o=>?_;have hv:=mem_range.mp hv;rw [List.foldl_map,filter_lt];unfold gx;rw [length_map];refine foldl_congr fun w hw o=>?_;have hw:v+1≤w∧w<v+1+((codeWords c).length-(v+1)):=mem_range'_1.mp hw;have hw2:w<(codeWords c).length:=by omega
 unfold wM;rw [lC hv,lC hw2,← Iz (dc g hv) (dc g hw2) g.hn];cases o with
 | none=>rfl
 | some y=>rfl
def iL(ns:List Nat)(v h:Nat):Option (Nat×Nat×Nat):=if (nt ns v ||| bit h)=nt ns v then none else (o7 ns (nt ns v ||| bit h)).map fun w=>(v,h,w)
def bZ(H:Nat)(ns:List Nat)(v:Nat):List (Nat×Nat×Nat):=(range' 1 H).filterMap (iL ns v)
theorem filterMap_congr{α β:Type}{f g : α→Option β}:∀ {l:List α},(∀ x∈l,f x=g x)→l.filterMap f=l.filterMap g
 | [],_=>rfl
 | a::l,h=>by
  rw [filterMap_cons,filterMap_cons,h a mem_cons_self,filterMap_congr fun x hx=>h x (mem_cons_of_mem _ hx)]
theorem lZ{α β:Type}{f g : α→List β}:∀ {l:List α},(∀ x∈l,f x=g x)→l.flatMap f=l.flatMap g
 | [],_=>rfl
 | a::l,h=>by
  rw [flatMap_cons,flatMap_cons,h a mem_cons_self,lZ fun x hx=>h x (mem_cons_of_mem _ hx)]
theorem IB(H:Nat):(List.range H).map (fun h=>h+1)=range' 1 H:=by
 induction H with
 | zero=>rfl
 | succ n ih=>rw [range_succ,map_append,ih,range'_concat,show 1+1*n=n+1 by omega]; rfl
theorem IC{c:Vbenab.Code}(g:GoodW c.holes (codeWords c)):slips c=(List.range ((codeWords c).map mask).length).flatMap (bZ c.holes ((codeWords c).map mask)):=by
 unfold Vbenab.slips;rw [length_map];refine lZ fun v hv=>?_;have hv:=mem_range.mp hv;rw [IB];unfold bZ;refine filterMap_congr fun h hh=>?_;have hh:=mem_range'_1.mp hh;have hr:=dc g hv;obtain ⟨m1,m2,m3⟩:=EJ (h:=h) hr g.hn hh.1 (by omega);unfold iL;rw [lC hv];cases hc:(wordAt c v).contains h with
 | true=>
  rw [hc] at m1;rw [if_pos rfl,if_pos (beq_iff_eq.mp m1.symm)]
 | false=>
  rw [hc] at m1;obtain ⟨e1,e2⟩:=m3 hc;rw [if_neg (by decide),if_neg (beq_eq_false_iff_ne.mp m1.symm),tN g e2,e1]
structure GoodC(c:Vbenab.Code):Prop where
 h1:1≤c.holes
 gw:GoodW c.holes (codeWords c)
 c1:1≤(codeWords c).length
 c2:(codeWords c).length≤70
theorem bq{α β:Type}{a:Except Nat α}{f : α→Except Nat β}{y : β}(h:(a >>= f) = .ok y):∃ x,a = .ok x∧f x = .ok y:=by
 cases a with
 | error p=>cases h
 | ok x=>exact ⟨x,rfl,h⟩
theorem mH{e lo hi:Nat}{ws:List (Nat×List Nat)}{x:Nat×List (Nat×List Nat)}(h:num e lo hi ws = .ok x):lo≤x.1∧x.1≤hi:=by
 unfold Vbenab.num at h;split at h
 ·cases h
 ·split at h
  ·split at h
   ·rename_i z
    cases h;exact z
   ·cases h
  ·cases h
theorem Ai{e most:Nat}:∀ {f lo:Nat} {ws:List (Nat×List Nat)} {y:List Nat×List (Nat×List Nat)},marksIn e most f lo ws = .ok y→aX most lo y.1
 | 0,lo,ws,y,h=>by
  rw [marksIn] at h;cases h;exact True.intro
 | f+1,lo,ws,y,h=>by
  rw [marksIn] at h;split at h
  ·cases h
  ·rename_i x hx
   obtain ⟨a,b⟩:=mH hx;split at h
   ·cases h;exact ⟨a,b,True.intro⟩
   ·split at h
    ·cases h
    ·rename_i z hz
     have ih:=Ai hz;cases h;exact ⟨a,b,ih⟩
structure EK(most:Nat)(l:List (List Nat×List Nat)):Prop where
 ri:∀ x∈l,aX most 1 x.2
 nd:(l.map (·.2)).Nodup
theorem B2{most e:Nat}{l:List (List Nat×List Nat)}{ws:List (Nat×List Nat)}{x:(List Nat×List Nat)×List (Nat×List Nat)}(g:EK most l)(h:valueIn most e l ws = .ok x):EK most (l++[x.1]):=by
 unfold Vbenab.valueIn at h;obtain ⟨n,h1,h⟩:=bq h;split at h
 ·cases h
 ·obtain ⟨m,h2,h⟩:=bq h;split at h
  ·cases h
  ·rename_i hn
   have hr:=Ai h2;cases h;refine ⟨fun y hy=>?_,?_⟩
   ·rcases mem_append.mp hy with z | z
    ·exact g.ri y z
    ·rw [mem_singleton.mp z];exact hr
   ·rw [map_append,List.nodup_append];refine ⟨g.nd,(by simp),fun a ha b hb=>?_⟩;rw [show List.map (fun x:List Nat×List Nat=>x.2) [(n.1,m.1)]=[m.1] from rfl] at hb;rw [mem_singleton.mp hb];rintro rfl;obtain ⟨y,hy,ey⟩:=mem_map.mp ha;exact hn (any_eq_true.mpr ⟨y,hy,beq_iff_eq.mpr ey⟩)
theorem wN{most e:Nat}:∀ {g:Nat} {l l2:List (List Nat×List Nat)} {ws:List (Nat×List Nat)},EK most l→valuesIn most e g l ws = .ok l2→EK most l2∧l2.length≤l.length+g∧(1≤g∨l≠[]→1≤l2.length)
 | 0,l,l2,ws,gl,h=>by
  unfold Vbenab.valuesIn at h;split at h
  ·cases h;refine ⟨gl,le_refl _,fun z=>?_⟩;rcases z with z | z
   ·omega
   ·exact List.length_pos_iff.mpr z
  ·cases h
 | g+1,l,l2,ws,gl,h=>by
  rw [valuesIn] at h;split at h
  ·rename_i hc
   cases h;refine ⟨gl,by omega,fun _=>?_⟩;cases l with
   | nil=>cases hc.1
   | cons a r=>exact Nat.succ_le_succ (zero_le _)
  ·obtain ⟨w1,a1,h⟩:=bq h;obtain ⟨w2,a2,h⟩:=bq h;obtain ⟨x,a3,h⟩:=bq h;obtain ⟨b1,b2,b3⟩:=wN (B2 gl a3) h;rw [length_append] at b2;refine ⟨b1,by have:[x.1].length=1:=rfl; omega,fun _=>b3 (.inr (by simp))⟩
theorem iM:∀ (l:List Nat) (h n:Nat),1≤h→aX (h+l.length-1) h (taken l h n).1
 | [],h,n,_=>True.intro
 | w::l,h,n,hh=>by
  rw [taken];have e:h+(w::l).length-1=h+1+l.length-1:=by rw [length_cons]; omega
  rw [e];split
  ·exact ⟨le_refl _,by omega,iM l (h+1) (n-w) (by omega)⟩
  ·exact (iM l (h+1) n (by omega)).low (by omega)
def wsum(l:List Nat)(h:Nat)(m:List Nat):Nat:=(m.map fun j=>l.getD (j-h) 0).sum
theorem wO{w:Nat}{l:List Nat}{h hi:Nat}{m:List Nat}(r:aX hi (h+1) m):wsum (w::l) h m=wsum l (h+1) m:=by
 unfold wsum;refine congrArg List.sum (map_congr_left fun j hj=>?_);have:=r.mem hj;rw [show j-h=(j-(h+1))+1 by omega,List.getD_cons_succ]
theorem lD:∀ (l:List Nat) (h n:Nat),1≤h→n=wsum l h (taken l h n).1+(taken l h n).2
 | [],h,n,_=>by
  show n=0+n;omega
 | w::l,h,n,hh=>by
  rw [taken];split
  ·rename_i hw
   have ih:=lD l (h+1) (n-w) (by omega);have r:=iM l (h+1) (n-w) (by omega);show n=wsum (w::l) h (h::(taken l (h+1) (n-w)).1)+(taken l (h+1) (n-w)).2;have e:wsum (w::l) h (h::(taken l (h+1) (n-w)).1)=w+wsum (w::l) h (taken l (h+1) (n-w)).1:=by
    unfold wsum;rw [map_cons,sum_cons,sub_self];rfl
   rw [e,wO r];omega
  ·have ih:=lD l (h+1) n (by omega);have r:=iM l (h+1) n (by omega);rw [wO r];exact ih
theorem ql{α β:Type}{f : α→β}:∀ {l:List α},l.Nodup→(∀ x∈l,∀ y∈l,f x=f y→x=y)→(l.map f).Nodup
 | [],_,_=>List.nodup_nil
 | a::l,h,hf=>by
  rw [nodup_cons] at h;rw [map_cons,nodup_cons];refine ⟨fun z=>?_,ql h.2 fun x hx y hy=>hf x (mem_cons_of_mem _ hx) y (mem_cons_of_mem _ hy)⟩;obtain ⟨y,hy,ey⟩:=mem_map.mp z;have:=hf y (mem_cons_of_mem _ hy) a mem_cons_self ey;subst this;exact h.1 hy
theorem yl{n top:Nat}{ws:List Nat}(hn:n≤8)(hl:ws.length=n)(hw:weighs top ws=true):GoodW n ((List.range (top+1)).map fun n=>(taken ws 1 n).1):=by
 refine ⟨hn,fun m hm=>?_,ql List.nodup_range fun x hx y hy e=>?_⟩
 ·obtain ⟨x,_,e⟩:=mem_map.mp hm;have:=iM ws 1 x (le_refl _);rw [hl,show 1+n-1=n by omega] at this;rw [← e];exact this
 ·unfold Vbenab.weighs at hw;have a:=beq_iff_eq.mp (all_eq_true.mp hw x hx);have b:=beq_iff_eq.mp (all_eq_true.mp hw y hy);have c:=lD ws 1 x (le_refl _);have d:=lD ws 1 y (le_refl _);rw [a] at c;rw [b,← e] at d;omega
theorem qU{e:Nat}:∀ {f most:Nat} {ws:List (Nat×List Nat)} {y:List Nat×List (Nat×List Nat)},weightsIn e f most ws = .ok y→y.1.length=f
 | 0,most,ws,y,h=>by
  rw [weightsIn] at h;cases h;rfl
 | f+1,most,ws,y,h=>by
  rw [weightsIn] at h;split at h
  ·cases h
  ·split at h
   ·cases h
   ·rename_i z hz
    have ih:=qU hz;cases h;rw [length_cons,ih]
theorem tQ:((range' 1 8).all fun h=>(range' 1 h).all fun k=>(chosen h 1 k).all (Iv h 1)&&(decide (chosen h 1 k).Nodup&&(decide (1≤(chosen h 1 k).length)&&decide ((chosen h 1 k).length≤70))))=true:=by decide +kernel
theorem sj{e:Nat}{c d:Vbenab.Code}{ws:List (Nat×List Nat)}(h:over e c ws = .ok d):ws=[]∧d=c:=by
 unfold Vbenab.over at h;split at h
 ·cases h;exact ⟨rfl,rfl⟩
 ·cases h
theorem qm{t:List Nat}{c:Vbenab.Code}(h:readCode t = .ok c):GoodC c:=by
 unfold Vbenab.readCode at h;obtain ⟨w1,a1,h⟩:=bq h;obtain ⟨nm,a2,h⟩:=bq h;obtain ⟨w2,a3,h⟩:=bq h;obtain ⟨w3,a4,h⟩:=bq h;obtain ⟨hh,a5,h⟩:=bq h;obtain ⟨b1,b2⟩:=mH a5;have b2:hh.1≤8:=b2;split at h
 ·obtain ⟨l,a6,h⟩:=bq h;obtain ⟨w4,a7,h⟩:=bq h;obtain ⟨tp,a8,h⟩:=bq h;obtain ⟨d1,d2⟩:=mH a8;have d2:tp.1≤69:=d2;split at h
  ·cases h
  ·rename_i hw
   obtain ⟨_,rfl⟩:=sj h;have hw:weighs tp.1 l.1=true:=by
    cases z:weighs tp.1 l.1 with
    | true=>rfl
    | false=>exact absurd z hw
   refine ⟨b1,yl b2 (qU a6) hw,?_,?_⟩
   ·show 1≤((List.range (tp.1+1)).map _).length;rw [length_map,length_range];omega
   ·show ((List.range (tp.1+1)).map _).length≤70;rw [length_map,length_range];omega
 ·split at h
  ·obtain ⟨k,a6,h⟩:=bq h;obtain ⟨d1,d2⟩:=mH a6;obtain ⟨_,rfl⟩:=sj h;have a:=all_eq_true.mp (all_eq_true.mp tQ hh.1 (mem_range'_1.mpr ⟨b1,by omega⟩)) k.1 (mem_range'_1.mpr ⟨d1,by omega⟩);rw [and_eq_true,and_eq_true,and_eq_true,decide_eq_true_eq,decide_eq_true_eq,decide_eq_true_eq] at a;exact ⟨b1,⟨b2,fun m hm=>yk.mp (all_eq_true.mp a.1 m hm),a.2.1⟩,a.2.2.1,a.2.2.2⟩
  ·obtain ⟨l,a6,h⟩:=bq h;obtain ⟨g1,g2,g3⟩:=wN (l:=[]) ⟨fun _ z=>(by cases z),List.nodup_nil⟩ a6;cases h;refine ⟨b1,⟨b2,fun m hm=>?_,g1.nd⟩,?_,?_⟩
   ·obtain ⟨x,hx,e⟩:=mem_map.mp hm;rw [← e];exact g1.ri x hx
   ·show 1≤(l.map _).length;rw [length_map];exact g3 (.inl (by decide))
   ·show (l.map _).length≤70;rw [length_map];have:l.length≤0+70:=g2;omega
end NC
namespace NC
theorem aX.len{hi:Nat}:∀ {m:List Nat} {lo:Nat},aX hi lo m→m.length≤hi+1-lo
 | [],_,_=>zero_le _
 | x::r,lo,⟨a,b,c⟩=>by
  have:=aX.len c;rw [length_cons];omega
theorem ym{s:List Nat}:∀ {l:List (List Nat)} {x:List Nat},x∈l→x.length≤(between s l).length
 | [],x,h=>by cases h
 | [y],x,h=>by
  cases h with
  | head=>exact le_refl _
  | tail _ h=>cases h
 | y::z::t,x,h=>by
  have e:between s (y::z::t)=y++s++between s (z::t):=rfl;rw [e,length_append,length_append];cases h with
  | head=>omega
  | tail _ h=>
   have:=ym (s:=s) h;omega
theorem ID{c:Vbenab.Code}(g:GoodC c)(h:(codeText c).length≤100000){v:Nat}(hv:v<count c):(nameOf c v).length≤100000:=by
 have F4:((List.range 100).all fun v=>decide ((natText v).length≤12))=true:=by decide +kernel
 have hn:(natText v).length≤12:=by
  have:=g.c2;have hv:v<(codeWords c).length:=hv;exact of_decide_eq_true (all_eq_true.mp F4 v (mem_range.mpr (by omega)))
 obtain ⟨nm,ho,k⟩:=c;cases k with
 | table l=>
  refine le_trans ?_ h;cases hx:l[v]? with
  | none=>
   have e:nameOf { name:=nm,holes:=ho,kind:=.table l } v=((l[v]?).map fun x=>x.1).getD []:=rfl;rw [e,hx];exact zero_le _
  | some x=>
   have e:nameOf { name:=nm,holes:=ho,kind:=.table l } v=((l[v]?).map fun x=>x.1).getD []:=rfl;rw [e,hx];have hm:x∈l:=mem_of_getElem? hx;refine le_trans (ym (s:=[32]) (l:=Vbenab.W "value"::x.1::x.2.map natText) (x:=x.1) (mem_cons_of_mem _ (mem_cons_self ..))) ?_;exact ym (s:=[10]) (mem_append_right _ (mem_map.mpr ⟨x,hm,rfl⟩))
 | weights t ws=>exact le_trans hn (by decide)
 | choose k=>exact le_trans hn (by decide)
end NC
namespace NC
open PySem PySem.Spec PyProof.Rows L2 LX
theorem OM:bootBuiltins "ord"=some (.builtin "ord"):=by kernel_rfl
def top(i:Nat):Stmt:=PySem.Challenge.pw_notchcodes_s01_answers.main.body.getD i (.Pass ⟨0,0,0,0⟩)
abbrev jV:Stmt:=top 10
abbrev pj:Stmt:=top 11
abbrev pk:Stmt:=top 12
abbrev fe:Stmt:=top 13
abbrev lE:Stmt:=top 14
def GI(mg:Str→Option Value)(x:Str)(n:Int):Prop:=∃ t,mg x=some (.int n t)
theorem aY{X:Cx}{x:Str}{n:Int}{pos:Pos}(h:GI X.mg x n)(hg:Gl X x:=by rfl)(hd:(x==("__debug__":Str))=false:=by decide):PE X (.Name x pos) (tC (.int n)):=by
 obtain ⟨t,e⟩:=h;exact iS hg e ⟨t,rfl⟩ hd
theorem take_snoc{α:Type}:∀ {l:List α} {i:Nat} {x : α},l[i]? = some x→l.take (i+1)=l.take i++[x]
 | [],i,x,h=>by simp at h
 | a::l,0,x,h=>by
  have e:a=x:=by simpa using h
  rw [e];rfl
 | a::l,i+1,x,h=>by
  have ih:=take_snoc (l:=l) (i:=i) (x:=x) (by simpa using h);rw [List.take_succ_cons,ih];rfl
theorem ON{x:Str}{g:TG}{tt:TT}{te:TE}{vs:List Nat}{σ:L2.St}{H1:Hp}{D:Addr}{Qd:Hp→Prop}(Pv:Nat→Hp→Prop)(h0:Pv 0 (upd H1 D (.lst [])))
  (hs:∀ i c H,x.cps[i]? = some c→Pv i H→g (.str ⟨#[c]⟩) (wipe σ vs) H fun σ2 H2=>wipe σ2 vs=wipe σ vs∧tt σ2 H2 fun b H3=>
   if b=true then te σ2 H3 fun y H4=>∃ acc,H4 D=some (.lst acc)∧acc.length<sizeLine∧Pv (i+1) (upd H4 D (.lst (acc++[y]))) else Pv (i+1) H3) (hd:∀ H,Pv x.cps.size H→Qd H) :
  ∃ W:Nat→Nat→Hp→Prop,(∃ m,W 0 m (upd H1 D (.lst [])))∧∀ i m H,W i m H →
   ((Its x).stop i H∧Qd H)∨((Its x).go i H∧∃ Nx:Hp→Prop,(∀ H',Nx H'→∃ m',m'<m∧W (i+1) m' H')∧∀ y H',(Its x).yld i H y H'→g y (wipe σ vs) H' fun σ2 H2=>wipe σ2 vs=wipe σ vs∧tt σ2 H2 fun b H3=>
    if b=true then te σ2 H3 fun y H4=>∃ acc,H4 D=some (.lst acc)∧acc.length<sizeLine∧Nx (upd H4 D (.lst (acc++[y]))) else Nx H3):=by
 refine ⟨fun i m H=>m=x.cps.size-i∧i≤x.cps.size∧Pv i H,⟨_,rfl,zero_le _,h0⟩,?_⟩;rintro i m H ⟨rfl,hi,p⟩;by_cases hlt:i<x.cps.size
 ·refine .inr ⟨hlt,Pv (i+1),fun H' p'=>⟨x.cps.size-(i+1),by omega,rfl,hlt,p'⟩,fun v H' y=>?_⟩;obtain ⟨e,c,hc,ev⟩:=y;subst e ev;exact hs i c _ hc p
 ·have e:i=x.cps.size:=by omega
  subst e;exact .inl ⟨le_refl _,hd H p⟩
def codes(x:Str):List Int:=x.cps.toList.map fun (c:Nat)=>(c:Int)
section
variable {P:Program}{w:World}{K:PySem.W.Frag}{mg:Str→Option Value}{base:Heap}
def eU:Sp:=fun vs H Q _=>∃ x:Str,vs=[.str x]∧x.cps.size<sizeLine∧∀ p,H p=none→Q (.ref p) (upd H p (.lst ((codes x).map V.int)))
theorem qo:ax ["signs","sign"] ["signs"] (ao jV):=⟨rfl,rfl,rfl,by decide +kernel,rfl,by decide +kernel,by decide +kernel⟩
theorem qV{f:Addr}{fd:FuncData}(F:Fun K "bytes_of" "bytes_of" jV f fd)(hm:mg "ord"=none):aF P w K mg base CX0 1 f fd ["signs"] eU:=by
 refine F.ok qo (fun vs H Q E h=>?_) (fun cdv A outer s H vs Q E hr h=>?_)
 ·obtain ⟨x,rfl,_⟩:=h;rfl
 ·obtain ⟨x,rfl,hx,k⟩:=h;refine ⟨_,ai (ay (lW (own:=[("sign",1)]) rfl qo.nd (OA (pv 0)) (cy (by show lQ ["signs","sign"] (ao jV) _ _=true; decide +kernel)) (fun s H C cl fp=>aM (i:=1) qo.nd rfl (Or.inl rfl)) (fun s H C cl fp=>eM) (fun s H C cl fp=>aJ HK (by rfl) hm OM (aa (pv 1) ah)))),?_⟩;refine ⟨_,rfl,x,rfl,fun D hD=>ON (fun i H'=>H'=upd H D (.lst (((codes x).take i).map V.int))) rfl ?_ ?_⟩
  ·intro i c H' hc e;subst e;refine ⟨rfl,?_⟩;unfold vp;dsimp only;rw [if_pos rfl];have hi:i<(codes x).length:=by
    rw [codes,length_map,length_toList];exact (Array.getElem?_eq_some_iff.mp hc).1
   have hget:(codes x)[i]? = some (c:Int):=by
    rw [codes,getElem?_map,getElem?_toList,hc];rfl
   refine ⟨_,rfl,⟨#[c]⟩,rfl,rfl,_,ae,?_,?_⟩
   ·rw [length_map,length_take];rw [codes,length_map,length_toList];omega
   ·rw [bQ,take_snoc hget,map_append];rfl
  ·intro H' e;subst e;have e1:(codes x).take x.cps.size=codes x:=take_of_length_le (by rw [codes,length_map,length_toList]; exact le_refl _);rw [e1];exact k D hD
end
def but(l:Addr)(H:Hp):Hp:=fun b=>if b=l then none else H b
theorem cb{l:Addr}{H:Hp}{o:HO}:but l (upd H l o)=but l H:=by
 funext b;unfold but upd;by_cases h:b=l
 ·rw [if_pos h,if_pos h]
 ·rw [if_neg h,if_neg h,if_neg h]
theorem cC{l b:Addr}{H:Hp}{o:HO}(h:but l H b=some o):b≠l∧H b=some o:=by
 unfold but at h;by_cases e:b=l
 ·rw [if_pos e] at h;cases h
 ·rw [if_neg e] at h;exact ⟨e,h⟩
theorem aR{l b:Addr}{H:Hp}{o:HO}(e:b≠l)(h:H b=some o):but l H b=some o:=by
 unfold but;rw [if_neg e];exact h
theorem dv{l:Addr}{H:Hp}:aj (but l H) H:=fun _ _ h=>(cC h).2
theorem cD{l:Addr}{H H':Hp}(s:aj H H'):aj (but l H) (but l H'):=fun _ _ h=>aR (cC h).1 (s _ _ (cC h).2)
theorem aj.rfl{H:Hp}:aj H H:=fun _ _ h=>h
theorem aj.upd{H H':Hp}{p:Addr}{o:HO}(s:aj H H')(h:H p=none):aj H (L2.upd H' p o):=fun b u e=>by
 rw [aq (ak e h)];exact s b u e
theorem aj.new{H:Hp}{p:Addr}{o:HO}(h:H p=none):aj H (L2.upd H p o):=aj.upd aj.rfl h
theorem c6{K:PySem.W.Frag}{a:Addr}{xs:List V}{g:TG}{tb:TS}{D:Ends}{σ:L2.St}{H:Hp}(Pv:Nat→L2.St→Hp→Prop)(h0:Pv 0 σ H)(hl:∀ i σ H,i≤xs.length→Pv i σ H→SqL K H a xs)
  (hs:∀ i x σ H T,xs[i]? = some x→H T=none→Pv i σ H→g (.ref T) σ (upd H T (.tup [.int (i:Nat),x])) fun σ2 H2=>tb { D with nx:=Pv (i+1),ct:=Pv (i+1),bk:=D.nx } σ2 H2) (hd:∀ σ H,Pv xs.length σ H→D.nx σ H) :
  ∃ W:Nat→Nat→L2.St→Hp→Prop,(∃ m,W 0 m σ H)∧∀ i m σ H,W i m σ H →
   ((Ite K a).stop i H∧D.nx σ H)∨((Ite K a).go i H∧∃ N:L2.St→Hp→Prop,(∀ σ' H',N σ' H'→∃ m',m'<m∧W (i+1) m' σ' H')∧∀ x H',(Ite K a).yld i H x H'→g x σ H' fun σ2 H2=>tb { D with nx:=N,ct:=N,bk:=D.nx } σ2 H2):=by
 refine ⟨fun i m σ H=>m=xs.length-i∧i≤xs.length∧Pv i σ H,⟨_,_root_.rfl,zero_le _,h0⟩,?_⟩;rintro i m σ H ⟨rfl,hi,p⟩;have q:=hl i σ H hi p;by_cases hlt:i<xs.length
 ·refine .inr ⟨⟨xs,xs[i],q,getElem?_eq_getElem hlt⟩,Pv (i+1),fun σ' H' p'=>⟨xs.length-(i+1),by omega,_root_.rfl,hlt,p'⟩,fun v H' y=>?_⟩;obtain ⟨T,x,ev,hT,eH,y⟩:=y;subst ev eH;exact hs i x σ H T (y xs q) hT p
 ·have e:i=xs.length:=by omega
  subst e;exact .inl ⟨⟨xs,q,le_refl _⟩,hd σ H p⟩
abbrev zs(w:List Nat):List Int:=w.map fun (n:Nat)=>(n:Int)
abbrev vzs(w:List Nat):List V:=(zs w).map V.int
inductive aT(H:Hp):List Addr→List (Nat×List Nat)→Prop
 | nil:aT H [] []
 | cons {r q:Addr} {rs:List Addr} {p:Nat} {w:List Nat} {ws:List (Nat×List Nat)}:H r=some (.tup [.int (p:Int),.ref q])→H q=some (.lst (vzs w))→aT H rs ws→aT H (r::rs) ((p,w)::ws)
theorem aT.mono{H H':Hp}(s:aj H H'):∀ {rs:List Addr} {ws:List (Nat×List Nat)},aT H rs ws→aT H' rs ws
 | _,_,.nil=>.nil
 | _,_,.cons a b t=>.cons (s _ _ a) (s _ _ b) (aT.mono s t)
theorem aT.snoc{H:Hp}{r q:Addr}{p:Nat}{w:List Nat}(hr:H r=some (.tup [.int (p:Int),.ref q]))(hq:H q=some (.lst (vzs w))):∀ {rs:List Addr} {ws:List (Nat×List Nat)},aT H rs ws→aT H (rs++[r]) (ws++[(p,w)])
 | _,_,.nil=>.cons hr hq .nil
 | _,_,.cons a b t=>.cons a b (aT.snoc hr hq t)
theorem aT.len{H:Hp}:∀ {rs:List Addr} {ws:List (Nat×List Nat)},aT H rs ws→rs.length=ws.length
 | _,_,.nil=>rfl
 | _,_,.cons _ _ t=>by rw [length_cons,length_cons,aT.len t]
def glue(st:Nat)(pre:List Nat):List (Nat×List Nat)→List (Nat×List Nat)
 | []=>[(st,pre)]
 | (_,w)::l=>(st,pre++w)::l
theorem OO(p:Nat)(t:List Nat):∃ q w l,cut p t=(q,w)::l:=by
 cases t with
 | nil=>exact ⟨_,_,_,rfl⟩
 | cons c r=>
  unfold VbenCore.cut;by_cases h1:c=32
  ·rw [if_pos h1];exact ⟨_,_,_,rfl⟩
  ·rw [if_neg h1];by_cases h2:c=10
   ·rw [if_pos h2];exact ⟨_,_,_,rfl⟩
   ·rw [if_neg h2];cases cut (p+1) r with
    | nil=>exact ⟨_,_,_,rfl⟩
    | cons x l=>exact ⟨_,_,_,rfl⟩
theorem yn(p:Nat)(t:List Nat):glue p [] (cut p t)=cut p t:=by
 cases t with
 | nil=>rfl
 | cons c r=>
  unfold VbenCore.cut;by_cases h1:c=32
  ·rw [if_pos h1];rfl
  ·rw [if_neg h1];by_cases h2:c=10
   ·rw [if_pos h2];rfl
   ·rw [if_neg h2];cases cut (p+1) r with
    | nil=>rfl
    | cons x l=>rfl
theorem B3{st i c:Nat}{pre r:List Nat}(h1:¬ c=32)(h2:¬ c=10):glue st pre (cut i (c::r))=glue st (pre++[c]) (cut (i+1) r):=by
 obtain ⟨q,w,l,e⟩:=OO (i+1) r;rw [cut,if_neg h1,if_neg h2,e];show (st,pre++c::w)::l=(st,(pre++[c])++w)::l;rw [append_assoc];rfl
theorem B4{st i:Nat}{pre r:List Nat}:glue st pre (cut i (32::r))=(st,pre)::glue (i+1) [] (cut (i+1) r):=by
 rw [yn,cut,if_pos rfl];show (st,pre++[])::_=_;rw [append_nil]
theorem F5{st i:Nat}{pre r:List Nat}:glue st pre (cut i (10::r))=(st,pre)::(i,[10])::glue (i+1) [] (cut (i+1) r):=by
 rw [yn,cut,if_neg (by decide),if_pos rfl];show (st,pre++[])::_=_;rw [append_nil]
theorem cg{c A B:Prop}[Decidable c](h1:c→A)(h2:¬ c→B):if decide c=true then A else B:=by
 by_cases h:c
 ·rw [if_pos (decide_eq_true h)];exact h1 h
 ·rw [if_neg (by rw [decide_eq_false h]; exact Bool.false_ne_true)];exact h2 h
theorem de{t:List Nat}{i:Nat}{x:V}(h:(vzs t)[i]? = some x):∃ c:Nat,t[i]? = some c∧x = .int (c:Int):=by
 rw [getElem?_map,getElem?_map] at h;cases e:t[i]? with
 | none=>
  rw [e] at h;cases h
 | some c=>
  rw [e] at h;exact ⟨c,_root_.rfl,(Option.some.inj h).symm⟩
theorem b8{a b:Nat}(h:V.int (a:Int)=V.int (b:Int)):a=b:=by
 injection h with e;omega
theorem EL{t:List Nat}{i c:Nat}(h:t[i]? = some c):t.drop i=c::t.drop (i+1):=by
 obtain ⟨hl,e⟩:=List.getElem?_eq_some_iff.mp h;rw [drop_eq_getElem_cons hl,e]
theorem F6{t:List Nat}{st i c:Nat}(h:t[i]? = some c)(hs:st≤i):(t.drop st).take (i+1-st)=(t.drop st).take (i-st)++[c]:=by
 have e:i+1-st=i-st+1:=by omega
 rw [e];refine take_snoc ?_;rw [List.getElem?_drop,show st+(i-st)=i by omega];exact h
structure WB(H:Hp)(l:Addr)(rs:List Addr)(W:List (Nat×List Nat))(H':Hp):Prop where
 same:aj H H'
 lst:H' l=some (.lst (rs.map V.ref))
 ws:aT (but l H') rs W
theorem WB.put{H H':Hp}{l q r:Addr}{rs:List Addr}{W:List (Nat×List Nat)}{p:Nat}{w:List Nat}(b:WB H l rs W H')(hl:H l=none)(hq:H' q=none)(hr:upd H' q (.lst (vzs w)) r=none) :
  WB H l (rs++[r]) (W++[(p,w)]) (upd (upd (upd H' q (.lst (vzs w))) r (.tup [.int (p:Int),.ref q])) l (.lst (rs.map V.ref++[V.ref r]))):=by
 have hlq:l≠q:=ak b.lst hq;have s1:aj H' (upd H' q (.lst (vzs w))):=aj.new hq;have hlr:l≠r:=ak (s1 _ _ b.lst) hr;have s2:aj (upd H' q (.lst (vzs w))) (upd (upd H' q (.lst (vzs w))) r (.tup [.int (p:Int),.ref q])):=aj.new hr;have eq1:upd H' q (.lst (vzs w)) q=some (.lst (vzs w)):=ae;refine ⟨fun c o e=>?_,?_,?_⟩
 ·rw [aq (ak e hl)];exact s2 _ _ (s1 _ _ (b.same _ _ e))
 ·rw [ae,map_append];rfl
 ·rw [cb];refine aT.snoc (q:=q) (aR (Ne.symm hlr) ae) (aR (Ne.symm hlq) (s2 _ _ eq1)) (b.ws.mono (cD (s1.trans s2)))
theorem WB.lay{H H':Hp}{l q:Addr}{rs:List Addr}{W:List (Nat×List Nat)}{o:HO}(b:WB H l rs W H')(hq:H' q=none):WB H l rs W (upd H' q o):=
 ⟨b.same.trans (aj.new hq),by rw [aq (ak b.lst hq)]; exact b.lst,b.ws.mono (cD (aj.new hq))⟩
theorem WB.two{H H':Hp}{l q r:Addr}{rs:List Addr}{W:List (Nat×List Nat)}{o o':HO}(b:WB H l rs W H')(hq:H' q=none)(hr:upd H' q o r=none):upd (upd H' q o) r o' l=some (.lst (rs.map V.ref)):=
 ((b.lay hq).lay hr).lst
theorem WB.len{H H':Hp}{l:Addr}{rs:List Addr}{W:List (Nat×List Nat)}(b:WB H l rs W H'):(rs.map V.ref).length=W.length:=by
 rw [length_map];exact b.ws.len
theorem Nr{t:List Nat}{st i:Nat}(h1:st≤i)(h2:i≤t.length):rC (vzs t) (some (st:Int)) (some (i:Int))=vzs ((t.drop st).take (i-st)):=by
 unfold rC;rw [HT.lp,HT.lp,length_map,length_map,min_eq_left (le_trans h1 h2),min_eq_left h2,← map_drop,← map_drop,← map_take,← map_take]
theorem Rp{t:List Nat}{st:Nat}(h1:st≤t.length):rC (vzs t) (some (st:Int)) none=vzs (t.drop st):=by
 unfold rC;rw [HT.lp,HT.zE,length_map,length_map,min_eq_left h1,← map_drop,← map_drop];exact take_of_length_le (by rw [length_map,length_map,length_drop]; exact le_refl _)
section
variable {P:Program}{w:World}{K:PySem.W.Frag}{mg:Str→Option Value}{base:Heap}
structure TW(mg:Str→Option Value):Prop where
 en:mg "enumerate"=none
 ln:mg "len"=none
 al:mg "all"=none
 blank:GI mg "BLANK" 32
 line:GI mg "LINE_END" 10
 zero:GI mg "ZERO" 48
 nine:GI mg "NINE" 57
 fl:GI mg "FIRST_LETTER" 97
 ll:GI mg "LAST_LETTER" 122
 ml:GI mg "MOST_LETTERS" 12
 md:GI mg "MOST_DIGITS" 4
def wQ(K:PySem.W.Frag):Sp:=fun vs H Q _=>∃ (a:Addr) (t:List Nat),vs=[.ref a]∧SqL K H a (vzs t)∧t.length≤100000∧∀ (H':Hp) (l:Addr) (rs:List Addr),aj H H'→H l=none→H' l=some (.lst (rs.map V.ref))→aT H' rs (cut 0 t)→Q (.ref l) H'
theorem wR:ax ["text","words","start","place","byte"] ["text"] (ao pj):=⟨rfl,rfl,rfl,by decide +kernel,rfl,by decide +kernel,by decide +kernel⟩
theorem Aj{f:Addr}{fd:FuncData}(F:Fun K "words_of" "words_of" pj f fd)(T:TW mg):aF P w K mg base CX0 1 f fd ["text"] (wQ K):=by
 refine F.ok wR (fun vs H Q E h=>?_) (fun cdv A outer s H vs Q E hr h=>?_)
 ·obtain ⟨a,t,rfl,_⟩:=h;rfl
 ·obtain ⟨a,t,rfl,ha,ht,k⟩:=h;have nd:=wR.nd;refine ⟨_,ag (az (i:=1) nd rfl (Or.inl rfl) (aH ah)) (ag (az (i:=2) nd rfl (Or.inl rfl) au)
   (ag (cu PassesOwn.never rfl (dt (by rfl) T.en (aa (pv 0) ah)) (d7 rfl (ba (aM (i:=3) nd rfl (Or.inl rfl)) (ba (aM (i:=4) nd rfl (Or.inl rfl)) da)))
    (ag (a0 (PW.pt (jB (aK dH (pv 4) (aY T.blank) (aN _)) (hJ (aK dH (pv 4) (aY T.line) (aN _)))))
     (ag (aV (c5 plainAttrs_list PySem.F.slot_list_append PySem.F.type_list_append br (pv 1) (aa (p7 (aa (pv 2) (aa (oI rY (pv 0) (lq (pv 2)) (lq (pv 3))) ah))) ah)))
      (ai (az (i:=2) nd rfl (Or.inl rfl) (aU cz (pv 3) au)))) aO)
    (ai (a0 (aK dH (pv 4) (aY T.line) (aN _))
     (ai (aV (c5 plainAttrs_list PySem.F.slot_list_append PySem.F.type_list_append br (pv 1) (aa (p7 (aa (pv 3) (aa (aH (aa (aY T.line) ah)) ah))) ah)))) aO))))
   (ag (aV (c5 plainAttrs_list PySem.F.slot_list_append PySem.F.type_list_append br (pv 1) (aa (p7 (aa (pv 2) (aa (oI rY (pv 0) (lq (pv 2)) Er) ah))) ah)))
   (ai (ay (pv 1)))))),?_⟩
  refine ⟨zero_le _,fun l hl=>?_⟩;have B0:WB H l [] [] (upd H l (.lst [])):=⟨aj.new hl,ae,.nil⟩;refine ⟨_,rfl,a,_,rfl,B0.same.seq ha,c6 (K:=K) (a:=a) (xs:=vzs t) (fun i σ H'=>∃ (st:Nat) (rs:List Addr) (W:List (Nat×List Nat)) (v3 v4:Option V),σ=[some (.ref a),some (.ref l),some (.int (st:Int)),v3,v4]∧WB H l rs W H' ∧
   st≤i∧W.length≤2*i∧cut 0 t=W++glue st ((t.drop st).take (i-st)) (cut i (t.drop i))) ⟨0,[],[],none,none,rfl,B0,le_refl _,zero_le _,?_⟩ (fun i σ H' _ ⟨_,_,_,_,_,_,b,_⟩=>b.same.seq ha) ?_ ?_⟩
  ·show cut 0 t=[]++glue 0 [] (cut 0 t);rw [yn];rfl
  ·rintro i x σ H' Tp hi hTp ⟨st,rs,W,v3,v4,rfl,b,hst,hW,heq⟩;obtain ⟨c,hc,rfl⟩:=de hi;have hlt:i<t.length:=(List.getElem?_eq_some_iff.mp hc).1;have b1:=b.lay (o:=.tup [.int (i:Nat),.int (c:Int)]) hTp;rw [EL hc] at heq;have sl:∀ n,n≤2*i+2→n<sizeLine:=fun n hn=>by rw [sizeLine_eq]; omega
   refine ⟨Tp,_,_root_.rfl,SqT.of ae,_root_.rfl,_,_,_root_.rfl,_,_,_root_.rfl,_root_.rfl,?_⟩;refine ⟨_,_root_.rfl,_root_.rfl,_,_root_.rfl,cg (fun h32=>?_) fun h32=>⟨_,_root_.rfl,_root_.rfl,_,_root_.rfl,cg (fun h10=>?_) fun h10=>?_⟩⟩
   ·refine bz ?_;have e32:c=32:=b8 h32;subst e32;rw [B4] at heq;refine ⟨_,_root_.rfl,.inl ⟨_root_.rfl,_,SqL.of b1.lst⟩,_,_root_.rfl,_,_root_.rfl,_,_root_.rfl,_,_root_.rfl,_,_root_.rfl,_,_root_.rfl,a,_,_root_.rfl,b1.same.seq ha,fun q hq=>⟨by show 2≤sizeLine; decide,fun r hr=>?_⟩⟩;rw [Nr hst (le_of_lt hlt)] at hr ⊢;have b2:=b1.put (p:=st) hl hq hr;refine ⟨l,rs.map V.ref,_,_root_.rfl,_root_.rfl,b1.two hq hr,sl _ (by rw [b.len]; omega),_,_root_.rfl,_,_,_root_.rfl,_root_.rfl,_,_root_.rfl,_root_.rfl,_,_root_.rfl,?_⟩;refine cg (fun z=>absurd (b8 (a:=32) (b:=10) z) (by decide)) fun _=>?_;refine ⟨i+1,_,_,_,_,_root_.rfl,b2,le_refl _,?_,?_⟩
    ·rw [length_append];show W.length+1≤_;omega
    ·rw [heq,sub_self,take_zero,append_assoc];rfl
   ·have e10:c=10:=b8 h10;subst e10;rw [F5] at heq;refine ⟨_,_root_.rfl,.inl ⟨_root_.rfl,_,SqL.of b1.lst⟩,_,_root_.rfl,_,_root_.rfl,_,_root_.rfl,_,_root_.rfl,_,_root_.rfl,_,_root_.rfl,a,_,_root_.rfl,b1.same.seq ha,fun q hq=>⟨by show 2≤sizeLine; decide,fun r hr=>?_⟩⟩;rw [Nr hst (le_of_lt hlt)] at hr ⊢;have b2:=b1.put (p:=st) hl hq hr;refine ⟨l,rs.map V.ref,_,_root_.rfl,_root_.rfl,b1.two hq hr,sl _ (by rw [b.len]; omega),_,_root_.rfl,_,_,_root_.rfl,_root_.rfl,_,_root_.rfl,_root_.rfl,_,_root_.rfl,?_⟩;refine cg (fun _=>?_) fun z=>absurd _root_.rfl z;refine ⟨_,_root_.rfl,.inl ⟨_root_.rfl,_,SqL.of b2.lst⟩,_,_root_.rfl,by show 1≤sizeLine; decide,fun q2 hq2=>⟨by show 2≤sizeLine; decide,fun r2 hr2=>?_⟩⟩;have b3:=b2.put (p:=i) (w:=[10]) hl hq2 hr2;refine ⟨l,(rs++[r]).map V.ref,_,_root_.rfl,_root_.rfl,b2.two hq2 hr2,sl _ (by rw [b2.len,length_append]; show W.length+1≤_; omega),?_⟩;refine ⟨i+1,_,_,_,_,_root_.rfl,b3,le_refl _,?_,?_⟩
    ·rw [length_append,length_append];show W.length+1+1≤_;omega
    ·rw [heq,sub_self,take_zero,append_assoc,append_assoc];rfl
   ·have n32:¬ c=32:=fun z=>h32 (by rw [z]; rfl);have n10:¬ c=10:=fun z=>h10 (by rw [z]; rfl);rw [B3 n32 n10,← F6 hc hst] at heq;refine ⟨_,_root_.rfl,_root_.rfl,_,_root_.rfl,cg (fun z=>absurd z h10) fun _=>?_⟩;exact ⟨st,rs,W,_,_,_root_.rfl,b1,Nat.le_succ_of_le hst,by omega,heq⟩
  ·rintro σ H' ⟨st,rs,W,v3,v4,rfl,b,hst,hW,heq⟩;rw [length_map,length_map] at hst hW heq;rw [drop_length,take_of_length_le (by rw [length_drop]; exact le_refl _)] at heq;refine ⟨_,_root_.rfl,.inl ⟨_root_.rfl,_,SqL.of b.lst⟩,_,_root_.rfl,_,_root_.rfl,_,_root_.rfl,_,_root_.rfl,a,_,_root_.rfl,b.same.seq ha,fun q hq=>⟨by show 2≤sizeLine; decide,fun r hr=>?_⟩⟩;rw [Rp hst] at hr ⊢;have b2:=b.put (p:=st) hl hq hr;refine ⟨l,rs.map V.ref,_,_root_.rfl,_root_.rfl,b.two hq hr,by rw [b.len,sizeLine_eq]; omega,_,_root_.rfl,?_⟩;refine k _ l (rs++[r]) b2.same hl b2.lst ?_;have e2:glue st (t.drop st) (cut t.length [])=[(st,t.drop st)]:=by
    show [(st,t.drop st++[])]=_;rw [append_nil]
   rw [heq,e2];exact b2.ws.mono dv
end
theorem B5:bootBuiltins "all"=some (.builtin "all"):=by kernel_rfl
theorem B6{K:PySem.W.Frag}{a:Addr}{xs:List V}{j:Nat}{te:TE}{vs:List Nat}{σ:L2.St}{H1:Hp}{D:Addr}{Qd:Hp→Prop}(f:V→V)(ha:SqL K H1 a xs)(hD:H1 D=none)(hz:xs.length<sizeLine)
  (hw:∀ x,wipe ((wipe σ vs).set j (some x)) vs=wipe σ vs) (ht:∀ (x:V) (H:Hp) (Q:VK),x∈xs→Q (f x) H→te ((wipe σ vs).set j (some x)) H Q) (hq:Qd (upd H1 D (.lst (xs.map f)))) :
  ∃ W:Nat→Nat→Hp→Prop,(∃ m,W 0 m (upd H1 D (.lst [])))∧∀ i m H,W i m H →
   ((Itl K a).stop i H∧Qd H)∨((Itl K a).go i H∧∃ Nx:Hp→Prop,(∀ H',Nx H'→∃ m',m'<m∧W (i+1) m' H')∧∀ x H',(Itl K a).yld i H x H'→sI j x (wipe σ vs) H' fun σ2 H2=>wipe σ2 vs=wipe σ vs∧vp σ2 H2 fun b H3=>
    if b=true then te σ2 H3 fun y H4=>∃ acc,H4 D=some (.lst acc)∧acc.length<sizeLine∧Nx (upd H4 D (.lst (acc++[y]))) else Nx H3):=by
 refine iT (xs:=xs) (fun i H'=>H'=upd H1 D (.lst ((xs.take i).map f))) _root_.rfl (fun i H' _ e=>?_) (fun i x H' hx e=>?_) fun H' e=>?_
 ·rw [e];exact aj.seq (aj.new hD) ha
 ·subst e;refine ⟨hw x,?_⟩;unfold vp;dsimp only;rw [if_pos _root_.rfl];refine ht x _ _ (mem_of_getElem? hx) ⟨_,ae,?_,?_⟩
  ·rw [length_map,length_take];omega
  ·rw [bQ,take_snoc hx,map_append];rfl
 ·rw [e,take_length];exact hq
theorem sr{w:List Nat}{x:V}(h:x∈vzs w):∃ c:Nat,c∈w∧x = .int (c:Int):=by
 obtain ⟨z,hz,e⟩:=mem_map.mp h;obtain ⟨c,hc,e2⟩:=mem_map.mp hz;exact ⟨c,hc,by rw [← e,← e2]⟩
def btw(lo hi:Int):V→Bool
 | .int n=>decide (lo≤n)&&decide (n≤hi)
 | _=>false
theorem EM(lo hi:Int)(w:List Nat):((vzs w).map (btw lo hi)).all id=w.all fun c=>decide (lo≤(c:Int))&&decide ((c:Int)≤hi):=by
 rw [all_map,all_map,all_map];rfl
theorem B7{j:Nat}{lo hi n:Int}{σ:L2.St}{H:Hp}{Q:VK}(hj : σ[j]? = some (some (.int n)))(h:Q (.bl (btw lo hi (.int n))) H) :
  BB (rI0 fun i j=>.bl (decide (i≤j))) (rI0 fun i j=>.bl (decide (i≤j))) (tC (.int lo)) (zy j) (tC (.int hi)) σ H Q:=by
 refine ⟨_,hj,_,_,_root_.rfl,_root_.rfl,_,_root_.rfl,?_⟩;by_cases h1:lo≤n
 ·rw [if_pos (decide_eq_true h1)];refine ⟨_,_,_root_.rfl,_root_.rfl,?_⟩;rw [show btw lo hi (.int n)=decide (n≤hi) by show (decide (lo≤n)&&decide (n≤hi))=_; rw [decide_eq_true h1,Bool.true_and]] at h;exact h
 ·rw [if_neg (by rw [decide_eq_false h1]; exact Bool.false_ne_true)];rw [show btw lo hi (.int n)=false by show (decide (lo≤n)&&decide (n≤hi))=_; rw [decide_eq_false h1,Bool.false_and]] at h;exact h
section
variable {P:Program}{w:World}{K:PySem.W.Frag}{mg:Str→Option Value}{base:Heap}
def Ak(K:PySem.W.Frag):Sp:=fun vs H Q _=>∃ (a:Addr) (t:List Nat),vs=[.ref a]∧SqL K H a (vzs t)∧∀ H':Hp,aj H H'→Q (.bl (isName t)) H'
theorem Al:ax ["word","byte"] ["word"] (ao pk):=⟨rfl,rfl,rfl,by decide +kernel,rfl,by decide +kernel,by decide +kernel⟩
theorem B8{f:Addr}{fd:FuncData}(F:Fun K "is_name" "is_name" pk f fd)(T:TW mg):aF P w K mg base CX0 1 f fd ["word"] (Ak K):=by
 refine F.ok Al (fun vs H Q E h=>?_) (fun cdv A outer s H vs Q E hr h=>?_)
 ·obtain ⟨a,t,rfl,_⟩:=h;rfl
 ·obtain ⟨a,t,rfl,ha,k⟩:=h;have nd:=Al.nd;refine ⟨_,ag (a0 (PW.pt (jB (aK eZ (aJ aC (by rfl) T.ln PySem.boot_len (aa (pv 0) ah)) au (aN _)) (hJ (aK eJ (aJ aC (by rfl) T.ln PySem.boot_len (aa (pv 0) ah)) (aY T.ml) (aN _))))) (ai (ay oC)) aO)
   (ai (ay (aJ (BM rfl) (by rfl) T.al B5 (aa (lW (own:=[("byte",1)]) rfl nd (cI (pv 0)) (cy (by show lQ ["word","byte"] (ao pk) _ _=true; decide +kernel)) (fun s H C cl fp=>aM (i:=1) nd rfl (Or.inl rfl)) (fun s H C cl fp=>eM)
    (fun s H C cl fp=>oH oG oG (aY T.fl) (pv 1) (aY T.ll))) ah)))),?_⟩
  have hlen:((vzs t).length:Int)=(t.length:Int):=by rw [length_map,length_map]
  refine ⟨_,rfl,a,_,rfl,.inl ha,_,_,rfl,rfl,_,rfl,cg (fun h1=>?_) fun h1=>⟨_,rfl,a,_,rfl,.inl ha,_,_,rfl,rfl,_,rfl,cg (fun h2=>?_) fun h2=>?_⟩⟩
  ·refine bz ?_;rw [hlen] at h1;rw [show isName t=false by unfold isName; rw [decide_eq_false (show ¬ 1≤t.length by omega),Bool.false_and]] at k;exact k H aj.rfl
  ·rw [hlen] at h2;rw [show isName t=false by unfold isName; rw [decide_eq_false (show ¬ t.length≤12 by omega),Bool.false_and,Bool.and_false]] at k;exact k H aj.rfl
  ·rw [hlen] at h1 h2;have hz:(vzs t).length<sizeLine:=by rw [length_map,length_map,sizeLine_eq]; omega
   refine ⟨_,rfl,a,rfl,⟨_,ha⟩,fun D hD=>B6 (fun x=>.bl (btw 97 122 x)) ha hD hz (fun _=>rfl) (fun x H' Q' hx hq=>?_) ?_⟩
   ·obtain ⟨c,_,rfl⟩:=sr hx;exact B7 rfl hq
   ·refine ⟨D,(vzs t).map (btw 97 122),rfl,SqL.of (by rw [ae]; exact congrArg (fun z=>some (HO.lst z)) (map_map).symm),?_⟩;have e:((vzs t).map (btw 97 122)).all id=isName t:=by
     rw [EM];unfold VbenCore.isName VbenCore.isLetter;rw [decide_eq_true (show 1≤t.length by omega),decide_eq_true (show t.length≤12 by omega),Bool.true_and,Bool.true_and];refine congrArg (fun p=>t.all p) (funext fun c=>?_);rw [show decide ((97:Int)≤(c:Int))=decide (97≤c) by rw [decide_eq_decide]; omega,show decide ((c:Int)≤122)=decide (c≤122) by rw [decide_eq_decide]; omega]
    rw [e];exact k _ (aj.new hD)
def c7(t:List Nat):Bool:=!(decide (1<t.length)&&t.head? == some 48)&&(decide (0<t.length)&&t.all isDigit)
def EN(K:PySem.W.Frag):Sp:=fun vs H Q _=>∃ (a:Addr) (t:List Nat),vs=[.ref a]∧SqL K H a (vzs t)∧t.length<sizeLine∧∀ H':Hp,aj H H'→Q (.bl (c7 t)) H'
theorem EO:ax ["word","byte"] ["word"] (ao fe):=⟨rfl,rfl,rfl,by decide +kernel,rfl,by decide +kernel,by decide +kernel⟩
theorem vw{f:Addr}{fd:FuncData}(F:Fun K "is_decimal" "is_decimal" fe f fd)(T:TW mg):aF P w K mg base CX0 1 f fd ["word"] (EN K):=by
 refine F.ok EO (fun vs H Q E h=>?_) (fun cdv A outer s H vs Q E hr h=>?_)
 ·obtain ⟨a,t,rfl,_⟩:=h;rfl
 ·obtain ⟨a,t,rfl,ha,hz0,k⟩:=h;have nd:=EO.nd;refine ⟨_,ag (a0 (PW.pt (sE (aK eJ (aJ aC (by rfl) T.ln PySem.boot_len (aa (pv 0) ah)) au (aN _)) (oE (aK dH (aQ aG (pv 0) au (fun _ _=>rfl)) (aY T.zero) (aN _))))) (ai (ay oC)) aO)
   (ai (ay (HF (eL eJ (aJ aC (by rfl) T.ln PySem.boot_len (aa (pv 0) ah)) au (aN _)) (HE (aJ (BM rfl) (by rfl) T.al B5 (aa (lW (own:=[("byte",1)]) rfl nd (cI (pv 0)) (cy (by show lQ ["word","byte"] (ao fe) _ _=true; decide +kernel)) (fun s H C cl fp=>aM (i:=1) nd rfl (Or.inl rfl)) (fun s H C cl fp=>eM)
    (fun s H C cl fp=>oH oG oG (aY T.zero) (pv 1) (aY T.nine))) ah)))))),?_⟩
  have hlen:((vzs t).length:Int)=(t.length:Int):=by rw [length_map,length_map]
  have hz:(vzs t).length<sizeLine:=by rw [length_map,length_map]; exact hz0
  have rest:∀ H2:Hp,aj H H2→c7 t=(decide (0<t.length)&&t.all isDigit)→QV (Ni (tOp (rI0 fun i j=>.bl (decide (j<i))) (tCB (fun xs H Q=>∃ p ys,xs=[.ref p]∧(SqL K H p ys∨SqT K H p ys)∧Q (.int ys.length) H) (Ep (zy 0) BF)) (tC (.int 0)))
    (tCB (Q9 K) (Ep (tLc (Nj K (zy 0)) (sI 1) vp (BB (rI0 fun i j=>.bl (decide (i≤j))) (rI0 fun i j=>.bl (decide (i≤j))) (tC (.int 48)) (zy 1) (tC (.int 57))) [1]) BF))) { nx:=fun _ H'=>Q .non H',rt:=Q } [some (.ref a),none] H2:=by
   intro H2 s2 e;refine ⟨_,rfl,a,_,rfl,.inl (s2.seq ha),_,_,rfl,rfl,_,rfl,cg (fun h1=>?_) fun h1=>?_⟩
   ·rw [hlen] at h1;refine ⟨_,rfl,a,rfl,⟨_,s2.seq ha⟩,fun D hD=>B6 (fun x=>.bl (btw 48 57 x)) (s2.seq ha) hD hz (fun _=>rfl) (fun x H' Q' hx hq=>?_) ?_⟩
    ·obtain ⟨c,_,rfl⟩:=sr hx;exact B7 rfl hq
    ·refine ⟨D,(vzs t).map (btw 48 57),rfl,SqL.of (by rw [ae]; exact congrArg (fun z=>some (HO.lst z)) (map_map).symm),?_⟩;have e2:((vzs t).map (btw 48 57)).all id=c7 t:=by
      rw [EM,e,decide_eq_true (show 0<t.length by omega),Bool.true_and];unfold VbenCore.isDigit;refine congrArg (fun p=>t.all p) (funext fun c=>?_);rw [show decide ((48:Int)≤(c:Int))=decide (48≤c) by rw [decide_eq_decide]; omega,show decide ((c:Int)≤57)=decide (c≤57) by rw [decide_eq_decide]; omega]
     rw [e2];exact k _ (s2.trans (aj.new hD))
   ·rw [hlen] at h1;have e2:c7 t=false:=by rw [e,decide_eq_false (show ¬ 0<t.length by omega),Bool.false_and]
    rw [e2] at k;exact k H2 s2
  refine ⟨_,rfl,a,_,rfl,.inl ha,_,_,rfl,rfl,_,rfl,cg (fun h1=>?_) fun h1=>?_⟩
  ·rw [hlen] at h1;obtain ⟨c,r,ht⟩:∃ c r,t=c::r:=by
    cases t with
    | nil=>exact absurd h1 (by decide)
    | cons c r=>exact ⟨c,r,rfl⟩
   refine ⟨_,rfl,a,_,_,_,rfl,rfl,ha,at_of (j:=0) (v:=.int (c:Int)) rfl (by rw [ht]; rfl),rfl,_,rfl,cg (fun h2=>?_) fun h2=>?_⟩
   ·have e:c7 t=false:=by
     unfold c7;rw [decide_eq_true (show 1<t.length by omega),ht,b8 (b:=48) h2];rfl
    rw [e] at k;exact k H aj.rfl
   ·refine rest H aj.rfl ?_;unfold c7;rw [show (t.head? == some 48)=false by rw [ht]; exact beq_eq_false_iff_ne.mpr fun z=>h2 (by rw [Option.some.inj z]; rfl),Bool.and_false,Bool.not_false,Bool.true_and]
  ·rw [hlen] at h1;refine rest H aj.rfl ?_;unfold c7;rw [decide_eq_false (show ¬ 1<t.length by omega),Bool.false_and,Bool.not_false,Bool.true_and]
end
abbrev gy:Stmt:=top 15
section
variable {P:Program}{w:World}{K:PySem.W.Frag}{mg:Str→Option Value}{base:Heap}
def worth(t:List Nat):Nat:=VbenCore.valueOf 10 (t.map fun c=>c-48)
theorem B9{t:List Nat}{i c:Nat}(h:t[i]? = some c):worth (t.take (i+1))=worth (t.take i)*10+(c-48):=by
 unfold worth VbenCore.valueOf;rw [take_snoc h,map_append,foldl_append];rfl
def tR(K:PySem.W.Frag):Sp:=fun vs H Q _=>∃ (a:Addr) (t:List Nat),vs=[.ref a]∧SqL K H a (vzs t)∧t.all isDigit=true∧Q (.int (worth t:Int)) H
theorem tT:ax ["decimal","number","byte"] ["decimal"] (ao lE):=⟨rfl,rfl,rfl,by decide +kernel,rfl,by decide +kernel,by decide +kernel⟩
theorem yo{f:Addr}{fd:FuncData}(F:Fun K "number_of" "number_of" lE f fd)(T:TW mg):aF P w K mg base CX0 1 f fd ["decimal"] (tR K):=by
 refine F.ok tT (fun vs H Q E h=>?_) (fun cdv A outer s H vs Q E hr h=>?_)
 ·obtain ⟨a,t,rfl,_⟩:=h;rfl
 ·obtain ⟨a,t,rfl,ha,hd,k⟩:=h;have nd:=tT.nd;refine ⟨_,ag (az (i:=1) nd rfl (Or.inl rfl) au) (ag (cu PassesOwn.never rfl (cI (pv 0)) (aM (i:=2) nd rfl (Or.inl rfl))
   (ai (az (i:=1) nd rfl (Or.inl rfl) (aU cX (aU cz (aU xT au (pv 1)) (pv 2)) (aY T.zero))))) (ai (ay (pv 1)))),?_⟩
  refine ⟨_,rfl,a,rfl,⟨_,ha⟩,jI (K:=K) (a:=a) (xs:=vzs t) (fun i σ H'=>H'=H∧∃ v:Option V,σ=[some (.ref a),some (.int (worth (t.take i):Int)),v]) ⟨rfl,none,rfl⟩ (fun i σ H' _ ⟨e,_⟩=>by rw [e]; exact ha) ?_ ?_⟩
  ·rintro i x σ H' hi ⟨rfl,v,rfl⟩;obtain ⟨c,hc,rfl⟩:=de hi;have h48:48≤c:=by
    have z:=all_eq_true.mp hd c (mem_of_getElem? hc);unfold VbenCore.isDigit at z;rw [and_eq_true,decide_eq_true_eq] at z;exact z.1
   refine ⟨_,rfl,_,_,rfl,rfl,.inl ⟨by decide,by decide⟩,_,rfl,_,_,rfl,rfl,_,_,rfl,rfl,?_⟩;refine ⟨rfl,some (.int (c:Int)),?_⟩;rw [B9 hc];show [some (V.ref a),some (V.int (10*(worth (t.take i):Int)+(c:Int)-48)),some (V.int (c:Int))]=_;rw [show (10*(worth (t.take i):Int)+(c:Int)-48)=((worth (t.take i)*10+(c-48):Nat):Int) by omega]
  ·rintro σ H' ⟨rfl,v,rfl⟩;rw [length_map,length_map,take_length];exact ⟨_,rfl,k⟩
end
def aI(a:Addr)(H H':Hp):Prop:=∀ b o,H b=some o→b≠a→H' b=some o
theorem aI.of{a:Addr}{H H':Hp}(s:aj H H'):aI a H H':=fun b o e _=>s b o e
theorem aI.trans{a:Addr}{H H1 H2:Hp}(s:aI a H H1)(t:aI a H1 H2):aI a H H2:=fun b o e n=>t b o (s b o e n) n
def rf(l:Addr)(e k:Nat):List (Str×V):=[("words",.ref l),("length",.int (e:Int)),("passed",.int (k:Int))]
structure lR(C:Addr)(H:Hp)(a:Addr)(ws:List (Nat×List Nat))(e k:Nat):Prop where
 ex:∃ (dx l:Addr) (rs:List Addr),H a=some (.ins C dx (rf l e k))∧H l=some (.lst (rs.map V.ref))∧aT H rs ws
 le:k≤ws.length
theorem aT.cR{a:Addr}{H H':Hp}{o:HO}(ha:H a=some o)(n1:∀ xs,o≠.tup xs)(n2:∀ xs,o≠.lst xs)(u:aI a H H'):∀ {rs:List Addr} {ws:List (Nat×List Nat)},aT H rs ws→aT H' rs ws
 | _,_,.nil=>.nil
 | _,_,.cons x y t=>.cons (u _ _ x (aW x ha (Ne.symm (n1 _)))) (u _ _ y (aW y ha (Ne.symm (n2 _)))) (aT.cR ha n1 n2 u t)
theorem lR.same{C:Addr}{H H':Hp}{a:Addr}{ws:List (Nat×List Nat)}{e k:Nat}(r:lR C H a ws e k)(s:aj H H'):lR C H' a ws e k:=by
 obtain ⟨⟨dx,l,rs,h1,h2,h3⟩,le⟩:=r;exact ⟨⟨dx,l,rs,s _ _ h1,s _ _ h2,h3.mono s⟩,le⟩
theorem aT.at_{H:Hp}:∀ {rs:List Addr} {ws:List (Nat×List Nat)} {k p:Nat} {w:List Nat},aT H rs ws→ws[k]? = some (p,w)→∃ r q,(rs.map V.ref)[k]? = some (.ref r)∧H r=some (.tup [.int (p:Int),.ref q])∧H q=some (.lst (vzs w))
 | _,_,0,p,w,.cons (r:=r) (q:=q) a b t,h=>by
  cases (Option.some.inj h);exact ⟨r,q,_root_.rfl,a,b⟩
 | _,_,k+1,p,w,.cons a b t,h=>aT.at_ (k:=k) t h
theorem LZ{K:PySem.W.Frag}{a p C dx:Addr}{fs:List (Str×V)}{H H':Hp}{xs:List V}(h:SqL K H a xs)(hp:H p=some (.ins C dx fs))(u:aI p H H'):SqL K H' a xs:=by
 rcases h with (h | ⟨o,h⟩) | h
 ·exact .inl (.inl (u _ _ h (aW h hp (by intro z; cases z))))
 ·exact .inl (.inr ⟨o,u _ _ h (aW h hp (by intro z; cases z))⟩)
 ·exact .inr h
structure TR(K:PySem.W.Frag)(C:Addr):Prop where
 cl:Cls K C
 nW:aP K C "words"
 nL:aP K C "length"
 nP:aP K C "passed"
abbrev IE:Stmt:=inClass gy 0
abbrev tU:Stmt:=inClass gy 1
abbrev IF:Stmt:=inClass gy 2
abbrev IG:Stmt:=inClass gy 3
abbrev IH:Stmt:=inClass gy 4
abbrev II:Stmt:=inClass gy 5
abbrev IJ:Stmt:=inClass gy 6
abbrev OP:Stmt:=inClass gy 7
section
variable {P:Program}{w:World}{K:PySem.W.Frag}{mg:Str→Option Value}{base:Heap}
def yq(K:PySem.W.Frag)(C:Addr):Sp:=fun vs H Q _=>∃ (p dx a:Addr) (t:List Nat),vs=[.ref p,.ref a]∧H p=some (.ins C dx [])∧SqL K H a (vzs t)∧t.length≤100000∧∀ H':Hp,lR C H' p (cut 0 t) t.length 0→aI p H H'→Q .non H'
theorem L4:ax ["self","text"] ["self","text"] (ao IE):=⟨rfl,rfl,rfl,by decide +kernel,rfl,by decide +kernel,by decide +kernel⟩
theorem IK{f C fW:Addr}{fd fdW:FuncData}(F:Fun K "__init__" "Reader.__init__" IE f fd)(T:TW mg)(R:TR K C)(FW:Fun K "words_of" "words_of" pj fW fdW)(hW:mg "words_of"=some (.ref fW))(bW:L2.Binds K fdW ["text"] []) :
  aF P w K mg base CX0 2 f fd ["self","text"] (yq K C):=by
 have GW:aF P w K mg base CX0 1 fW fdW ["text"] (wQ K):=Aj FW T;refine F.ok L4 (fun vs H Q E h=>?_) (fun cdv A outer s H vs Q E hr h=>?_)
 ·obtain ⟨p,dx,a,t,rfl,_⟩:=h;rfl
 ·obtain ⟨p,dx,a,t,rfl,hp,ha,ht,k⟩:=h;refine ⟨_,ag (b9 (pv 0) (aD GW hr rfl hW FW.kp bW .nil aE (aa (pv 1) ah)) rfl) (ag (b9 (pv 0) (aJ aC (by rfl) T.ln PySem.boot_len (aa (pv 1) ah)) rfl) (ai (b9 (pv 0) au rfl))),?_⟩;refine ⟨_,rfl,a,t,rfl,ha,ht,fun H1 l rs s1 hl h1 w1=>?_⟩;have hp1:=s1 _ _ hp;have npl:l≠p:=aW h1 hp1 (by intro z; cases z);refine ⟨_,rfl,p,C,dx,[],rfl,hp1,R.cl,R.nW,(by show 0<1000; decide),?_⟩;have u1:aI p H (upd H1 p (.ins C dx (cn "words" (.ref l) []))):=fun b o e n=>by rw [aq n]; exact s1 b o e
  refine ⟨_,rfl,a,_,rfl,.inl (LZ ha hp u1),_,rfl,p,C,dx,_,rfl,ae,R.cl,R.nL,(by show 1<1000; decide),?_⟩;rw [bQ];refine ⟨_,rfl,p,C,dx,_,rfl,ae,R.cl,R.nP,(by show 2<1000; decide),?_⟩;rw [bQ];have u2:aI p H1 (upd H1 p (.ins C dx (rf l t.length 0))):=fun b o e n=>by rw [aq n]; exact e
  have e1:cn "passed" (.int 0) (cn "length" (.int ((vzs t).length:Int)) (cn "words" (.ref l) []))=rf l t.length 0:=by
   rw [length_map,length_map];rfl
  rw [e1];refine k _ ⟨⟨dx,l,rs,ae,u2 _ _ h1 npl,aT.cR hp1 (fun _ z=>nomatch z) (fun _ z=>nomatch z) u2 w1⟩,zero_le _⟩ fun b o e n=>u2 b o (s1 b o e) n
theorem OQ(l:Addr)(e k:Nat):(rf l e k).lookup ("words":Str)=some (.ref l):=rfl
theorem UA(l:Addr)(e k:Nat):(rf l e k).lookup ("length":Str)=some (.int (e:Int)):=by rfl
theorem F7(l:Addr)(e k:Nat):(rf l e k).lookup ("passed":Str)=some (.int (k:Int)):=by rfl
def pw(C:Addr):Sp:=fun vs H Q _=>∃ (a:Addr) (ws:List (Nat×List Nat)) (e k:Nat),vs=[.ref a]∧lR C H a ws e k∧Q (.bl (decide (k=ws.length))) H
theorem L5:ax ["self"] ["self"] (ao tU):=⟨rfl,rfl,rfl,by decide +kernel,rfl,by decide +kernel,by decide +kernel⟩
theorem tV{f C:Addr}{fd:FuncData}(F:Fun K "ended" "Reader.ended" tU f fd)(T:TW mg)(R:TR K C):aF P w K mg base CX0 1 f fd ["self"] (pw C):=by
 refine F.ok L5 (fun vs H Q E h=>?_) (fun cdv A outer s H vs Q E hr h=>?_)
 ·obtain ⟨a,ws,e,k,rfl,_⟩:=h;rfl
 ·obtain ⟨a,ws,e,k,rfl,⟨⟨dx,l,rs,h1,h2,h3⟩,le⟩,q⟩:=h;refine ⟨_,ai (ay (eL dH (aB (pv 0) rfl) (aJ aC (by rfl) T.ln PySem.boot_len (aa (aB (pv 0) rfl) ah)) (aN _))),?_⟩;refine ⟨_,rfl,a,C,dx,_,_,rfl,h1,R.cl,R.nP,F7 _ _ _,_,rfl,a,C,dx,_,_,rfl,h1,R.cl,R.nW,OQ _ _ _,l,_,rfl,.inl (SqL.of h2),rfl,?_⟩;rw [length_map,h3.len,show decide (V.int (k:Int)=V.int (ws.length:Int))=decide (k=ws.length) by rw [decide_eq_decide]; exact ⟨b8,fun z=>by rw [z]⟩];exact q
end
def cA:List (Nat×List Nat)→List Nat
 | []=>[]
 | w::_=>w.2
theorem drop_one{ws:List (Nat×List Nat)}{k:Nat}(h:k<ws.length):∃ p w,ws[k]? = some (p,w)∧ws.drop k=(p,w)::ws.drop (k+1):=
 ⟨ws[k].1,ws[k].2,getElem?_eq_getElem h,drop_eq_getElem_cons h⟩
theorem bJ{m:Str}{l:Addr}{e k:Nat}(h:(m==("words":Str))=false∧(m==("length":Str))=false∧(m==("passed":Str))=false):(rf l e k).lookup m=none:=by
 unfold rf;simp only [List.lookup,h.1,h.2.1,h.2.2]
section
variable {P:Program}{w:World}{K:PySem.W.Frag}{mg:Str→Option Value}{base:Heap}
def Ca(C:Addr):Sp:=fun vs H Q _=>∃ (a:Addr) (ws:List (Nat×List Nat)) (e k:Nat),vs=[.ref a]∧lR C H a ws e k∧Q (.int (VbenCore.placeOf e (ws.drop k):Int)) H
def yr(C:Addr):Sp:=fun vs H Q _=>∃ (a dx l:Addr) (rs:List Addr) (ws:List (Nat×List Nat)) (e k:Nat),vs=[.ref a]∧H a=some (.ins C dx (rf l e k))∧H l=some (.lst (rs.map V.ref))∧aT H rs ws∧k≤ws.length ∧
 ∀ (H':Hp) (p:Addr),aj H H'→H' p=some (.lst (vzs (cA (ws.drop k))))→(k<ws.length→∃ (r:Addr) (pl:V),(rs.map V.ref)[k]? = some (.ref r)∧H' r=some (.tup [pl,.ref p]))→Q (.ref p) H'
def Cb(C:Addr):Sp:=fun vs H Q _=>∃ (a:Addr) (x:Str) (ws:List (Nat×List Nat)) (e k:Nat) (b:List Nat),vs=[.ref a,.str x]∧lR C H a ws e k∧codes x=zs b∧x.cps.size<sizeLine∧∀ H':Hp,aj H H'→Q (.bl (cA (ws.drop k)==b)) H'
theorem OR:ax ["self"] ["self"] (ao IF):=⟨rfl,rfl,rfl,by decide +kernel,rfl,by decide +kernel,by decide +kernel⟩
theorem OS:ax ["self"] ["self"] (ao IG):=⟨rfl,rfl,rfl,by decide +kernel,rfl,by decide +kernel,by decide +kernel⟩
theorem OT:ax ["self","signs"] ["self","signs"] (ao IH):=⟨rfl,rfl,rfl,by decide +kernel,rfl,by decide +kernel,by decide +kernel⟩
theorem noE:(("ended":Str)==("words":Str))=false∧(("ended":Str)==("length":Str))=false∧(("ended":Str)==("passed":Str))=false:=by decide +kernel
theorem noW:(("word":Str)==("words":Str))=false∧(("word":Str)==("length":Str))=false∧(("word":Str)==("passed":Str))=false:=by decide +kernel
theorem noS:(("sees":Str)==("words":Str))=false∧(("sees":Str)==("length":Str))=false∧(("sees":Str)==("passed":Str))=false:=by decide +kernel
theorem noH:(("here":Str)==("words":Str))=false∧(("here":Str)==("length":Str))=false∧(("here":Str)==("passed":Str))=false:=by decide +kernel
theorem L6{f C fE:Addr}{fd fdE:FuncData}(F:Fun K "here" "Reader.here" IF f fd)(T:TW mg)(R:TR K C)(FE:Fun K "ended" "Reader.ended" tU fE fdE)(mE:Meth K C "ended" fE)(bE:L2.Binds K fdE ["self"] []) :
  aF P w K mg base CX0 2 f fd ["self"] (Ca C):=by
 have GE:aF P w K mg base CX0 1 fE fdE ["self"] (pw C):=tV FE T R;refine F.ok OR (fun vs H Q E h=>?_) (fun cdv A outer s H vs Q E hr h=>?_)
 ·obtain ⟨a,ws,e,k,rfl,_⟩:=h;rfl
 ·obtain ⟨a,ws,e,k,rfl,rd,q⟩:=h;obtain ⟨⟨dx,l,rs,h1,h2,h3⟩,le⟩:=id rd;refine ⟨_,ag (a0 (bf (bb (pv 0) R.cl mE GE hr bE .nil aE)) (ai (ay (aB (pv 0) rfl))) aO) (ai (ay (aQ e7 (aQ aG (aB (pv 0) rfl) (aB (pv 0) rfl) (fun _ _=>rfl)) au (fun _ _=>rfl)))),?_⟩;refine ⟨_,rfl,a,dx,_,rfl,h1,bJ noE,a,ws,e,k,rfl,rd,_,rfl,cg (fun hk=>?_) fun hk=>?_⟩
  ·rw [hk,drop_length] at q;exact ⟨_,rfl,a,C,dx,_,_,rfl,h1,R.cl,R.nL,UA _ _ _,q⟩
  ·obtain ⟨p,wd,g1,g2⟩:=drop_one (show k<ws.length by omega);obtain ⟨r,qd,g3,g4,g5⟩:=aT.at_ h3 g1;rw [g2] at q;exact ⟨_,rfl,a,C,dx,_,_,rfl,h1,R.cl,R.nW,OQ _ _ _,_,rfl,a,C,dx,_,_,rfl,h1,R.cl,R.nP,F7 _ _ _,l,_,_,_,rfl,rfl,SqL.of h2,at_of (j:=k) rfl g3,r,_,_,_,rfl,rfl,SqT.of g4,at_of (j:=0) (v:=.int (p:Int)) rfl rfl,q⟩
theorem L7{f C fE:Addr}{fd fdE:FuncData}(F:Fun K "word" "Reader.word" IG f fd)(T:TW mg)(R:TR K C)(FE:Fun K "ended" "Reader.ended" tU fE fdE)(mE:Meth K C "ended" fE)(bE:L2.Binds K fdE ["self"] []) :
  aF P w K mg base CX0 2 f fd ["self"] (yr C):=by
 have GE:aF P w K mg base CX0 1 fE fdE ["self"] (pw C):=tV FE T R;refine F.ok OS (fun vs H Q E h=>?_) (fun cdv A outer s H vs Q E hr h=>?_)
 ·obtain ⟨a,dx,l,rs,ws,e,k,rfl,_⟩:=h;rfl
 ·obtain ⟨a,dx,l,rs,ws,e,k,rfl,h1,h2,h3,le,q⟩:=h;have rd:lR C H a ws e k:=⟨⟨dx,l,rs,h1,h2,h3⟩,le⟩;refine ⟨_,ag (a0 (bf (bb (pv 0) R.cl mE GE hr bE .nil aE)) (ai (ay (aH ah))) aO) (ai (ay (aQ e7 (aQ aG (aB (pv 0) rfl) (aB (pv 0) rfl) (fun _ _=>rfl)) au (fun _ _=>rfl)))),?_⟩;refine ⟨_,rfl,a,dx,_,rfl,h1,bJ noE,a,ws,e,k,rfl,rd,_,rfl,cg (fun hk=>?_) fun hk=>?_⟩
  ·rw [hk,drop_length] at q;exact ⟨zero_le _,fun p hp=>q _ p (aj.new hp) ae fun z=>absurd z (lt_irrefl _)⟩
  ·obtain ⟨p,wd,g1,g2⟩:=drop_one (show k<ws.length by omega);obtain ⟨r,qd,g3,g4,g5⟩:=aT.at_ h3 g1;rw [g2] at q;exact ⟨_,rfl,a,C,dx,_,_,rfl,h1,R.cl,R.nW,OQ _ _ _,_,rfl,a,C,dx,_,_,rfl,h1,R.cl,R.nP,F7 _ _ _,l,_,_,_,rfl,rfl,SqL.of h2,at_of (j:=k) rfl g3,r,_,_,_,rfl,rfl,SqT.of g4,at_of (j:=1) (v:=.ref qd) rfl rfl,q H qd aj.rfl g5 fun _=>⟨r,_,g3,g4⟩⟩
theorem Cc(a b:List Nat):(zs a==zs b)=(a==b):=by
 rw [Bool.eq_iff_iff,beq_iff_eq,beq_iff_eq];refine ⟨fun h=>?_,fun h=>by rw [h]⟩;have e:=congrArg (List.map toNat) h;rw [map_map,map_map] at e;rw [show (toNat∘fun (n:Nat)=>(n:Int))=id from funext fun n=>toNat_natCast n,map_id,map_id] at e;exact e
theorem L8{f C fWd fB:Addr}{fd fdWd fdB:FuncData}(F:Fun K "sees" "Reader.sees" IH f fd)(T:TW mg)(hO:mg "ord"=none)(R:TR K C)(GW:aF P w K mg base CX0 2 fWd fdWd ["self"] (yr C))(mW:Meth K C "word" fWd)(bW:L2.Binds K fdWd ["self"] [])
  (FB:Fun K "bytes_of" "bytes_of" jV fB fdB) (hB:mg "bytes_of"=some (.ref fB)) (bB:L2.Binds K fdB ["signs"] []):aF P w K mg base CX0 3 f fd ["self","signs"] (Cb C):=by
 have GB:aF P w K mg base CX0 1 fB fdB ["signs"] eU:=qV FB hO;refine F.ok OT (fun vs H Q E h=>?_) (fun cdv A outer s H vs Q E hr h=>?_)
 ·obtain ⟨a,x,ws,e,k,b,rfl,_⟩:=h;rfl
 ·obtain ⟨a,x,ws,e,k,b,rfl,rd,hx,hz,q⟩:=h;obtain ⟨⟨dx,l,rs,h1,h2,h3⟩,le⟩:=id rd;refine ⟨_,ai (ay (eL (BR hr.units) (bb (pv 0) R.cl mW GW hr bW .nil aE) (aD GB (hr.mono (by decide)) rfl hB FB.kp bB .nil aE (aa (pv 1) ah)) (aN _))),?_⟩;refine ⟨_,rfl,a,dx,_,rfl,h1,bJ noW,a,dx,l,rs,ws,e,k,rfl,h1,h2,h3,le,fun H1 p s1 hp _=>⟨_,rfl,x,rfl,hz,fun p2 hp2=>?_⟩⟩;have s2:aj H1 (upd H1 p2 (.lst ((codes x).map V.int))):=aj.new hp2;refine ⟨p,p2,zs (cA (ws.drop k)),zs b,rfl,rfl,SqL.of (s2 _ _ hp),SqL.of (by rw [ae,hx]),?_⟩;rw [Cc];exact q _ (s1.trans s2)
end
abbrev OU:Stmt:=top 9
abbrev mFI:Stmt:=inClass OU 0
structure Flt(CF:Addr)(H:Hp)(ea d:Addr)(p:Nat):Prop where
 ex:H ea=some (ExO CF ea (some d))
 di:H d=some (.xd [("place",.int (p:Int))])
structure TF(K:PySem.W.Frag)(mg:Str→Option Value)(CF fI:Addr):Prop where
 xm:XMk K CF fI
 nP:aP K CF "place"
 nv:mg "ValueError"=none
 at_:mg "Fault"=some (.ref CF)
section
variable {P:Program}{w:World}{K:PySem.W.Frag}{mg:Str→Option Value}{base:Heap}
def Cd(CF:Addr):Sp:=fun vs H Q _=>∃ (a:Addr) (n:Int),vs=[.ref a,.int n]∧H a=some (ExN CF a none)∧∀ d,H d=none→d≠a→Q .non (upd (upd H d (.xd [("place",.int n)])) a (ExN CF a (some d)))
theorem UB:ax ["self","place"] ["self","place"] (ao mFI):=⟨rfl,rfl,rfl,by decide +kernel,rfl,by decide +kernel,by decide +kernel⟩
theorem Am{CF fI:Addr}{fd:FuncData}(F:Fun K "__init__" "Fault.__init__" mFI fI fd)(T:TF K mg CF fI):aF P w K mg base CX0 1 fI fd ["self","place"] (Cd CF):=by
 refine F.ok UB (fun vs H Q E h=>?_) (fun cdv A outer s H vs Q E hr h=>?_)
 ·obtain ⟨a,n,rfl,_⟩:=h;rfl
 ·obtain ⟨a,n,rfl,ha,k⟩:=h;refine ⟨_,ag (aV (zV (sX T.xm.cls) (by rfl) T.nv (aa (pv 0) (aa dq ah)))) (ai (LC T.xm.toXC T.nP (pv 0) (pv 1) rfl)),?_⟩;exact ⟨_,rfl,a,none,_,rfl,ha,(by show 1≤sizeLine; decide),_,rfl,_,rfl,a,rfl,ha,fun d h1 h2=>k d h1 h2⟩
theorem raised{CF:Addr}{E:XK}{H1:Hp}{p:Nat}(hE:∀ (H':Hp) (ea d:Addr),Flt CF H' ea d p→aj H1 H'→E (.ref ea) (some d) H'):∀ a,H1 a=none →
  Cd CF [.ref a,.int (p:Int)] (upd H1 a (ExN CF a none)) (fun v H2=>v = .non∧∃ d:Option Addr,H2 a=some (ExN CF a d)∧E (.ref a) d (upd H2 a (ExO CF a d))) E0:=by
 intro a ha;refine ⟨a,_,rfl,ae,fun d hd hda=>⟨rfl,some d,ae,?_⟩⟩;rw [bQ];rw [aq hda] at hd;refine hE _ a d ⟨ae,?_⟩ fun b o e=>?_
 ·rw [aq hda,ae]
 ·rw [aq (ak e ha),aq (ak e hd),aq (ak e ha)];exact e
end
structure Rz where
 dx:Addr
 l:Addr
 rs:List Addr
 ws:List (Nat×List Nat)
def Rs(H:Hp)(z:Rz):Prop:=H z.l=some (.lst (z.rs.map V.ref))∧aT H z.rs z.ws
theorem Rs.same{H H':Hp}{z:Rz}(r:Rs H z)(s:aj H H'):Rs H' z:=⟨s _ _ r.1,r.2.mono s⟩
def Rd(C:Addr)(H:Hp)(a:Addr)(z:Rz)(e:Nat)(rem:List (Nat×List Nat)):Prop:=∃ k,H a=some (.ins C z.dx (rf z.l e k))∧Rs H z∧k≤z.ws.length∧z.ws.drop k=rem
theorem Rd.same{C:Addr}{H H':Hp}{a:Addr}{z:Rz}{e:Nat}{rem:List (Nat×List Nat)}(r:Rd C H a z e rem)(s:aj H H'):Rd C H' a z e rem:=by
 obtain ⟨k,h,q,t⟩:=r;exact ⟨k,s _ _ h,q.same s,t⟩
theorem UC(l:Addr)(e k:Nat):cn "passed" (.int ((k:Int)+1)) (rf l e k)=rf l e (k+1):=by
 have z:((k:Int)+1)=((k+1:Nat):Int):=by omega
 rw [z];rfl
theorem ER{e p:Nat}{w b:List Nat}{r:List (Nat×List Nat)}(h:w=b):VbenCore.must e b ((p,w)::r) = .ok r:=if_pos h
theorem ES{e p:Nat}{w b:List Nat}{r:List (Nat×List Nat)}(h:w≠b):VbenCore.must e b ((p,w)::r) = .error p:=if_neg h
theorem Rd.pass{C:Addr}{H:Hp}{a dx l:Addr}{rs:List Addr}{ws:List (Nat×List Nat)}{e k:Nat}(h1:H a=some (.ins C dx (rf l e k)))(h2:H l=some (.lst (rs.map V.ref)))(h3:aT H rs ws)(hk:k<ws.length) :
  Rd C (upd H a (.ins C dx (cn "passed" (.int ((k:Int)+1)) (rf l e k)))) a ⟨dx,l,rs,ws⟩ e (ws.drop (k+1)):=by
 have u:aI a H (upd H a (.ins C dx (cn "passed" (.int ((k:Int)+1)) (rf l e k)))):=fun b o q n=>by rw [aq n]; exact q
 rw [UC] at u ⊢;exact ⟨k+1,ae,⟨u _ _ h2 (aW h2 h1 (by intro z; cases z)),aT.cR h1 (fun _ z=>nomatch z) (fun _ z=>nomatch z) u h3⟩,hk,rfl⟩
theorem bu{H:Hp}{a:Addr}{o:HO}:aI a H (upd H a o):=fun b u q n=>by rw [aq n]; exact q
structure GR(P:Program)(w:World)(K:PySem.W.Frag)(mg:Str→Option Value)(base:Heap)(C fE fH fW fS:Addr)(fdE fdH fdW fdS:FuncData):Prop where
 ge:aF P w K mg base CX0 1 fE fdE ["self"] (pw C)
 gh:aF P w K mg base CX0 2 fH fdH ["self"] (Ca C)
 gw:aF P w K mg base CX0 2 fW fdW ["self"] (yr C)
 gs:aF P w K mg base CX0 3 fS fdS ["self","signs"] (Cb C)
 me:Meth K C "ended" fE
 mh:Meth K C "here" fH
 mw:Meth K C "word" fW
 ms:Meth K C "sees" fS
 be:L2.Binds K fdE ["self"] []
 bh:L2.Binds K fdH ["self"] []
 bw:L2.Binds K fdW ["self"] []
 bs:L2.Binds K fdS ["self","signs"] []
section
variable {P:Program}{w:World}{K:PySem.W.Frag}{mg:Str→Option Value}{base:Heap}
def IL(C CF:Addr):Sp:=fun vs H Q E=>∃ (a:Addr) (z:Rz) (x:Str) (e:Nat) (rem:List (Nat×List Nat)) (b:List Nat),vs=[.ref a,.str x]∧Rd C H a z e rem∧codes x=zs b∧b≠[]∧x.cps.size<sizeLine ∧
 match VbenCore.must e b rem with
 | .ok r=>∀ H':Hp,Rd C H' a z e r→aI a H H'→Q .non H'
 | .error p=>∀ (H':Hp) (ea d:Addr),Flt CF H' ea d p→aj H H'→E (.ref ea) (some d) H'
theorem OV:ax ["self","signs"] ["self","signs"] (ao II):=⟨rfl,rfl,rfl,by decide +kernel,rfl,by decide +kernel,by decide +kernel⟩
theorem L9{f C CF fI fE fH fW fS:Addr}{fd fdI fdE fdH fdW fdS:FuncData}(F:Fun K "skip" "Reader.skip" II f fd)(R:TR K C)(TFt:TF K mg CF fI)(FI:Fun K "__init__" "Fault.__init__" mFI fI fdI)(bI:L2.Binds K fdI ["self","place"] [])(G:GR P w K mg base C fE fH fW fS fdE fdH fdW fdS) :
  aF P w K mg base (CXF P w CF) 4 f fd ["self","signs"] (IL C CF):=by
 have GI:aF P w K mg base CX0 1 fI fdI ["self","place"] (Cd CF):=Am FI TFt;refine yg F OV (fun vs H Q E h=>?_) (fun cdv A outer s H vs Q E hr h=>?_)
 ·obtain ⟨a,z,x,e,rem,b,rfl,_⟩:=h;rfl
 ·obtain ⟨a,⟨dx,l,rs,ws⟩,x,e,rem,b,rfl,⟨k,h1,⟨h2,h3⟩,le,hrem⟩,hx,hb,hz,q⟩:=h;have rd:lR C H a ws e k:=⟨⟨dx,l,rs,h1,h2,h3⟩,le⟩;dsimp only at hrem;refine ⟨_,ag (a0 (cq (bf (aZ (pv 0) R.cl G.ms G.gs hr G.bs .nil aE (aa (pv 1) ah)))) (ai (e8 TFt.xm GI (hr.mono (by decide)) rfl bc (by rfl) TFt.at_ bI (aa (bb (pv 0) R.cl G.mh G.gh (hr.mono (by decide)) G.bh .nil aE) ah))) aO)
   (ai (eQ (pv 0) au pZ)),?_⟩
  refine ⟨_,rfl,a,dx,_,rfl,h1,bJ noS,_,rfl,a,x,ws,e,k,b,rfl,rd,hx,hz,fun H1 s1=>⟨_,rfl,?_⟩⟩;have rd1:=rd.same s1;cases hs:(cA (ws.drop k)==b) with
  | true=>
   have hw:=beq_iff_eq.mp hs;have hk:k<ws.length:=by
    cases lt_or_ge k ws.length with
    | inl z=>exact z
    | inr z=>
     rw [drop_eq_nil_of_le z] at hw;exact absurd hw.symm hb
   obtain ⟨p,wd,g1,g2⟩:=drop_one hk;rw [g2] at hw hrem;subst hrem;rw [ER (show wd=b from hw)] at q;refine b0 ?_;have h1':=s1 _ _ h1;refine ⟨_,rfl,a,C,dx,_,_,rfl,h1',R.cl,R.nP,F7 _ _ _,_,_,rfl,rfl,dx,_,h1',(by show 3<1000; decide),?_⟩;exact q _ (Rd.pass h1' (s1 _ _ h2) (h3.mono s1) hk) ((aI.of s1).trans bu)
  | false=>
   have hm:VbenCore.must e b rem = .error (VbenCore.placeOf e rem):=by
    rw [← hrem];cases hd:ws.drop k with
    | nil=>rfl
    | cons x r=>
     rw [hd] at hs;exact ES (p:=x.1) (w:=x.2) (beq_eq_false_iff_ne.mp hs)
   rw [hm] at q;refine bz ?_;refine ⟨_,rfl,a,dx,_,rfl,s1 _ _ h1,bJ noH,a,ws,e,k,rfl,rd1,(by show 1≤sizeLine; decide),?_⟩;rw [hrem];exact raised fun H' ea d fl s2=>q H' ea d fl (s1.trans s2)
end
theorem ET{e p:Nat}{w:List Nat}{r:List (Nat×List Nat)}(h:isName w=true):VbenCore.name e ((p,w)::r) = .ok (w,r):=if_pos h
theorem Ma{e p:Nat}{w:List Nat}{r:List (Nat×List Nat)}(h:isName w=false):VbenCore.name e ((p,w)::r) = .error p:=if_neg (by show ¬ isName w=true; rw [h]; exact Bool.false_ne_true)
theorem IM{e:Nat}{rem:List (Nat×List Nat)}(h:isName (cA rem)=false):VbenCore.name e rem = .error (VbenCore.placeOf e rem):=by
 cases rem with
 | nil=>rfl
 | cons x r=>exact Ma (p:=x.1) (w:=x.2) h
theorem tW{ws:List (Nat×List Nat)}{k:Nat}(h:cA (ws.drop k)≠[]):k<ws.length:=by
 cases lt_or_ge k ws.length with
 | inl z=>exact z
 | inr z=>
  rw [drop_eq_nil_of_le z] at h;exact absurd rfl h
section
variable {P:Program}{w:World}{K:PySem.W.Frag}{mg:Str→Option Value}{base:Heap}
def tX(C CF:Addr):Sp:=fun vs H Q E=>∃ (a:Addr) (z:Rz) (e:Nat) (rem:List (Nat×List Nat)),vs=[.ref a]∧Rd C H a z e rem ∧
 match VbenCore.name e rem with
 | .ok r=>∀ (H':Hp) (p:Addr),Rd C H' a z e r.2→H' p=some (.lst (vzs r.1))→p≠a→(∀ G:Hp,aj G H'→Rs G z→G p=some (.lst (vzs r.1)))→aI a H H'→Q (.ref p) H'
 | .error p=>∀ (H':Hp) (ea d:Addr),Flt CF H' ea d p→aj H H'→E (.ref ea) (some d) H'
theorem tY:ax ["self","name"] ["self"] (ao IJ):=⟨rfl,rfl,rfl,by decide +kernel,rfl,by decide +kernel,by decide +kernel⟩
theorem yt{f C CF fI fE fH fW fS fN:Addr}{fd fdI fdE fdH fdW fdS fdN:FuncData}(F:Fun K "take_name" "Reader.take_name" IJ f fd)(T:TW mg)(R:TR K C)(TFt:TF K mg CF fI)(FI:Fun K "__init__" "Fault.__init__" mFI fI fdI)(bI:L2.Binds K fdI ["self","place"] [])(G:GR P w K mg base C fE fH fW fS fdE fdH fdW fdS)
  (FN:Fun K "is_name" "is_name" pk fN fdN) (hN:mg "is_name"=some (.ref fN)) (bN:L2.Binds K fdN ["word"] []):aF P w K mg base (CXF P w CF) 4 f fd ["self"] (tX C CF):=by
 have GI:aF P w K mg base CX0 1 fI fdI ["self","place"] (Cd CF):=Am FI TFt;have GN:aF P w K mg base CX0 1 fN fdN ["word"] (Ak K):=B8 FN T;refine yg F tY (fun vs H Q E h=>?_) (fun cdv A outer s H vs Q E hr h=>?_)
 ·obtain ⟨a,z,e,rem,rfl,_⟩:=h;rfl
 ·obtain ⟨a,⟨dx,l,rs,ws⟩,e,rem,rfl,⟨k,h1,⟨h2,h3⟩,le,hrem⟩,q⟩:=h;have rd:lR C H a ws e k:=⟨⟨dx,l,rs,h1,h2,h3⟩,le⟩;dsimp only at hrem;have nd:=tY.nd;refine ⟨_,ag (az (i:=1) nd rfl (Or.inl rfl) (bb (pv 0) R.cl G.mw G.gw (hr.mono (by decide)) G.bw .nil aE))
   (ag (a0 (cq (bf (aD GN (hr.mono (by decide)) rfl hN FN.kp bN .nil aE (aa (pv 1) ah)))) (ai (e8 TFt.xm GI (hr.mono (by decide)) rfl bc (by rfl) TFt.at_ bI (aa (bb (pv 0) R.cl G.mh G.gh (hr.mono (by decide)) G.bh .nil aE) ah))) aO)
   (ag (eQ (pv 0) au pZ) (ai (ay (pv 1))))),?_⟩
  refine ⟨_,rfl,a,dx,_,rfl,h1,bJ noW,a,dx,l,rs,ws,e,k,rfl,h1,h2,h3,le,fun H1 p s1 hp hG=>⟨_,rfl,p,_,rfl,SqL.of hp,fun H2 s2=>⟨_,rfl,?_⟩⟩⟩;have s12:=s1.trans s2;have h1':=s12 _ _ h1;cases hs:isName (cA (ws.drop k)) with
  | true=>
   have hk:k<ws.length:=tW fun z=>by
    rw [z] at hs;exact absurd hs (by decide)
   obtain ⟨pl,wd,g1,g2⟩:=drop_one hk;obtain ⟨r,pv0,hr1,hr2⟩:=hG hk;rw [g2] at hs hrem hp;subst hrem;rw [ET (show isName wd=true from hs)] at q;refine b0 ?_;have npa:p≠a:=aW (s2 _ _ hp) h1' (by intro z; cases z);refine ⟨_,rfl,a,C,dx,_,_,rfl,h1',R.cl,R.nP,F7 _ _ _,_,_,rfl,rfl,dx,_,h1',(by show 3<1000; decide),_,rfl,?_⟩;refine q _ p (Rd.pass h1' (s12 _ _ h2) (h3.mono s12) hk) (bu _ _ (s2 _ _ hp) npa) npa (fun G sG rG=>?_) ((aI.of s12).trans bu);obtain ⟨r',q',e3,e4,e5⟩:=aT.at_ rG.2 g1;have e3':(rs.map V.ref)[k]? = some (.ref r'):=e3;rw [hr1] at e3';cases e3';have e6:=sG _ _ e4;rw [aq (aW (s2 _ _ hr2) h1' (by intro z; cases z)),s2 _ _ hr2] at e6;cases e6;exact e5
  | false=>
   rw [hrem] at hs;rw [IM hs] at q;refine bz ?_;refine ⟨_,rfl,a,dx,_,rfl,h1',bJ noH,a,ws,e,k,rfl,rd.same s12,(by show 1≤sizeLine; decide),?_⟩;rw [hrem];exact raised fun H' ea d fl s3=>q H' ea d fl (s12.trans s3)
end
theorem EU:∀ (l:List Nat) (v:Nat),v*10 ^ l.length≤l.foldl (fun v d=>v*10+d) v
 | [],v=>by simp
 | d::l,v=>by
  have ih:=EU l (v*10+d);rw [foldl_cons,length_cons,pow_succ];refine le_trans ?_ ih;rw [← Nat.mul_assoc,Nat.mul_right_comm];exact Nat.mul_le_mul_right _ (Nat.le_add_right _ _)
theorem F8{t:List Nat}(h:c7 t=true)(h4:4<t.length):10000≤worth t:=by
 cases t with
 | nil=>exact absurd h4 (by decide)
 | cons c r=>
  unfold c7 at h;rw [decide_eq_true (show 1<(c::r).length by omega),Bool.true_and,and_eq_true,and_eq_true,all_cons,and_eq_true] at h;obtain ⟨h1,_,h2,_⟩:=h;have hc:48≤c:=by
   unfold VbenCore.isDigit at h2;rw [and_eq_true,decide_eq_true_eq] at h2;exact h2.1
  have hn:c≠48:=fun z=>by
   rw [z] at h1;exact absurd h1 Bool.false_ne_true
  have e:worth (c::r)=(r.map fun c=>c-48).foldl (fun v d=>v*10+d) (0*10+(c-48)):=rfl;rw [e];refine le_trans ?_ (EU _ _);rw [length_map];have l1:10 ^ 4≤10 ^ r.length:=Nat.pow_le_pow_right (by decide) (by rw [length_cons] at h4; omega);have l2:1*10 ^ r.length≤(0*10+(c-48))*10 ^ r.length:=Nat.mul_le_mul_right _ (by omega);omega
theorem wU{t:List Nat}(h:c7 t=true)(h3:t.length≤300):natOf t=some (worth t):=by
 unfold c7 at h;rw [and_eq_true,and_eq_true,Bool.not_eq_true'] at h;obtain ⟨h1,h2,h4⟩:=h;unfold VbenCore.natOf;rw [if_neg]
 ·rfl
 ·rintro (z | z | z | z)
  ·rw [isEmpty_iff] at z;rw [z] at h2;exact absurd h2 (by decide)
  ·unfold VbenCore.MOSTDIGITS at z;omega
  ·rw [h4] at z;cases z
  ·unfold VbenCore.isZeroLed at z;rw [Bool.and_comm] at z;rw [z] at h1;cases h1
theorem F9{t:List Nat}(h:c7 t=false):natOf t=none:=by
 unfold VbenCore.natOf;refine if_pos ?_;unfold c7 at h;rw [and_eq_false_iff,Bool.not_eq_false',and_eq_false_iff] at h;rcases h with h | h | h
 ·right; right; right;unfold VbenCore.isZeroLed;rw [Bool.and_comm];exact h
 ·left;rw [decide_eq_false_iff_not] at h;rw [isEmpty_iff];exact length_eq_zero_iff.mp (by omega)
 ·right; right; left;exact h
theorem IP{e lo hi p:Nat}{w:List Nat}{r:List (Nat×List Nat)}(hh:hi≤9999)(h:c7 w=false∨4<w.length):num e lo hi ((p,w)::r) = .error p:=by
 show (match natOf w with | some n=>if lo≤n∧n≤hi then .ok (n,r) else .error p | none=>.error p)=Except.error p;cases hd:c7 w with
 | false=>rw [F9 hd]
 | true=>
  have h4:4<w.length:=by
   rcases h with h | h
   ·rw [hd] at h;cases h
   ·exact h
  cases hn:natOf w with
  | none=>rfl
  | some n=>
   have h3:w.length≤300:=by
    refine Nat.le_of_not_lt fun z=>?_;unfold VbenCore.natOf at hn;rw [if_pos (show w.isEmpty=true∨MOSTDIGITS<w.length∨w.all isDigit=false∨isZeroLed w=true from Or.inr (Or.inl z))] at hn;cases hn
   rw [wU hd h3] at hn;have big:=F8 hd h4;cases hn;exact if_neg (fun z=>by omega)
theorem OW{e lo hi p:Nat}{w:List Nat}{r:List (Nat×List Nat)}(h:c7 w=true)(h4:w.length≤4):num e lo hi ((p,w)::r)=if lo≤worth w∧worth w≤hi then .ok (worth w,r) else .error p:=by
 show (match natOf w with | some n=>if lo≤n∧n≤hi then Except.ok (n,r) else Except.error p | none=>Except.error p)=_;rw [wU h (by omega)]
theorem EV{e lo hi:Nat}{rem:List (Nat×List Nat)}(hh:hi≤9999)(h:c7 (cA rem)=false∨4<(cA rem).length):num e lo hi rem = .error (VbenCore.placeOf e rem):=by
 cases rem with
 | nil=>rfl
 | cons x r=>exact IP (p:=x.1) (w:=x.2) hh h
section
variable {P:Program}{w:World}{K:PySem.W.Frag}{mg:Str→Option Value}{base:Heap}
def wV(C CF:Addr):Sp:=fun vs H Q E=>∃ (a:Addr) (z:Rz) (lo hi e:Nat) (rem:List (Nat×List Nat)),vs=[.ref a,.int (lo:Int),.int (hi:Int)]∧hi≤9999∧Rd C H a z e rem∧(cA rem).length<sizeLine ∧
 match num e lo hi rem with
 | .ok r=>∀ (H':Hp),Rd C H' a z e r.2→aI a H H'→Q (.int (r.1:Int)) H'
 | .error p=>∀ (H':Hp) (ea d:Addr),Flt CF H' ea d p→aj H H'→E (.ref ea) (some d) H'
theorem wW:ax ["self","least","most","word","number"] ["self","least","most"] (ao OP):=⟨rfl,rfl,rfl,by decide +kernel,rfl,by decide +kernel,by decide +kernel⟩
theorem An{f C CF fI fE fH fW fS fD fN:Addr}{fd fdI fdE fdH fdW fdS fdD fdN:FuncData}(F:Fun K "take_decimal" "Reader.take_decimal" OP f fd)(T:TW mg)(R:TR K C)(TFt:TF K mg CF fI)(FI:Fun K "__init__" "Fault.__init__" mFI fI fdI)(bI:L2.Binds K fdI ["self","place"] [])(G:GR P w K mg base C fE fH fW fS fdE fdH fdW fdS)
  (FD:Fun K "is_decimal" "is_decimal" fe fD fdD) (hD:mg "is_decimal"=some (.ref fD)) (bD:L2.Binds K fdD ["word"] []) (FN:Fun K "number_of" "number_of" lE fN fdN) (hN:mg "number_of"=some (.ref fN)) (bN:L2.Binds K fdN ["decimal"] []) :
  aF P w K mg base (CXF P w CF) 4 f fd ["self","least","most"] (wV C CF):=by
 have GI:aF P w K mg base CX0 1 fI fdI ["self","place"] (Cd CF):=Am FI TFt;have GD:aF P w K mg base CX0 1 fD fdD ["word"] (EN K):=vw FD T;have GN:aF P w K mg base CX0 1 fN fdN ["decimal"] (tR K):=yo FN T;refine yg F wW (fun vs H Q E h=>?_) (fun cdv A outer s H vs Q E hr h=>?_)
 ·obtain ⟨a,z,lo,hi,e,rem,rfl,_⟩:=h;rfl
 ·obtain ⟨a,⟨dx,l,rs,ws⟩,lo,hi,e,rem,rfl,hh,⟨k,h1,⟨h2,h3⟩,le,hrem⟩,hz,q⟩:=h;have rd:lR C H a ws e k:=⟨⟨dx,l,rs,h1,h2,h3⟩,le⟩;dsimp only at hrem;have nd:=wW.nd;refine ⟨_,ag (az (i:=3) nd rfl (Or.inl rfl) (bb (pv 0) R.cl G.mw G.gw (hr.mono (by decide)) G.bw .nil aE))
   (ag (a0 (PW.pt (jB (cq (bf (aD GD (hr.mono (by decide)) rfl hD FD.kp bD .nil aE (aa (pv 3) ah)))) (hJ (aK eJ (aJ aC (by rfl) T.ln PySem.boot_len (aa (pv 3) ah)) (aY T.md) (aN _)))))
    (ai (e8 TFt.xm GI (hr.mono (by decide)) rfl bc (by rfl) TFt.at_ bI (aa (bb (pv 0) R.cl G.mh G.gh (hr.mono (by decide)) G.bh .nil aE) ah))) aO)
   (ag (az (i:=4) nd rfl (Or.inl rfl) (aD GN (hr.mono (by decide)) rfl hN FN.kp bN .nil aE (aa (pv 3) ah)))
   (ag (a0 (PW.pt (jB (aK eZ (pv 4) (pv 1) (aN _)) (hJ (aK eJ (pv 4) (pv 2) (aN _)))))
    (ai (e8 TFt.xm GI (hr.mono (by decide)) rfl bc (by rfl) TFt.at_ bI (aa (bb (pv 0) R.cl G.mh G.gh (hr.mono (by decide)) G.bh .nil aE) ah))) aO)
   (ag (eQ (pv 0) au pZ) (ai (ay (pv 4))))))),?_⟩
  refine ⟨_,rfl,a,dx,_,rfl,h1,bJ noW,a,dx,l,rs,ws,e,k,rfl,h1,h2,h3,le,fun H1 p s1 hp _=>⟨_,rfl,p,_,rfl,SqL.of hp,by rw [hrem]; exact hz,fun H2 s2=>⟨_,rfl,?_⟩⟩⟩;have s12:=s1.trans s2;have h1':=s12 _ _ h1;have hp2:=s2 _ _ hp;rw [hrem] at hp2 ⊢;have hlen:((vzs (cA rem)).length:Int)=((cA rem).length:Int):=by rw [length_map,length_map]
  cases hs:c7 (cA rem) with
  | false=>
   rw [EV hh (.inl hs)] at q;refine bz (bz ?_);refine ⟨_,rfl,a,dx,_,rfl,h1',bJ noH,a,ws,e,k,rfl,rd.same s12,(by show 1≤sizeLine; decide),?_⟩;rw [hrem];exact raised fun H' ea d fl s3=>q H' ea d fl (s12.trans s3)
  | true=>
   refine b0 ?_;refine ⟨_,rfl,p,_,rfl,.inl (SqL.of hp2),_,_,rfl,rfl,_,rfl,cg (fun h4=>?_) fun h4=>?_⟩
   ·rw [hlen] at h4;rw [EV hh (.inr (by omega))] at q;refine ⟨_,rfl,a,dx,_,rfl,h1',bJ noH,a,ws,e,k,rfl,rd.same s12,(by show 1≤sizeLine; decide),?_⟩;rw [hrem];exact raised fun H' ea d fl s3=>q H' ea d fl (s12.trans s3)
   ·rw [hlen] at h4;have hne:cA rem≠[]:=fun z=>by
     rw [z] at hs;exact absurd hs (by decide)
    have hk:k<ws.length:=tW (by rw [hrem]; exact hne);obtain ⟨pl,wd,g1,g2⟩:=drop_one hk;have hdig:(cA rem).all isDigit=true:=by
     unfold c7 at hs;rw [and_eq_true,and_eq_true] at hs;exact hs.2.2
    refine ⟨_,rfl,p,_,rfl,SqL.of hp2,hdig,?_⟩;rw [← hrem,g2] at q hs h4 hdig ⊢;rw [OW (show c7 wd=true from hs) (by have:wd.length=(cA ((pl,wd)::ws.drop (k+1))).length:=rfl; omega)] at q;have fl0:∀ (H':Hp) (ea d:Addr),¬ (lo≤worth wd∧worth wd≤hi)→Flt CF H' ea d (VbenCore.placeOf e (ws.drop k))→aj H2 H'→E (.ref ea) (some d) H':=fun H' ea d n fl s3=>by
     rw [if_neg n] at q;rw [g2] at fl;exact q H' ea d fl (s12.trans s3)
    refine ⟨_,rfl,_,rfl,_,_,rfl,rfl,_,rfl,cg (fun h5=>?_) fun h5=>⟨_,rfl,_,rfl,_,_,rfl,rfl,_,rfl,cg (fun h6=>?_) fun h6=>?_⟩⟩
    ·refine bz ?_;refine ⟨_,rfl,a,dx,_,rfl,h1',bJ noH,a,ws,e,k,rfl,rd.same s12,(by show 1≤sizeLine; decide),?_⟩;exact raised fun H' ea d fl s3=>fl0 H' ea d (fun z=>by have:((worth wd:Nat):Int)<(lo:Int):=h5; omega) fl s3
    ·refine ⟨_,rfl,a,dx,_,rfl,h1',bJ noH,a,ws,e,k,rfl,rd.same s12,(by show 1≤sizeLine; decide),?_⟩;exact raised fun H' ea d fl s3=>fl0 H' ea d (fun z=>by have:(hi:Int)<((worth wd:Nat):Int):=h6; omega) fl s3
    ·have ok:lo≤worth wd∧worth wd≤hi:=by
      have a1:¬ ((worth wd:Nat):Int)<(lo:Int):=h5;have a2:¬ (hi:Int)<((worth wd:Nat):Int):=h6;omega
     rw [if_pos ok] at q;refine ⟨_,rfl,a,C,dx,_,_,rfl,h1',R.cl,R.nP,F7 _ _ _,_,_,rfl,rfl,dx,_,h1',(by show 3<1000; decide),_,rfl,?_⟩;exact q _ (Rd.pass h1' (s12 _ _ h2) (h3.mono s12) hk) ((aI.of s12).trans bu)
end
abbrev jW:Stmt:=top 24
abbrev mI:Stmt:=top 25
abbrev pz:Stmt:=top 26
theorem lF(a b:Nat):Builtin.bitAnd (a:Int) (b:Int)=((a &&& b:Nat):Int):=by
 rw [bitAnd_pp (by omega) (by omega),toNat_natCast,toNat_natCast]
theorem yu(a b:Nat):Builtin.bitOr (a:Int) (b:Int)=((a ||| b:Nat):Int):=by
 have h1:¬ 0≤Builtin.bitNot (a:Int):=by unfold Builtin.bitNot; omega
 have h2:¬ 0≤Builtin.bitNot (b:Int):=by unfold Builtin.bitNot; omega
 have e1:Builtin.bitNot (Builtin.bitNot (a:Int))=(a:Int):=by unfold Builtin.bitNot; omega
 have e2:Builtin.bitNot (Builtin.bitNot (b:Int))=(b:Int):=by unfold Builtin.bitNot; omega
 unfold Builtin.bitOr Builtin.bitAnd;rw [decide_eq_false h1,decide_eq_false h2];dsimp only;rw [e1,e2,toNat_natCast,toNat_natCast];unfold Builtin.bitNot;omega
theorem bj(l:List Nat)(x:Nat):vzs (l++[x])=vzs l++[.int (x:Int)]:=by
 show ((l++[x]).map fun (n:Nat)=>(n:Int)).map V.int=_;rw [map_append,map_append];rfl
theorem Ga{m:List Nat}{i h:Nat}(e:m[i]? = some h):mask (m.take (i+1))=mask (m.take i) ||| bit h:=by
 unfold mask;rw [take_snoc e,foldl_append];rfl
section
variable {P:Program}{w:World}{K:PySem.W.Frag}{mg:Str→Option Value}{base:Heap}
def eV:Sp:=fun vs H Q _=>∃ h:Nat,vs=[.int (h:Int)]∧1≤h∧h≤1000∧Q (.int (bit h:Int)) H
theorem Gb:ax ["hole"] ["hole"] (ao jW):=⟨rfl,rfl,rfl,by decide +kernel,rfl,by decide +kernel,by decide +kernel⟩
theorem jX{f:Addr}{fd:FuncData}(F:Fun K "notch_at" "notch_at" jW f fd):aF P w K mg base CX0 1 f fd ["hole"] eV:=by
 refine F.ok Gb (fun vs H Q E h=>?_) (fun cdv A outer s H vs Q E hr h=>?_)
 ·obtain ⟨x,rfl,_⟩:=h;rfl
 ·obtain ⟨x,rfl,h1,h2,q⟩:=h;refine ⟨_,ai (ay (aU Od au (aU cX (pv 0) au))),?_⟩;refine ⟨_,rfl,_,_,rfl,rfl,_,_,rfl,rfl,⟨by show (0:Int)≤(x:Int)-1; omega,by show (x:Int)-1≤1000000; omega,by decide⟩,?_⟩;have e:(1:Int)*2 ^ ((x:Int)-1).toNat=((bit x:Nat):Int):=by
   unfold bit;rw [show ((x:Int)-1).toNat=x-1 by omega,Int.one_mul];simp
  show Q (V.int ((1:Int)*2 ^ ((x:Int)-1).toNat)) H;rw [e];exact q
def cG(K:PySem.W.Frag):Sp:=fun vs H Q _=>∃ (a:Addr) (m:List Nat),vs=[.ref a]∧SqL K H a (vzs m)∧(∀ h∈m,1≤h∧h≤1000)∧Q (.int (mask m:Int)) H
theorem qW:ax ["marks","notches","hole"] ["marks"] (ao mI):=⟨rfl,rfl,rfl,by decide +kernel,rfl,by decide +kernel,by decide +kernel⟩
theorem vx{f fA:Addr}{fd fdA:FuncData}(F:Fun K "notches_of" "notches_of" mI f fd)(FA:Fun K "notch_at" "notch_at" jW fA fdA)(hA:mg "notch_at"=some (.ref fA))(bA:L2.Binds K fdA ["hole"] []):aF P w K mg base CX0 2 f fd ["marks"] (cG K):=by
 have GA:aF P w K mg base CX0 1 fA fdA ["hole"] eV:=jX FA;refine F.ok qW (fun vs H Q E h=>?_) (fun cdv A outer s H vs Q E hr h=>?_)
 ·obtain ⟨a,m,rfl,_⟩:=h;rfl
 ·obtain ⟨a,m,rfl,ha,hm,k⟩:=h;have nd:=qW.nd;refine ⟨_,ag (az (i:=1) nd rfl (Or.inl rfl) au) (ag (cu PassesOwn.never rfl (cI (pv 0)) (aM (i:=2) nd rfl (Or.inl rfl)) (ai (mj (i:=1) nd rfl (Or.inl rfl) (aD GA hr rfl hA FA.kp bA .nil aE (aa (pv 2) ah)) Of))) (ai (ay (pv 1)))),?_⟩;refine ⟨_,rfl,a,rfl,⟨_,ha⟩,jI (K:=K) (a:=a) (xs:=vzs m) (fun i σ H'=>H'=H∧∃ v:Option V,σ=[some (.ref a),some (.int (mask (m.take i):Int)),v]) ⟨rfl,none,rfl⟩ (fun i σ H' _ ⟨e,_⟩=>by rw [e]; exact ha) ?_ ?_⟩
  ·rintro i x σ H' hi ⟨rfl,v,rfl⟩;obtain ⟨c,hc,rfl⟩:=de hi;obtain ⟨c1,c2⟩:=hm c (mem_of_getElem? hc);refine ⟨_,rfl,_,rfl,c,rfl,c1,c2,_,_,rfl,rfl,rfl,some (.int (c:Int)),?_⟩;show [some (V.ref a),some (V.int (Builtin.bitOr (mask (m.take i):Int) (bit c:Int))),some (V.int (c:Int))]=_;rw [yu,← Ga hc]
  ·rintro σ H' ⟨rfl,v,rfl⟩;rw [length_map,length_map,take_length];exact ⟨_,rfl,k⟩
def lG:Sp:=fun vs H Q _=>∃ (n h:Nat),vs=[.int (n:Int),.int (h:Int)]∧h≤1000∧∀ p,H p=none→Q (.ref p) (upd H p (.lst (vzs (marks n h))))
theorem wX:ax ["notches","holes","hole"] ["notches","holes"] (ao pz):=⟨rfl,rfl,rfl,by decide +kernel,rfl,by decide +kernel,by decide +kernel⟩
theorem Ce(n:Nat):range' 1 (n+1)=range' 1 n++[n+1]:=by
 rw [range'_concat];congr 2;omega
theorem Ao{f fA:Addr}{fd fdA:FuncData}(F:Fun K "marks_of" "marks_of" pz f fd)(hR:mg "range"=none)(FA:Fun K "notch_at" "notch_at" jW fA fdA)(hA:mg "notch_at"=some (.ref fA))(bA:L2.Binds K fdA ["hole"] []):aF P w K mg base CX0 2 f fd ["notches","holes"] lG:=by
 have GA:aF P w K mg base CX0 1 fA fdA ["hole"] eV:=jX FA;refine F.ok wX (fun vs H Q E h=>?_) (fun cdv A outer s H vs Q E hr h=>?_)
 ·obtain ⟨n,h,rfl,_⟩:=h;rfl
 ·obtain ⟨n,h,rfl,hh,k⟩:=h;have nd:=wX.nd;refine ⟨_,ai (ay (lW (own:=[("hole",2)]) rfl nd (iG rfl hR (aa au (aa (aU cz (pv 1) au) ah))) (cy (by show lQ ["notches","holes","hole"] (ao pz) _ _=true; decide +kernel)) (fun s H C cl fp=>aM (i:=2) nd rfl (Or.inl rfl))
   (fun s H C cl fp=>oM (aK sM (aU pW (pv 0) (aD GA hr rfl hA FA.kp bA .nil aE (aa (pv 2) ah))) au (aN _))) (fun s H C cl fp=>pv 2))),?_⟩
  refine ⟨_,rfl,_,_,rfl,rfl,_,_,rfl,⟨by decide,by decide,by omega,by omega⟩,fun D hD=>?_⟩;rw [show ((h:Int)+1-1).toNat=h by omega];refine zL (fun i H'=>H'=upd H D (.lst (vzs ((range' 1 i).filter fun h=>n &&& bit h != 0)))) rfl (fun i H' hi e=>?_) fun H' e=>?_
  ·subst e;refine ⟨rfl,?_⟩;have e1:((1:Int)+(i:Int))=((i+1:Nat):Int):=by omega
   rw [e1];refine ⟨_,rfl,_,rfl,i+1,rfl,by omega,by omega,_,_,rfl,rfl,rfl,_,rfl,?_⟩;show if (!decide (V.int (Builtin.bitAnd (n:Int) (bit (i+1):Int))=V.int 0))=true then _ else _
   rw [lF];have e2:(!decide (V.int ((n &&& bit (i+1):Nat):Int)=V.int 0))=(n &&& bit (i+1) != 0):=by
    rw [show decide (V.int ((n &&& bit (i+1):Nat):Int)=V.int 0)=(n &&& bit (i+1)==0) by rw [Bool.eq_iff_iff,decide_eq_true_eq,beq_iff_eq]; exact ⟨fun z=>b8 (b:=0) z,fun z=>by rw [z]; rfl⟩];rfl
   rw [e2,Ce,filter_append];cases hb:(n &&& bit (i+1) != 0) with
   | true=>
    refine bz ⟨_,rfl,_,ae,?_,?_⟩
    ·rw [length_map,length_map,sizeLine_eq];have:=length_filter_le (fun h=>n &&& bit h != 0) (range' 1 i);rw [length_range'] at this;omega
    ·rw [bQ,filter_cons_of_pos (p:=fun h=>n &&& bit h != 0) (a:=i+1) hb,filter_nil,bj]
   | false=>
    refine b0 ?_;rw [filter_cons_of_neg (p:=fun h=>n &&& bit h != 0) (a:=i+1) (by show ¬ (n &&& bit (i+1) != 0)=true; rw [hb]; exact Bool.false_ne_true),filter_nil,append_nil]
  ·subst e;exact k D hD
end
abbrev mJ:Stmt:=top 32
def cE(e most:Nat):Nat→Nat→List (Nat×List Nat)→Except Nat (List Nat×List (Nat×List Nat))
 | 0,_,ws=>.error (VbenCore.placeOf e ws)
 | f+1,lo,ws=>match num e lo most ws with
  | .error p=>.error p
  | .ok x=>if lineEnds x.2=true then .ok ([x.1],x.2) else match cE e most f (x.1+1) x.2 with
   | .error p=>.error p
   | .ok y=>.ok (x.1::y.1,y.2)
def pOn(e most f last:Nat)(m:List Nat)(ws:List (Nat×List Nat)):Except Nat (List Nat×List (Nat×List Nat)):=
 if lineEnds ws=true then .ok (m,ws) else match cE e most f (last+1) ws with
  | .error p=>.error p
  | .ok y=>.ok (m++y.1,y.2)
theorem yx{e most f lo:Nat}{ws:List (Nat×List Nat)}:cE e most (f+1) lo ws=match num e lo most ws with
  | .error p=>.error p
  | .ok x=>pOn e most f x.1 [x.1] x.2:=by
 unfold pOn;rw [cE];rfl
theorem IQ{e most f last:Nat}{m:List Nat}{ws:List (Nat×List Nat)}(h:lineEnds ws=false):pOn e most (f+1) last m ws=match num e (last+1) most ws with
  | .error p=>.error p
  | .ok x=>pOn e most f x.1 (m++[x.1]) x.2:=by
 unfold pOn;rw [if_neg (by rw [h]; exact Bool.false_ne_true),cE];cases num e (last+1) most ws with
 | error p=>rfl
 | ok x=>
  show (match (if lineEnds x.2=true then Except.ok ([x.1],x.2) else match cE e most f (x.1+1) x.2 with
   | .error p=>.error p
   | .ok y=>.ok (x.1::y.1,y.2)) with
   | Except.error p=>Except.error p
   | Except.ok y=>Except.ok (m++y.1,y.2))=if lineEnds x.2=true then Except.ok (m++[x.1],x.2) else match cE e most f (x.1+1) x.2 with
    | .error p=>.error p
    | .ok y=>.ok (m++[x.1]++y.1,y.2)
  by_cases hl:lineEnds x.2=true
  ·rw [if_pos hl,if_pos hl]
  ·rw [if_neg hl,if_neg hl];cases cE e most f (x.1+1) x.2 with
   | error p=>rfl
   | ok y=>
    show Except.ok (m++x.1::y.1,y.2)=Except.ok (m++[x.1]++y.1,y.2);rw [append_assoc];rfl
theorem dk{e lo hi:Nat}{ws:List (Nat×List Nat)}{x:Nat×List (Nat×List Nat)}(h:num e lo hi ws = .ok x):lo≤x.1∧x.1≤hi∧∃ p w,ws=(p,w)::x.2:=by
 cases ws with
 | nil=>cases h
 | cons y r=>
  unfold Vbenab.num at h;dsimp only at h;split at h
  ·split at h
   ·rename_i n _ hn
    cases h;exact ⟨hn.1,hn.2,y.1,y.2,rfl⟩
   ·cases h
  ·cases h
theorem qp(ws:List (Nat×List Nat)):lineEnds ws=(ws.isEmpty || (cA ws==[10])):=by
 unfold Vbenab.lineEnds;cases ws with
 | nil=>rfl
 | cons x r=>rfl
def Short(ws:List (Nat×List Nat)):Prop:=∀ x∈ws,x.2.length<sizeLine
theorem Short.head{ws:List (Nat×List Nat)}(h:Short ws):(cA ws).length<sizeLine:=by
 cases ws with
 | nil=>exact (by decide:0<sizeLine)
 | cons x r=>exact h x mem_cons_self
theorem Short.tail{x:Nat×List Nat}{r:List (Nat×List Nat)}(h:Short (x::r)):Short r:=fun y hy=>h y (mem_cons_of_mem _ hy)
structure GX(P:Program)(w:World)(K:PySem.W.Frag)(mg:Str→Option Value)(base:Heap)(C CF fK fN fD:Addr)(fdK fdN fdD:FuncData):Prop where
 gk:aF P w K mg base (CXF P w CF) 4 fK fdK ["self","signs"] (IL C CF)
 gn:aF P w K mg base (CXF P w CF) 4 fN fdN ["self"] (tX C CF)
 gd:aF P w K mg base (CXF P w CF) 4 fD fdD ["self","least","most"] (wV C CF)
 ms:Meth K C "skip" fK
 mn:Meth K C "take_name" fN
 md:Meth K C "take_decimal" fD
 bk:L2.Binds K fdK ["self","signs"] []
 bn:L2.Binds K fdN ["self"] []
 bd:L2.Binds K fdD ["self","least","most"] []
theorem noD:(("take_decimal":Str)==("words":Str))=false∧(("take_decimal":Str)==("length":Str))=false∧(("take_decimal":Str)==("passed":Str))=false:=by decide +kernel
theorem noN:(("take_name":Str)==("words":Str))=false∧(("take_name":Str)==("length":Str))=false∧(("take_name":Str)==("passed":Str))=false:=by decide +kernel
theorem noK:(("skip":Str)==("words":Str))=false∧(("skip":Str)==("length":Str))=false∧(("skip":Str)==("passed":Str))=false:=by decide +kernel
theorem Rd.obj{C:Addr}{H:Hp}{a:Addr}{z:Rz}{e:Nat}{rem:List (Nat×List Nat)}(r:Rd C H a z e rem):∃ dx l k,H a=some (.ins C dx (rf l e k)):=by
 obtain ⟨k,h1,_⟩:=r;exact ⟨_,_,k,h1⟩
theorem Rs.cR{H H':Hp}{z:Rz}{a C dx:Addr}{fs:List (Str×V)}(r:Rs H z)(ha:H a=some (.ins C dx fs))(u:aI a H H'):Rs H' z:=
 ⟨u _ _ r.1 (aW r.1 ha (by intro z; cases z)),aT.cR ha (fun _ z=>nomatch z) (fun _ z=>nomatch z) u r.2⟩
theorem dw{a p:Addr}{H H':Hp}(u:aI a H H'):aI a (but p H) (but p H'):=fun b o e n=>aR (cC e).1 (u b o (cC e).2 n)
theorem qr{p:Addr}{H:Hp}(h:H p=none):aj H (but p H):=fun _ _ e=>aR (ak e h) e
theorem pA:codes "\n"=zs [10]:=by decide +kernel
def WM(C:Addr)(H:Hp)(a p:Addr)(z:Rz)(e most:Nat)(r0:Except Nat (List Nat×List (Nat×List Nat)))(m:Nat)(σ:L2.St)(H':Hp):Prop:=
 ∃ (last f:Nat) (mk:List Nat) (rem':List (Nat×List Nat)),σ=[some (.ref a),some (.int (most:Int)),some (.int (last:Int)),some (.ref p)]∧H' p=some (.lst (vzs mk))∧Rd C H' a z e rem'∧Rs (but p H') z∧aI a H H'∧Short rem' ∧
  m=most-last∧last≤most∧9≤f+last∧mk.length≤last∧r0=pOn e most f last mk rem'
section
variable {P:Program}{w:World}{K:PySem.W.Frag}{mg:Str→Option Value}{base:Heap}
def jY(C CF:Addr):Sp:=fun vs H Q E=>∃ (a:Addr) (z:Rz) (most e:Nat) (rem:List (Nat×List Nat)),vs=[.ref a,.int (most:Int)]∧most≤8∧Rd C H a z e rem∧Short rem ∧
 match cE e most 9 1 rem with
 | .ok y=>∀ (H':Hp) (p:Addr),Rd C H' a z e y.2→Short y.2→H' p=some (.lst (vzs y.1))→H p=none→aI a H H'→Q (.ref p) H'
 | .error p=>∀ (H':Hp) (ea d:Addr),Flt CF H' ea d p→aI a H H'→E (.ref ea) (some d) H'
theorem qX:ax ["reader","holes","last","marks"] ["reader","holes"] (ao mJ):=⟨rfl,rfl,rfl,by decide +kernel,rfl,by decide +kernel,by decide +kernel⟩
theorem vy{f C CF fI fE fH fW fS fK fN fD:Addr}{fd fdI fdE fdH fdW fdS fdK fdN fdD:FuncData}(F:Fun K "read_marks" "read_marks" mJ f fd)(R:TR K C)(G:GR P w K mg base C fE fH fW fS fdE fdH fdW fdS)(X:GX P w K mg base C CF fK fN fD fdK fdN fdD) :
  aF P w K mg base (CXF P w CF) 5 f fd ["reader","holes"] (jY C CF):=by
 refine yg F qX (fun vs H Q E h=>?_) (fun cdv A outer s H vs Q E hr h=>?_)
 ·obtain ⟨a,z,most,e,rem,rfl,_⟩:=h;rfl
 ·obtain ⟨a,z,most,e,rem,rfl,hm,rd,sh,q⟩:=h;have nd:=qX.nd;refine ⟨_,ag (az (i:=2) nd rfl (Or.inl rfl) (aZ (pv 0) R.cl X.md X.gd hr X.bd .nil bc.passes (aa au (aa (pv 1) ah))))
   (ag (az (i:=3) nd rfl (Or.inl rfl) (aH (aa (pv 2) ah)))
   (ag (cS PassesOwn.leaving (PW.pt (sE (cq (bf (bb (pv 0) R.cl G.me G.ge (hr.mono (by decide)) G.be .nil aE))) (oE (cq (bf (aZ (pv 0) R.cl G.ms G.gs (hr.mono (by decide)) G.bs .nil aE (aa dq ah)))))))
    (ag (az (i:=2) nd rfl (Or.inl rfl) (aZ (pv 0) R.cl X.md X.gd hr X.bd .nil bc.passes (aa (aU cz (pv 2) au) (aa (pv 1) ah))))
    (ai (aV (c5 plainAttrs_list PySem.F.slot_list_append PySem.F.type_list_append br (pv 3) (aa (pv 2) ah))))))
   (ai (ay (pv 3))))),?_⟩
  obtain ⟨dx,l,k,h1⟩:=rd.obj;refine ⟨_,rfl,a,dx,_,rfl,h1,bJ noD,_,rfl,a,z,1,most,e,rem,rfl,by omega,rd,sh.head,?_⟩;rw [yx] at q;cases hn:num e 1 most rem with
  | error p=>
   rw [hn] at q;exact fun H' ea d fl s1=>q H' ea d fl (aI.of s1)
  | ok x=>
   rw [hn] at q;dsimp only at q;obtain ⟨n1,n2,pp,ww,n3⟩:=dk hn;intro H1 rd1 u1;refine ⟨_,rfl,by show 1≤sizeLine; decide,fun p hp=>?_⟩;have s1:aj H1 (upd H1 p (.lst [.int (x.1:Int)])):=aj.new hp;have hpH:H p=none:=by
    cases zz:H p with
    | none=>rfl
    | some o=>
     by_cases hpa:p=a
     ·obtain ⟨dx1,l1,k1,o1⟩:=rd1.obj;rw [hpa,o1] at hp;cases hp
     ·rw [u1 p o zz hpa] at hp;cases hp
   have rs1:Rs H1 z:=by
    obtain ⟨_,_,r,_⟩:=rd1;exact r
   have sh1:Short x.2:=by
    rw [n3] at sh;exact sh.tail
   refine ⟨WM C H a p z e most (pOn e most 8 x.1 [x.1] x.2),⟨_,x.1,8,[x.1],x.2,rfl,ae,rd1.same s1,by rw [cb]; exact rs1.same (qr hp),u1.trans (aI.of s1),sh1,rfl,n2,by omega,n1,rfl⟩,?_⟩;rintro m σ H2 ⟨last,f,mk,rem',rfl,hp2,rd2,rs2,u2,sh2,rfl,hl,hf,hmk,heq⟩;obtain ⟨dx2,l2,k2,o2⟩:=rd2.obj;obtain ⟨k,hk1,hk2,hk3,hrem⟩:=id rd2;have rdk:lR C H2 a z.ws e k:=⟨⟨z.dx,z.l,z.rs,hk1,hk2.1,hk2.2⟩,hk3⟩;generalize z.ws=ws at rdk hrem;have npa:p≠a:=aW hp2 o2 (by intro z; cases z);have stop:∀ H3:Hp,aj H2 H3→lineEnds rem'=true→Q (.ref p) H3:=fun H3 s3 he=>by
    rw [heq] at q;unfold pOn at q;rw [if_pos he] at q;exact q H3 p (rd2.same s3) sh2 (s3 _ _ hp2) hpH (u2.trans (aI.of s3))
   refine ⟨_,rfl,a,dx2,_,rfl,o2,bJ noE,a,ws,e,k,rfl,rdk,_,rfl,?_⟩;by_cases hk:k=ws.length
   ·rw [decide_eq_true hk];refine b0 (b0 ⟨_,rfl,stop H2 aj.rfl ?_⟩);rw [← hrem,hk,drop_length];rfl
   ·rw [decide_eq_false hk];refine bz ⟨_,rfl,a,dx2,_,rfl,o2,bJ noS,a,"\n",ws,e,k,[10],rfl,rdk,pA,by decide +kernel,fun H3 s3=>⟨_,rfl,?_⟩⟩;rw [hrem];have hne:rem'.isEmpty=false:=by
     obtain ⟨p',w',_,g2⟩:=drop_one (show k<ws.length from Nat.lt_of_le_of_ne rdk.le hk);rw [← hrem,g2];rfl
    cases hs:(cA rem'==[10]) with
    | true=>
     refine b0 ⟨_,rfl,stop H3 s3 ?_⟩;rw [qp,hs,Bool.or_true]
    | false=>
     have hle:lineEnds rem'=false:=by rw [qp,hs,hne]; rfl
     refine bz ⟨fun σ' H'=>∃ m',m'<most-last∧WM C H a p z e most (pOn e most 8 x.1 [x.1] x.2) m' σ' H',fun _ _ z=>z,?_⟩;obtain ⟨f',rfl⟩:∃ f',f=f'+1:=⟨f-1,by omega⟩;rw [IQ hle] at heq;have rd3:=rd2.same s3;have e1:((last:Int)+1)=((last+1:Nat):Int):=by omega
     refine ⟨_,rfl,a,dx2,_,rfl,s3 _ _ o2,bJ noD,_,rfl,_,_,rfl,rfl,_,rfl,a,z,last+1,most,e,rem',rfl,by omega,rd3,sh2.head,?_⟩;cases hn2:num e (last+1) most rem' with
     | error p'=>
      rw [hn2] at heq;dsimp only at heq;rw [heq] at q;exact fun H' ea d fl s4=>q H' ea d fl ((u2.trans (aI.of s3)).trans (aI.of s4))
     | ok y=>
      rw [hn2] at heq;dsimp only at heq;obtain ⟨y1,y2,yp,yw,y3⟩:=dk hn2;intro H4 rd4 u4;have hp4:=u4 _ _ (s3 _ _ hp2) npa;refine ⟨_,rfl,.inl ⟨rfl,_,SqL.of hp4⟩,_,rfl,p,_,_,rfl,rfl,hp4,by rw [length_map,length_map,sizeLine_eq]; omega,?_⟩;obtain ⟨k4,o4,r4,k4l,k4e⟩:=id rd4;have rs5:Rs (but p (upd H4 p (.lst (vzs mk++[.int (y.1:Int)])))) z:=by
       rw [cb];exact (rs2.same (cD s3)).cR (aR (Ne.symm npa) (s3 _ _ o2)) (dw u4)
      have rd5:Rd C (upd H4 p (.lst (vzs mk++[.int (y.1:Int)]))) a z e y.2:=⟨k4,by rw [aq (Ne.symm npa)]; exact o4,rs5.same dv,k4l,k4e⟩;have u5:aI p H4 (upd H4 p (.lst (vzs mk++[.int (y.1:Int)]))):=bu;refine ⟨most-y.1,by omega,y.1,f',mk++[y.1],y.2,rfl,by rw [ae,bj],rd5,rs5,fun b o z n=>?_,?_,rfl,y2,by omega,?_,heq⟩
      ·by_cases hbp:b=p
       ·rw [hbp,hpH] at z;cases z
       ·exact u5 b o (u4 b o (s3 b o (u2 b o z n)) n) hbp
      ·rw [y3] at sh2;exact sh2.tail
      ·rw [length_append];show mk.length+1≤y.1;omega
end
abbrev mM:Stmt:=top 33
abbrev jZ:Stmt:=top 34
inductive aL(H:Hp):List Addr→List (List Nat)→Prop
 | nil:aL H [] []
 | cons {r:Addr} {rs:List Addr} {w:List Nat} {ws:List (List Nat)}:H r=some (.lst (vzs w))→aL H rs ws→aL H (r::rs) (w::ws)
theorem aL.mono{H H':Hp}(s:aj H H'):∀ {rs:List Addr} {ws:List (List Nat)},aL H rs ws→aL H' rs ws
 | _,_,.nil=>.nil
 | _,_,.cons a t=>.cons (s _ _ a) (aL.mono s t)
theorem aL.snoc{H:Hp}{r:Addr}{w:List Nat}(h:H r=some (.lst (vzs w))):∀ {rs:List Addr} {ws:List (List Nat)},aL H rs ws→aL H (rs++[r]) (ws++[w])
 | _,_,.nil=>.cons h .nil
 | _,_,.cons a t=>.cons a (aL.snoc h t)
theorem aL.len{H:Hp}:∀ {rs:List Addr} {ws:List (List Nat)},aL H rs ws→rs.length=ws.length
 | _,_,.nil=>rfl
 | _,_,.cons _ t=>by rw [length_cons,length_cons,aL.len t]
theorem aL.cR{H H':Hp}{a C dx:Addr}{fs:List (Str×V)}(ha:H a=some (.ins C dx fs))(u:aI a H H'):∀ {rs:List Addr} {ws:List (List Nat)},aL H rs ws→aL H' rs ws
 | _,_,.nil=>.nil
 | _,_,.cons h t=>.cons (u _ _ h (aW h ha (by intro z; cases z))) (aL.cR ha u t)
theorem aL.rows{K:PySem.W.Frag}{H:Hp}:∀ {rs:List Addr} {ws:List (List Nat)},aL H rs ws→LX.Rows K H rs (ws.map zs)
 | _,_,.nil=>.nil
 | _,_,.cons h t=>.cons (SqL.of h) (aL.rows t)
def dz(e most:Nat)(nm:List (List Nat))(ns:List Nat)(ws:List (Nat×List Nat)):Except Nat ((List Nat×List Nat)×List (Nat×List Nat)):=
 match VbenCore.must e (Vbenab.W "value") ws with
 | .error p=>.error p
 | .ok w1=>if nm.contains (cA w1)=true then .error (VbenCore.placeOf e w1) else match VbenCore.name e w1 with
  | .error p=>.error p
  | .ok n=>match cE e most 9 1 n.2 with
   | .error p=>.error p
   | .ok m=>if ns.contains (mask m.1)=true then .error (VbenCore.placeOf e m.2) else .ok ((n.1,m.1),m.2)
abbrev i4(p q:Addr)(H:Hp):Hp:=but p (but q H)
structure NV(C:Addr)(H:Hp)(a:Addr)(z:Rz)(e:Nat)(rem:List (Nat×List Nat))(pn pq:Addr)(nm:List (List Nat))(ns:List Nat):Prop where
 rd:Rd C H a z e rem
 sh:Short rem
 ne:pn≠pq
 at_:∃ rs:List Addr,H pn=some (.lst (rs.map V.ref))∧aL (i4 pn pq H) rs nm
 nt:H pq=some (.lst (vzs ns))
 st:Rs (i4 pn pq H) z
def cV(a p q:Addr)(H H':Hp):Prop:=∀ b o,H b=some o→b≠a→b≠p→b≠q→H' b=some o
theorem cV.of{a p q:Addr}{H H':Hp}(u:aI a H H'):cV a p q H H':=fun b o e n _ _=>u b o e n
theorem cV.trans{a p q:Addr}{H H1 H2:Hp}(u:cV a p q H H1)(v:cV a p q H1 H2):cV a p q H H2:=fun b o e n1 n2 n3=>v b o (u b o e n1 n2 n3) n1 n2 n3
theorem Gd{p q:Addr}{H H':Hp}(s:aj H H'):aj (i4 p q H) (i4 p q H'):=cD (cD s)
theorem wY{a p q:Addr}{H H':Hp}(u:aI a H H'):aI a (i4 p q H) (i4 p q H'):=dw (dw u)
theorem wZ{p q b:Addr}{H:Hp}{o:HO}(h1:b≠p)(h2:b≠q)(h:H b=some o):i4 p q H b=some o:=aR h1 (aR h2 h)
theorem iN{p q:Addr}{H:Hp}:aj (i4 p q H) H:=fun _ _ e=>(cC (cC e).2).2
theorem Cf{p q:Addr}{H:Hp}{o:HO}:i4 p q (upd H p o)=i4 p q H:=by
 funext b;unfold i4 but upd;by_cases h:b=p
 ·rw [if_pos h,if_pos h]
 ·rw [if_neg h,if_neg h,if_neg h]
theorem Cg{p q:Addr}{H:Hp}{o:HO}:i4 p q (upd H q o)=i4 p q H:=by
 unfold i4;rw [cb]
theorem NV.ina{C:Addr}{H:Hp}{a:Addr}{z:Rz}{e:Nat}{rem:List (Nat×List Nat)}{pn pq:Addr}{nm:List (List Nat)}{ns:List Nat}(v:NV C H a z e rem pn pq nm ns):a≠pn∧a≠pq:=by
 obtain ⟨dx,l,k,o⟩:=v.rd.obj;obtain ⟨rs,h,_⟩:=v.at_;exact ⟨aW o h (by intro z; cases z),aW o v.nt (by intro z; cases z)⟩
theorem NV.read{C:Addr}{H H':Hp}{a:Addr}{z:Rz}{e:Nat}{rem rem':List (Nat×List Nat)}{pn pq:Addr}{nm:List (List Nat)}{ns:List Nat}(v:NV C H a z e rem pn pq nm ns)(r:Rd C H' a z e rem')(s:Short rem')(u:aI a H H'):NV C H' a z e rem' pn pq nm ns:=by
 obtain ⟨n1,n2⟩:=v.ina;obtain ⟨dx,l,k,o⟩:=v.rd.obj;obtain ⟨rs,h,t⟩:=v.at_;have o2:=wZ (p:=pn) (q:=pq) n1 n2 o;exact ⟨r,s,v.ne,⟨rs,u _ _ h (Ne.symm n1),aL.cR o2 (wY u) t⟩,u _ _ v.nt (Ne.symm n2),v.st.cR o2 (wY u)⟩
theorem NV.same{C:Addr}{H H':Hp}{a:Addr}{z:Rz}{e:Nat}{rem:List (Nat×List Nat)}{pn pq:Addr}{nm:List (List Nat)}{ns:List Nat}(v:NV C H a z e rem pn pq nm ns)(s:aj H H'):NV C H' a z e rem pn pq nm ns:=
 v.read (v.rd.same s) v.sh (aI.of s)
theorem NV.name{C:Addr}{H:Hp}{a:Addr}{z:Rz}{e:Nat}{rem:List (Nat×List Nat)}{pn pq r:Addr}{nm:List (List Nat)}{ns:List Nat}{n:List Nat}{rs:List Addr}(v:NV C H a z e rem pn pq nm ns)(hr:i4 pn pq H r=some (.lst (vzs n)))
  (h:H pn=some (.lst (rs.map V.ref))) (t:aL (i4 pn pq H) rs nm):NV C (upd H pn (.lst (rs.map V.ref++[V.ref r]))) a z e rem pn pq (nm++[n]) ns:=by
 obtain ⟨n1,n2⟩:=v.ina;obtain ⟨k,o,_,k3,k4⟩:=v.rd;have st:Rs (i4 pn pq (upd H pn (.lst (rs.map V.ref++[V.ref r])))) z:=by rw [Cf]; exact v.st
 refine ⟨⟨k,by rw [aq n1]; exact o,st.same iN,k3,k4⟩,v.sh,v.ne,⟨rs++[r],by rw [ae,map_append]; rfl,?_⟩,by rw [aq (Ne.symm v.ne)]; exact v.nt,st⟩;rw [Cf];exact aL.snoc hr t
theorem NV.Rq{C:Addr}{H:Hp}{a:Addr}{z:Rz}{e:Nat}{rem:List (Nat×List Nat)}{pn pq:Addr}{nm:List (List Nat)}{ns:List Nat}{x:Nat}(v:NV C H a z e rem pn pq nm ns):NV C (upd H pq (.lst (vzs ns++[.int (x:Int)]))) a z e rem pn pq nm (ns++[x]):=by
 obtain ⟨n1,n2⟩:=v.ina;obtain ⟨k,o,_,k3,k4⟩:=v.rd;obtain ⟨rs,h,t⟩:=v.at_;have st:Rs (i4 pn pq (upd H pq (.lst (vzs ns++[.int (x:Int)])))) z:=by rw [Cg]; exact v.st
 refine ⟨⟨k,by rw [aq n2]; exact o,st.same iN,k3,k4⟩,v.sh,v.ne,⟨rs,by rw [aq v.ne]; exact h,?_⟩,by rw [ae,bj],st⟩;rw [Cg];exact t
theorem Short.must{e:Nat}{b:List Nat}{ws r:List (Nat×List Nat)}(h:Short ws)(m:VbenCore.must e b ws = .ok r):Short r:=by
 cases ws with
 | nil=>cases m
 | cons x t=>
  unfold VbenCore.must at m;dsimp only at m;split at m
  ·cases m;exact h.tail
  ·cases m
theorem Short.nm{e:Nat}{ws:List (Nat×List Nat)}{r:List Nat×List (Nat×List Nat)}(h:Short ws)(m:VbenCore.name e ws = .ok r):Short r.2:=by
 cases ws with
 | nil=>cases m
 | cons x t=>
  unfold VbenCore.name at m;dsimp only at m;split at m
  ·cases m;exact h.tail
  ·cases m
theorem pB{e most:Nat}:∀ {f lo:Nat} {ws:List (Nat×List Nat)} {y:List Nat×List (Nat×List Nat)},cE e most f lo ws = .ok y→∀ h∈y.1,lo≤h∧h≤most
 | 0,lo,ws,y,hy=>by cases hy
 | f+1,lo,ws,y,hy=>by
  rw [cE] at hy;cases hn:num e lo most ws with
  | error p=>
   rw [hn] at hy;cases hy
  | ok x=>
   rw [hn] at hy;obtain ⟨n1,n2,_⟩:=dk hn;dsimp only at hy;split at hy
   ·cases hy;intro h hh;rw [mem_singleton.mp hh];exact ⟨n1,n2⟩
   ·cases hp:cE e most f (x.1+1) x.2 with
    | error p=>
     rw [hp] at hy;cases hy
    | ok u=>
     rw [hp] at hy;cases hy;intro h hh;rcases mem_cons.mp hh with z | z
     ·rw [z];exact ⟨n1,n2⟩
     ·have:=pB hp h z;omega
theorem Ap:codes "value"=zs (Vbenab.W "value"):=by decide +kernel
theorem yy(x:Nat)(ns:List Nat):inV (.int (x:Int)) (vzs ns)=ns.contains x:=by
 unfold inV;rw [List.contains_eq_any_beq,any_map,any_map];refine congrArg (fun p=>ns.any p) (funext fun y=>?_);show ((y:Int)==(x:Int))=(x==y);rw [Bool.eq_iff_iff,beq_iff_eq,beq_iff_eq];omega
theorem OX(nm:List (List Nat))(b:List Nat):((nm.map zs).any fun w=>w==zs b)=nm.contains b:=by
 rw [any_map,List.contains_eq_any_beq];refine congrArg (fun p=>nm.any p) (funext fun y=>?_);show (zs y==zs b)=(b==y);rw [Cc,Bool.eq_iff_iff,beq_iff_eq,beq_iff_eq];exact eq_comm
theorem tZ(ns:List Nat):(vzs ns).all oJ=true:=by
 rw [all_map,all_map];exact all_eq_true.mpr fun _ _=>rfl
section
variable {P:Program}{w:World}{K:PySem.W.Frag}{mg:Str→Option Value}{base:Heap}
def j0(C CF:Addr):Sp:=fun vs H Q E=>∃ (a pn pq:Addr) (z:Rz) (most e:Nat) (rem:List (Nat×List Nat)) (nm:List (List Nat)) (ns:List Nat),vs=[.ref a,.int (most:Int),.ref pn,.ref pq]∧most≤8∧nm.length≤1000∧ns.length≤1000∧NV C H a z e rem pn pq nm ns ∧
 match dz e most nm ns rem with
 | .ok y=>∀ H':Hp,NV C H' a z e y.2 pn pq (nm++[y.1.1]) (ns++[mask y.1.2])→cV a pn pq H H'→Q .non H'
 | .error p=>∀ (H':Hp) (ea d:Addr),Flt CF H' ea d p→cV a pn pq H H'→E (.ref ea) (some d) H'
theorem qY:ax ["reader","holes","names","notches","row"] ["reader","holes","names","notches"] (ao mM):=⟨rfl,rfl,rfl,by decide +kernel,rfl,by decide +kernel,by decide +kernel⟩
theorem vz{f C CF fI fE fH fW fS fK fN fD fM fO:Addr}{fd fdI fdE fdH fdW fdS fdK fdN fdD fdM fdO:FuncData}(F:Fun K "read_value" "read_value" mM f fd)(R:TR K C)(TFt:TF K mg CF fI)(FI:Fun K "__init__" "Fault.__init__" mFI fI fdI)(bI:L2.Binds K fdI ["self","place"] [])
  (G:GR P w K mg base C fE fH fW fS fdE fdH fdW fdS) (X:GX P w K mg base C CF fK fN fD fdK fdN fdD)
  (GM:aF P w K mg base (CXF P w CF) 5 fM fdM ["reader","holes"] (jY C CF)) (hM:mg "read_marks"=some (.ref fM)) (kM:keepIn K (.ref fM)=true) (bM:L2.Binds K fdM ["reader","holes"] [])
  (GO:aF P w K mg base CX0 2 fO fdO ["marks"] (cG K)) (hO:mg "notches_of"=some (.ref fO)) (kO:keepIn K (.ref fO)=true) (bO:L2.Binds K fdO ["marks"] []) :
  aF P w K mg base (CXF P w CF) 6 f fd ["reader","holes","names","notches"] (j0 C CF):=by
 have GI:aF P w K mg base CX0 1 fI fdI ["self","place"] (Cd CF):=Am FI TFt;refine yg F qY (fun vs H Q E h=>?_) (fun cdv A outer s H vs Q E hr h=>?_)
 ·obtain ⟨a,pn,pq,z,most,e,rem,nm,ns,rfl,_⟩:=h;rfl
 ·obtain ⟨a,pn,pq,z,most,e,rem,nm,ns,rfl,hm,hnm,hns,v,q⟩:=h;have nd:=qY.nd;have hu64:∀ {A':Around} {k:Nat},cM k A'→A'.units+64<cLine:=fun r=>by have:=r.un; omega
  refine ⟨_,ag (aV (aZ (pv 0) R.cl X.ms X.gk (hr.mono (by decide)) X.bk .nil bc.passes (aa dq ah)))
   (ag (a0 (aK (OJ (hu64 hr)) (bb (pv 0) R.cl G.mw G.gw (hr.mono (by decide)) G.bw .nil aE) (pv 2) (by with_unfolding_all rfl)) (ai (e8 TFt.xm GI (hr.mono (by decide)) rfl bc (by rfl) TFt.at_ bI (aa (bb (pv 0) R.cl G.mh G.gh (hr.mono (by decide)) G.bh .nil aE) ah))) aO)
   (ag (aV (c5 plainAttrs_list PySem.F.slot_list_append PySem.F.type_list_append br (pv 2) (aa (bb (pv 0) R.cl X.mn X.gn (hr.mono (by decide)) X.bn .nil bc.passes) ah)))
   (ag (az (i:=4) nd rfl (Or.inl rfl) (aD GO (hr.mono (by decide)) rfl hO kO bO .nil aE (aa (aD GM hr rfl hM kM bM .nil bc.passes (aa (pv 0) (aa (pv 1) ah))) ah)))
   (ag (a0 (aK p8 (pv 4) (pv 3) (by with_unfolding_all rfl)) (ai (e8 TFt.xm GI (hr.mono (by decide)) rfl bc (by rfl) TFt.at_ bI (aa (bb (pv 0) R.cl G.mh G.gh (hr.mono (by decide)) G.bh .nil aE) ah))) aO)
   (ai (aV (c5 plainAttrs_list PySem.F.slot_list_append PySem.F.type_list_append br (pv 3) (aa (pv 4) ah)))))))),?_⟩
  obtain ⟨dx,l,k,o⟩:=v.rd.obj;refine ⟨_,rfl,a,dx,_,rfl,o,bJ noK,a,z,"value",e,rem,Vbenab.W "value",rfl,v.rd,Ap,by decide +kernel,by decide +kernel,?_⟩;unfold dz at q;cases g1:VbenCore.must e (Vbenab.W "value") rem with
  | error p=>
   rw [g1] at q;exact fun H' ea d fl s1=>q H' ea d fl (cV.of (aI.of s1))
  | ok r1=>
   rw [g1] at q;dsimp only at q;intro H1 rd1 u1;have v1:=v.read rd1 (v.sh.must g1) u1;obtain ⟨k1,o1,st1,le1,hr1⟩:=id rd1;refine ⟨_,rfl,a,z.dx,_,rfl,o1,bJ noW,a,z.dx,z.l,z.rs,z.ws,e,k1,rfl,o1,st1.1,st1.2,le1,fun H2 p2 s2 hp2 _=>?_⟩;have v2:=v1.same s2;obtain ⟨rs2,hpn2,rw2⟩:=v2.at_;have rk2:lR C H2 a z.ws e k1:=⟨⟨z.dx,z.l,z.rs,s2 _ _ o1,s2 _ _ st1.1,st1.2.mono s2⟩,le1⟩;rw [hr1] at hp2;refine ⟨_,rfl,p2,pn,zs (cA r1),rs2,nm.map zs,rfl,rfl,SqL.of hp2,SqL.of hpn2,aL.rows (rw2.mono iN),_,rfl,?_⟩;rw [OX];cases hc:nm.contains (cA r1) with
   | true=>
    rw [hc,if_pos rfl] at q;refine bz ⟨_,rfl,a,z.dx,_,rfl,s2 _ _ o1,bJ noH,a,z.ws,e,k1,rfl,rk2,(by show 1≤sizeLine; decide),?_⟩;rw [hr1];exact raised fun H' ea d fl s3=>q H' ea d fl (cV.of ((u1.trans (aI.of s2)).trans (aI.of s3)))
   | false=>
    rw [hc,if_neg Bool.false_ne_true] at q;refine b0 ⟨_,rfl,.inl ⟨rfl,_,SqL.of hpn2⟩,_,rfl,a,z.dx,_,rfl,s2 _ _ o1,bJ noN,a,z,e,r1,rfl,v2.rd,?_⟩;cases g3:VbenCore.name e r1 with
    | error p=>
     rw [g3] at q;exact fun H' ea d fl s3=>q H' ea d fl (cV.of ((u1.trans (aI.of s2)).trans (aI.of s3)))
    | ok n=>
     rw [g3] at q;dsimp only at q;intro H3 p3 rd3 hp3 npa hG u3;have v3:=v2.read rd3 (v2.sh.nm g3) u3;obtain ⟨rs3,hpn3,rw3⟩:=v3.at_;have v4:=v3.name (hG _ iN v3.st) hpn3 rw3;have u34:cV a pn pq H (upd H3 pn (.lst (rs3.map V.ref++[V.ref p3]))):=fun b ob hb n1 n2 n3=>by
      rw [aq n2];exact u3 b ob (s2 b ob (u1 b ob hb n1)) n1
     refine ⟨pn,rs3.map V.ref,_,rfl,rfl,hpn3,by rw [length_map,rw3.len,sizeLine_eq]; omega,?_⟩;refine ⟨_,rfl,_,rfl,a,z,most,e,n.2,rfl,hm,v4.rd,v4.sh,?_⟩;cases g5:cE e most 9 1 n.2 with
     | error p=>
      rw [g5] at q;exact fun H' ea d fl u5=>q H' ea d fl (u34.trans (cV.of u5))
     | ok m=>
      rw [g5] at q;dsimp only at q;intro H5 p5 rd5 sh5 hp5 _ u5;have v5:=v4.read rd5 sh5 u5;have u35:=u34.trans (cV.of u5);obtain ⟨k5,o5,st5,le5,hr5⟩:=id rd5;refine ⟨p5,m.1,rfl,SqL.of hp5,fun h hh=>?_,?_⟩
      ·have:=pB g5 h hh;omega
      ·refine ⟨_,rfl,_,rfl,pq,_,rfl,.inl (SqL.of v5.nt),rfl,tZ ns,_,rfl,?_⟩;show if inV (.int (mask m.1:Int)) (vzs ns)=true then _ else _
       rw [yy];cases hd:ns.contains (mask m.1) with
       | true=>
        rw [hd,if_pos rfl] at q;refine bz ⟨_,rfl,a,z.dx,_,rfl,o5,bJ noH,a,z.ws,e,k5,rfl,⟨⟨z.dx,z.l,z.rs,o5,st5.1,st5.2⟩,le5⟩,(by show 1≤sizeLine; decide),?_⟩;rw [hr5];exact raised fun H' ea d fl s6=>q H' ea d fl (u35.trans (cV.of (aI.of s6)))
       | false=>
        rw [hd,if_neg Bool.false_ne_true] at q;refine b0 ⟨_,rfl,.inl ⟨rfl,_,SqL.of v5.nt⟩,_,rfl,pq,_,_,rfl,rfl,v5.nt,by rw [length_map,length_map,sizeLine_eq]; omega,?_⟩;refine q _ v5.Rq (u35.trans fun b ob hb n1 n2 n3=>?_);rw [aq n3];exact hb
end
abbrev t4(l:List (List Nat×List Nat)):List (List Nat):=l.map (·.1)
abbrev t5(l:List (List Nat×List Nat)):List Nat:=l.map fun x=>mask x.2
def j1(e most:Nat):Nat→List (List Nat×List Nat)→List (Nat×List Nat)→Except Nat (List (List Nat×List Nat)×List (Nat×List Nat))
 | 0,l,ws=>.ok (l,ws)
 | g+1,l,ws=>if ws.isEmpty=true then .ok (l,ws) else match VbenCore.must e [10] ws with
  | .error p=>.error p
  | .ok w1=>match dz e most (t4 l) (t5 l) w1 with
   | .error p=>.error p
   | .ok y=>j1 e most g (l++[y.1]) y.2
section
variable {P:Program}{w:World}{K:PySem.W.Frag}{mg:Str→Option Value}{base:Heap}
def i5(C CF:Addr):Sp:=fun vs H Q E=>∃ (a pn pq:Addr) (z:Rz) (most e:Nat) (rem:List (Nat×List Nat)),vs=[.ref a,.int (most:Int),.ref pn,.ref pq]∧most≤8∧NV C H a z e rem pn pq [] [] ∧
 match (match dz e most [] [] rem with | .error p=>.error p | .ok y=>j1 e most 69 [y.1] y.2:Except Nat (List (List Nat×List Nat)×List (Nat×List Nat))) with
 | .ok r=>∀ H':Hp,NV C H' a z e r.2 pn pq (t4 r.1) (t5 r.1)→cV a pn pq H H'→Q .non H'
 | .error p=>∀ (H':Hp) (ea d:Addr),Flt CF H' ea d p→cV a pn pq H H'→E (.ref ea) (some d) H'
def WV(C:Addr)(H:Hp)(a pn pq:Addr)(z:Rz)(e most:Nat)(r0:Except Nat (List (List Nat×List Nat)×List (Nat×List Nat)))(m:Nat)(σ:L2.St)(H':Hp):Prop:=
 ∃ (l:List (List Nat×List Nat)) (rem:List (Nat×List Nat)),σ=[some (.ref a),some (.int (most:Int)),some (.ref pn),some (.ref pq)]∧NV C H' a z e rem pn pq (t4 l) (t5 l)∧cV a pn pq H H'∧l.length+m=70∧r0=j1 e most m l rem
theorem yz:ax ["reader","holes","names","notches"] ["reader","holes","names","notches"] (ao jZ):=⟨rfl,rfl,rfl,by decide +kernel,rfl,by decide +kernel,by decide +kernel⟩
theorem t6{f C CF fE fH fW fS fK fN fD fV:Addr}{fd fdE fdH fdW fdS fdK fdN fdD fdV:FuncData}(F:Fun K "read_values" "read_values" jZ f fd)(R:TR K C)(hL:mg "len"=none)(hV:GI mg "MOST_VALUES" 70)
  (G:GR P w K mg base C fE fH fW fS fdE fdH fdW fdS) (X:GX P w K mg base C CF fK fN fD fdK fdN fdD)
  (GV:aF P w K mg base (CXF P w CF) 6 fV fdV ["reader","holes","names","notches"] (j0 C CF)) (hv:mg "read_value"=some (.ref fV)) (kV:keepIn K (.ref fV)=true) (bV:L2.Binds K fdV ["reader","holes","names","notches"] []) :
  aF P w K mg base (CXF P w CF) 7 f fd ["reader","holes","names","notches"] (i5 C CF):=by
 refine yg F yz (fun vs H Q E h=>?_) (fun cdv A outer s H vs Q E hr h=>?_)
 ·obtain ⟨a,pn,pq,z,most,e,rem,rfl,_⟩:=h;rfl
 ·obtain ⟨a,pn,pq,z,most,e,rem,rfl,hm,v,q⟩:=h;refine ⟨_,ag (aV (aD GV hr rfl hv kV bV .nil bc.passes (aa (pv 0) (aa (pv 1) (aa (pv 2) (aa (pv 3) ah))))))
   (ai (cS PassesOwn.leaving (PW.pt (sE (aK eZ (aJ aC (by rfl) hL PySem.boot_len (aa (pv 3) ah)) (aY hV) (aN _)) (oE (cq (bf (bb (pv 0) R.cl G.me G.ge (hr.mono (by decide)) G.be .nil aE))))))
    (ag (aV (aZ (pv 0) R.cl X.ms X.gk (hr.mono (by decide)) X.bk .nil bc.passes (aa dq ah)))
    (ai (aV (aD GV hr rfl hv kV bV .nil bc.passes (aa (pv 0) (aa (pv 1) (aa (pv 2) (aa (pv 3) ah)))))))))),?_⟩
  refine ⟨_,rfl,_,rfl,_,rfl,_,rfl,a,pn,pq,z,most,e,rem,[],[],rfl,hm,by decide,by decide,v,?_⟩;cases g1:dz e most [] [] rem with
  | error p=>
   rw [g1] at q;exact fun H' ea d fl u1=>q H' ea d fl u1
  | ok y=>
   rw [g1] at q;dsimp only at q;intro H1 v1 u1;generalize hr0:j1 e most 69 [y.1] y.2=r0 at q;refine ⟨WV C H a pn pq z e most r0,⟨69,[y.1],y.2,rfl,v1,u1,rfl,hr0.symm⟩,?_⟩;rintro m σ H2 ⟨l,rem2,rfl,v2,u2,hlm,heq⟩;have hln:((vzs (t5 l)).length:Int)=(l.length:Int):=by rw [length_map,length_map,length_map]
   have stop:(m=0∨rem2=[])→Q .non H2:=fun hs=>by
    have e1:j1 e most m l rem2 = .ok (l,rem2):=by
     rcases hs with hs | hs
     ·rw [hs];rfl
     ·rw [hs];cases m with
      | zero=>rfl
      | succ g=>rfl
    rw [heq,e1] at q;exact q H2 v2 u2
   obtain ⟨k,o,st,le,hrem⟩:=id v2.rd;refine ⟨_,rfl,pq,_,rfl,.inl (SqL.of v2.nt),_,_,rfl,rfl,_,rfl,cg (fun h70=>?_) fun h70=>?_⟩
   ·rw [hln] at h70;refine ⟨_,rfl,a,z.dx,_,rfl,o,bJ noE,a,z.ws,e,k,rfl,⟨⟨z.dx,z.l,z.rs,o,st.1,st.2⟩,le⟩,_,rfl,?_⟩;by_cases hk:k=z.ws.length
    ·rw [decide_eq_true hk];refine b0 (stop (.inr ?_));rw [← hrem,hk,drop_length]
    ·rw [decide_eq_false hk];obtain ⟨g,rfl⟩:∃ g,m=g+1:=⟨m-1,by have:(l.length:Int)<70:=h70; omega⟩;have hne:rem2.isEmpty=false:=by
      obtain ⟨p',w',_,g2⟩:=drop_one (show k<z.ws.length from Nat.lt_of_le_of_ne le hk);rw [← hrem,g2];rfl
     rw [j1,if_neg (by rw [hne]; exact Bool.false_ne_true)] at heq;refine bz ⟨fun σ' H'=>∃ m',m'<g+1∧WV C H a pn pq z e most r0 m' σ' H',fun _ _ z=>z,?_⟩;refine ⟨_,rfl,a,z.dx,_,rfl,o,bJ noK,a,z,"\n",e,rem2,[10],rfl,v2.rd,pA,by decide,by decide +kernel,?_⟩;cases g3:VbenCore.must e [10] rem2 with
     | error p=>
      rw [g3] at heq;dsimp only at heq;rw [heq] at q;exact fun H' ea d fl s3=>q H' ea d fl (u2.trans (cV.of (aI.of s3)))
     | ok w1=>
      rw [g3] at heq;dsimp only at heq;intro H3 rd3 u3;have v3:=v2.read rd3 (v2.sh.must g3) u3;have l70:l.length≤70:=by omega
      refine ⟨_,rfl,_,rfl,_,rfl,_,rfl,a,pn,pq,z,most,e,w1,t4 l,t5 l,rfl,hm,by rw [length_map]; omega,by rw [length_map]; omega,v3,?_⟩;cases g4:dz e most (t4 l) (t5 l) w1 with
      | error p=>
       rw [g4] at heq;dsimp only at heq;rw [heq] at q;exact fun H' ea d fl u4=>q H' ea d fl ((u2.trans (cV.of u3)).trans u4)
      | ok x=>
       rw [g4] at heq;dsimp only at heq;intro H4 v4 u4;refine ⟨g,lt_succ_self _,l++[x.1],x.2,rfl,?_,(u2.trans (cV.of u3)).trans u4,by rw [length_append]; show l.length+1+g=70; omega,heq⟩;rw [t4,t5,map_append,map_append];exact v4
   ·rw [hln] at h70;exact b0 (stop (.inl (by have:¬ (l.length:Int)<70:=h70; omega)))
end
end NC
namespace LX
open PySem PySem.Spec PyProof.Rows L2
theorem IS(a:Value)(t:Tok):checkTypeCall "enumerate" ⟨[a],[("start",.int 1 t)]⟩=pure ():=by kernel_rfl
theorem IT(a:Value)(t:Tok):checkBuiltinCall "enumerate.__new__" ⟨[.type "enumerate",a],[("start",.int 1 t)]⟩=pure ():=by kernel_rfl
theorem IU(a b:Value)(t:Tok):argsOk "object.__init__" ⟨[a,b],[("start",.int 1 t)]⟩:=by unfold argsOk; kernel_rfl
section
variable {prog:Program}{w:World}{A:Around}{E:Value→Shared→Prop}{s:Shared}
theorem Ge{l:Addr}{items:Array Value}{t:Tok}(hL:s.heap.IsList l items){R:Value→Shared→Prop}
  (h:R (.ref (s.heap.push { cls:=.type "list_iterator",data:=.fields #[.ref l,.int 0 0] }).objs.size) { s with heap:=(s.heap.push { cls:=.type "list_iterator",data:=.fields #[.ref l,.int 0 0] }).push { cls:=.type "enumerate",data:=.fields #[.none,.bool false,.ref s.heap.objs.size,rawInt 1,.none,.none] } }) :
  wpAny (model prog w) A (Builtin.«enumerate.__new__» ⟨[.type "enumerate",.ref l],[("start",.int 1 t)]⟩) (fun fin s'=>∃ v,fin = .done (.ret v)∧R v s') E s:=by
 obtain ⟨hp,g,d,tk,os⟩:=s;have hsub:=sub_enumerate
 wp_walk
 refine wpAny_stack_any fun st=>wpAny_pure ?_;obtain ⟨⟨oc,od,odt,osl⟩,ho,hoc,n,hod⟩:=id hL;simp only at hoc hod;subst hoc hod;split
 ·rename_i c _ _ _ _ _
  cases (c==Value.type "enumerate")
  ·wp_walk using AutoSeq1.wpAny_loadPart' ho,wpAny_pyIter_list hL
   exact ⟨_,rfl,h⟩
  ·wp_walk using AutoSeq1.wpAny_loadPart' ho,wpAny_pyIter_list hL
   exact ⟨_,rfl,h⟩
 ·wp_walk using AutoSeq1.wpAny_loadPart' ho,wpAny_pyIter_list hL
  exact ⟨_,rfl,h⟩
theorem Aq{e l:Addr}{t:Tok}{R:Value→Shared→Prop}(hT:s.TypeIs (.ref e) "enumerate")(h:R .none s) :
  wpAny (model prog w) A (Builtin.«object.__init__» ⟨[.ref e,.ref l],[("start",.int 1 t)]⟩) (fun fin s'=>∃ v,fin = .done (.ret v)∧R v s') E s:=by
 have hl:=(F.called_enumerate).init.lookup;have hm:=(F.called_enumerate).made;have hne:(some "enumerate.__new__" != some "object.__new__")=true:=by decide
 repeat (any_goals (first | assumption | wp_step))
 exact ⟨_,rfl,h⟩
theorem Ci{l:Addr}{items:Array Value}{t:Tok}{Q:Value→Shared→Prop}(hL:s.heap.IsList l items)
  (h:∀ h',IsEnum h' (s.heap.objs.size+1) s.heap.objs.size 1 .none→h'.IsListIter s.heap.objs.size l 0→h'.objs.size=s.heap.objs.size+2→(∀ b o,s.heap.get? b=some o→h'.get? b=some o)→Q (.ref (s.heap.objs.size+1)) { s with heap:=h' }) :
  wpAny (model prog w) A (call (.type "enumerate") [.ref l] [("start",.int 1 t)]) Q E s:=by
 have ft:=F.called_enumerate;obtain ⟨c,tl,hmro⟩:=ft.mro;have hmade:=ft.made;have hsub:=ft.sub;have hct:=IS (.ref l) t;have hcn:=IT (.ref l) t;refine wpAny_call (codeAny_of_tree ?_);show wpAny _ _ (callAny (.type "enumerate") _) _ _ _;refine wpAny_pure ⟨Code.quiet_builtin _ (by decide +kernel),codeAny_builtin F.entry_type_call ?_⟩;rw [Around.under_plain (weight_type_call_type "enumerate" [.ref l] [("start",.int 1 t)]) (units_type_call_type "enumerate" [.ref l] [("start",.int 1 t)])];have f1:=ft.notType;have f2:=ft.canCreate
 repeat (any_goals (first | assumption | wp_step))
 refine codeAny_mono (R:=wants (fun obj s1=>obj = .ref (s.heap.objs.size+1)∧IsEnum s1.heap (s.heap.objs.size+1) s.heap.objs.size 1 .none∧Q obj s1) E) (codeAny_call_builtin ft.plain F.entry_enumerate_new (wpAny_of_eq hcn (wpAny_mono (Ge hL (R:=fun obj s1=>obj = .ref (s.heap.objs.size+1)∧IsEnum s1.heap (s.heap.objs.size+1) s.heap.objs.size 1 .none∧Q obj s1) ?_) (fun fin s' ⟨v,e,q⟩=>by subst e; exact q) fun _ _ z=>z))) fun r s1 hr=>?_
 ·have hz:(s.heap.push { cls:=.type "list_iterator",data:=.fields #[.ref l,.int 0 0] }).objs.size=s.heap.objs.size+1:=Heap.size_push ..;rw [hz];have he:IsEnum ((s.heap.push { cls:=.type "list_iterator",data:=.fields #[.ref l,.int 0 0] }).push { cls:=.type "enumerate",data:=.fields #[.none,.bool false,.ref s.heap.objs.size,rawInt 1,.none,.none] }) (s.heap.objs.size+1) s.heap.objs.size 1 .none:=Heap.get?_push_at hz.symm rfl;exact ⟨rfl,he,h _ he ⟨_,Heap.get?_push_of_some _ (Heap.get?_push_size _ rfl),rfl,rfl⟩ (by rw [Heap.size_push,hz]) fun b o x=>Heap.get?_push_of_some _ (Heap.get?_push_of_some _ x)⟩
 ·cases r with
  | error e=>exact hr
  | ok fl=>
   cases fl with
   | next=>exact hr.elim
   | brk=>exact hr.elim
   | cont=>exact hr.elim
   | ret obj=>
    obtain ⟨rfl,he,hq⟩:=hr;have hT:s1.TypeIs (.ref (s.heap.objs.size+1)) "enumerate":=⟨_,he,rfl⟩;have hli:=ft.init.lookup;have hbi:=ft.init.bind (.ref (s.heap.objs.size+1))
    repeat (any_goals (first | assumption | wp_step))
    refine codeAny_mono (R:=wants (fun r s2=>r = .none∧Q (.ref (s.heap.objs.size+1)) s2) E) (codeAny_call_builtin ft.init.plain F.entry_object_init (ft.init.check _ _ _ _ _ _ _ _ hT (IU (.ref (s.heap.objs.size+1)) (.ref l) t) (wpAny_mono (Aq hT (R:=fun r s2=>r = .none∧Q (.ref (s.heap.objs.size+1)) s2) ⟨rfl,hq⟩) (fun fin s' ⟨v,e,q⟩=>by subst e; exact q) fun _ _ z=>z))) fun r2 s2 hr2=>?_;cases r2 with
    | error e=>exact hr2
    | ok fl2=>
     cases fl2 with
     | next=>exact hr2.elim
     | brk=>exact hr2.elim
     | cont=>exact hr2.elim
     | ret r=>
      obtain ⟨rfl,hq2⟩:=hr2
      repeat (any_goals (first | assumption | wp_step))
end
theorem IV{prog:Program}{w:World}{A:Around}{it:Addr}{fp:List Addr}{n:Nat}{Pd:Nat→Value→Prop}{Sd:Nat→Heap→Prop}(D:Draws prog w A it fp n Pd Sd) :
  Draws prog w A it fp (n+1) (fun k x=>∃ i,k=i+1∧Pd i x) (fun k h=>∃ i,k=i+1∧Sd i h) where
 live:=fun k h ⟨i,_,st⟩=>D.live i h st
 frame:=fun k h h' ⟨i,e,st⟩ kk=>⟨i,e,D.frame i h h' st kk⟩
 item:=fun k s Q E hk ⟨i,e,st⟩ hQ=>D.item i s Q E (by omega) st fun x h' tk p st' sb=>hQ x h' tk ⟨i,e,p⟩ ⟨i+1,by omega,st'⟩ sb
 done:=fun s Q E ⟨i,e,st⟩ hE=>D.done s Q E ((show i=n by omega) ▸ st) hE
theorem Gf{prog:Program}{w:World}{A:Around}(hh:A.handled=none)(it l:Addr)(hne:l≠it)(items:Array Value)(i:Nat)(hi:items[i]? = none) :
  Draws prog w A it [it,l] 0 (fun _ _=>True) (fun k h=>k=0∧h.IsListIter it l i∧h.IsList l items) where
 live:=fun _ _ st=>let ⟨o,ho,_⟩:=st.2.1; ⟨o,ho⟩
 frame:=fun _ _ _ st hk=>⟨st.1,st.2.1.at fun o e=>hk it (by simp) o e,st.2.2.at fun o e=>hk l (by simp) o e⟩
 item:=fun k s Q E hk=>absurd hk (not_lt_zero _)
 done:=fun s Q E st hE=>wpAny_nextOf_list_end hh st.2.1 st.2.2 hi hE
def It1(K:PySem.W.Frag)(a:Addr):It:=
 ⟨fun i H=>∃ (xs:List V) (x:V),SqL K H a xs∧xs[i]? = some x,fun i H v H'=>∃ T x,v = .ref T∧H T=none∧H'=upd H T (.tup [.int ((i+1:Nat):Int),x])∧∀ xs,SqL K H a xs→xs[i]? = some x,fun i H=>∃ xs:List V,SqL K H a xs∧xs.length≤i⟩
theorem Cj{P:Program}{w:World}{K:PySem.W.Frag}{elts:List Expr}{kk:Nat}{tpos:Pos}(a e it:Addr) :
  Turn P w K (.Tuple elts kk tpos) (It1 K a) [e,it] e (fun i h=>(∃ old,IsEnum h e it ((i+1:Nat):Int) old)∧h.IsListIter it a i∧e≠it) where
 mem:=by simp
 obj:=fun i h st b hb=>by
  obtain ⟨⟨old,he⟩,⟨o,ho,hc,hd⟩,_⟩:=st;rcases mem_cons.mp hb with z | z
  ·rw [z];exact ⟨_,he,fun v q=>nomatch q⟩
  ·rw [mem_singleton.mp z];exact ⟨o,ho,fun v q=>by rw [hd] at q; cases q⟩
 keep:=fun i h h' st k=>let ⟨⟨old,he⟩,hi,hne⟩:=st; ⟨⟨old,k e (by simp) _ he⟩,hi.at fun o q=>k it (by simp) o q,hne⟩
 item:=by
  intro X hP hw hK hc i pins s σ H E I hf st hg;subst hP hw hK;obtain ⟨⟨old,he⟩,hit,hne⟩:=st;obtain ⟨xs,x,hq,hx⟩:=hg;obtain ⟨its,rv,p,hz⟩:=I.list hq;obtain ⟨u,hu,ru⟩:=rv.get hx;have hel:e<s.heap.objs.size:=Heap.lt_size he;have hil:it<s.heap.objs.size:=by obtain ⟨_,q,_⟩:=hit; exact Heap.lt_size q
  have hni:i<its.toArray.size:=by
   rw [size_toArray];exact (List.getElem?_eq_some_iff.mp hu).1
  have hai:a≠it:=fun z=>by
   obtain ⟨o1,e1,c1,_⟩:=p.isList;obtain ⟨o2,e2,c2,_⟩:=hit;rw [z,e2] at e1;cases e1;rw [c1] at c2;exact absurd c2 (by decide)
  have hae:e≠a:=fun z=>by
   obtain ⟨o1,e1,c1,_⟩:=p.isList;rw [← z] at e1;rw [show s.heap.get? e=some _ from he] at e1;cases e1;exact absurd (show Value.type "enumerate"=Value.type "list" from c1) (by decide)
  refine wpAny_pyNext_enum_itemD (IV (Draws.list (A:=X.A.in1) (I.ok.hd hc) it a hai its.toArray)) he ⟨i,rfl,hit,p.isList⟩ (by omega) hne (by simp [hne,hae]) fun x' h' tk px ho hst hT hsz hk=>?_;obtain ⟨i',ei,px⟩:=px;obtain ⟨i2,ei2,hit',_⟩:=hst;have ei':i'=i:=by omega
  have ei2':i2=i+1:=by omega
  subst ei' ei2';have ex:x'=u:=by
   have z:its.toArray[i']? = some u:=by simpa using hu
   rw [z] at px;exact (Option.some.inj px).symm
  subst ex;refine ⟨_,rfl,wpAny_letOwnedTupleGo_enum (s:={ s with heap:=h',toks:=tk+1 }) ho fun h'' he' sb=>?_⟩;have hT2:h''.get? s.heap.objs.size=some { cls:=.type "tuple",data:=.seq #[.int ((i'+1:Nat):Int) tk,x'] }:=(sb.2 _ (ne_of_gt hel)).trans hT;have new:b7 X.prog X.w (upd H s.heap.objs.size (.tup [.int ((i'+1:Nat):Int),x])) h'' s.heap.objs.size (.tup [.int ((i'+1:Nat):Int),x]):=
   ⟨by show 2≤sizeLine; decide,[.int ((i'+1:Nat):Int) tk,x'],.cons ⟨_,rfl⟩ (.cons ru .nil),⟨_,hT2,rfl,_,rfl⟩⟩
  have I1:Inv X pins σ (upd H s.heap.objs.size (.tup [.int ((i'+1:Nat):Int),x])) { s with heap:=h'',toks:=tk+1 }:=
   I.wz (ch:=[e,it]) (fun b ob hb q=>(sb.2 b (fun z=>hb (by simp [z]))).trans (hk b ob (fun z=>hb (by simp [z])) (fun z=>hb (by simp [z])) q)) hf (le_refl _) new
  refine ⟨.ref s.heap.objs.size,_,I1,rfl,⟨_,x,rfl,I.hok.fresh (le_refl _),rfl,fun ys hy=>by rw [I.sF hy hq]; exact hx⟩,⟨⟨x',?_⟩,hit'.at fun o q=>(sb.2 it (Ne.symm hne)).trans q,hne⟩,fun b hb=>?_⟩
  ·have e1:((i'+1+1:Nat):Int)=((i'+1:Nat):Int)+1:=by omega
   rw [e1];exact he'
  ·have hb':b<s.heap.objs.size:=by
    rcases mem_cons.mp hb with z | z
    ·rw [z]; exact hel
    ·rw [mem_singleton.mp z]; exact hil
   rw [aq (ne_of_lt hb')];exact (hf b hb).1
 done:=by
  intro X hP hw hK hc i pins s σ H E I hf st hg;subst hP hw hK;obtain ⟨⟨old,he⟩,hit,hne⟩:=st;obtain ⟨xs,hq,hx⟩:=hg;obtain ⟨its,rv,p,hz⟩:=I.list hq;obtain ⟨f0,f1,f2,f3,f4,f5⟩:=hf it (by simp);have hl:=rv.length;have hai:a≠it:=fun z=>by
   obtain ⟨o1,e1,c1,_⟩:=p.isList;obtain ⟨o2,e2,c2,_⟩:=hit;rw [z,e2] at e1;cases e1;rw [c1] at c2;exact absurd c2 (by decide)
  have hi0:its.toArray[i]? = none:=Array.getElem?_eq_none (by rw [size_toArray]; omega);exact wpAny_pyNext_enum_endD (Gf (A:=X.A.in1) (I.ok.hd hc) it a hai its.toArray i hi0) he ⟨rfl,hit,p.isList⟩ fun h' eb=>⟨rfl,I.turned (t':=s.toks) (fun b o hb q=>eb b o hb q) f0 f1 f3 f4 f5⟩
 self:=fun A i s Q E st h=>let ⟨⟨_,he⟩,_⟩:=st; wpAny_pyIter_enum he h
theorem yA{M:Model}{A:Around}{E:Value→Shared→Prop}{s:Shared}{env:Env}{pos:Pos}{T:String}{e:Expr}{rest:List Expr}{kws:List Keyword}{Q:Value→Shared→Prop}
  (h:wpAny M A (spliced (backTo pos (starEach (e::rest) env))) (fun vs s1=>wpAny M A (evalAll ((backToKw pos (keywordEach kws env)).map (·.2))) (fun kvs s2=>wpAny M A (call (.type T) vs (((backToKw pos (keywordEach kws env)).filterMap (·.1)).zip kvs)) Q E s2) E s1) E s)
  (he:backTo pos (starEach (e::rest) env)=(false,eval e env)::backTo pos (starEach rest env)) (hp:(backTo pos (starEach (e::rest) env)).any (·.1)=false) (ha:(backToKw pos (keywordEach kws env)).all (·.1.isSome)=true)
  (hk:(backToKw pos (keywordEach kws env)).any (·.1.isNone)=false):wpAny M A (callWith pos (.type T) [] (backTo pos (starEach (e::rest) env)) (backToKw pos (keywordEach kws env))) Q E s:=by
 unfold callWith;have h2:wpAny M A (evalArgs (.type T) true (backTo pos (starEach (e::rest) env)) (backToKw pos (keywordEach kws env))) (fun x s1=>wpAny M A (call (.type T) ([]++x.pos) x.kw) Q E s1) E s:=by
  rw [he] at h ⊢;exact evalArgs_kwB ha h
 refine wpAny_bind (wpAny_holding (wpAny_mono h2 (fun x s1 h1=>wpAny_bind (wpAny_standAt ?_)) fun _ _ z=>z));simp only [hp,hk,Bool.or_false];exact wpAny_bind (wpAny_pure (wpAny_bind (wpAny_mono h1 (fun r s2 hr=>wpAny_bind (wpAny_holding (wpAny_point (wpAny_pure hr)))) fun _ _ z=>z)))
def OY(K:PySem.W.Frag)(ta:TA):TI:=fun σ H R=>ta σ H fun vs H1=>∃ a xs,vs=[.ref a]∧SqL K H1 a xs∧R (It1 K a) H1
theorem IW{X:Cx}{e:Expr}{ta:TA}{p pos tpos kp cp:Pos}{j:Nat}{elts:List Expr}{kk:Nat}(hg:Gl X "enumerate")(hm:X.mg "enumerate"=none)(ha:PA X [e] ta)(hs:starEach [e] X.env=[(false,eval e X.env)]:=by rfl) :
  PI X (.Tuple elts kk tpos) (.Call (.Name "enumerate" p) [e] [⟨some "start",.Constant (.int 1) j cp,kp⟩] pos) (OY X.K ta):=by
 intro pins s σ H R I h;refine wpAny_Call_Name_kw (mi I hg hm boot_enumerate (yA (thn (ha pos pins s σ H _ I h) fun us s1 hq__=>?_) (by rw [hs]; rfl) (by rw [hs]; rfl) rfl rfl));obtain ⟨vs,H1,I1,r1,q1⟩:=hq__; refine kws_cons (wpAny_Constant_int (kws_nil ?_));obtain ⟨a,xs,ex,hq,q⟩:=q1;subst ex;cases r1 with
 | cons r rr=>
  cases rr;cases r;have J:=I1.tok (s1.toks+1);obtain ⟨its,rv,p',hz⟩:=J.list hq;refine Ci (s:={ s1 with toks:=s1.toks+1 }) p'.isList fun h' he hit hsz hk=>wpAny_pyIter_enum he ?_;have I2:Inv X pins σ H1 { s1 with heap:=h',toks:=s1.toks+1 }:=J.kept (t':=s1.toks+1) hk;refine ⟨s1.heap.objs.size+1,[s1.heap.objs.size+1,s1.heap.objs.size],_,_,H1,rfl,I2,Cj a (s1.heap.objs.size+1) s1.heap.objs.size,⟨⟨.none,he⟩,hit,Nat.succ_ne_self _⟩,fun b hb=>?_,q⟩;have hle:s1.heap.objs.size≤b:=by
   rcases mem_cons.mp hb with z | z
   ·rw [z]; exact Nat.le_add_right _ _
   ·rw [mem_singleton.mp z]; exact le_refl _
  exact J.FC hle (J.hok.fresh hle)
end LX
namespace NC
open PySem PySem.Spec PyProof.Rows L2 LX
abbrev t7:Stmt:=top 27
abbrev j3:Stmt:=top 28
theorem Gg{K:PySem.W.Frag}{a:Addr}{xs:List V}{g:TG}{tb:TS}{D:Ends}{σ:L2.St}{H:Hp}(Pv:Nat→L2.St→Hp→Prop)(h0:Pv 0 σ H)(hl:∀ i σ H,i≤xs.length→Pv i σ H→SqL K H a xs)
  (hs:∀ i x σ H T,xs[i]? = some x→H T=none→Pv i σ H→g (.ref T) σ (upd H T (.tup [.int ((i+1:Nat):Int),x])) fun σ2 H2=>tb { D with nx:=Pv (i+1),ct:=Pv (i+1),bk:=D.nx } σ2 H2) (hd:∀ σ H,Pv xs.length σ H→D.nx σ H) :
  ∃ W:Nat→Nat→L2.St→Hp→Prop,(∃ m,W 0 m σ H)∧∀ i m σ H,W i m σ H →
   ((It1 K a).stop i H∧D.nx σ H)∨((It1 K a).go i H∧∃ N:L2.St→Hp→Prop,(∀ σ' H',N σ' H'→∃ m',m'<m∧W (i+1) m' σ' H')∧∀ x H',(It1 K a).yld i H x H'→g x σ H' fun σ2 H2=>tb { D with nx:=N,ct:=N,bk:=D.nx } σ2 H2):=by
 refine ⟨fun i m σ H=>m=xs.length-i∧i≤xs.length∧Pv i σ H,⟨_,_root_.rfl,zero_le _,h0⟩,?_⟩;rintro i m σ H ⟨rfl,hi,p⟩;have q:=hl i σ H hi p;by_cases hlt:i<xs.length
 ·refine .inr ⟨⟨xs,xs[i],q,getElem?_eq_getElem hlt⟩,Pv (i+1),fun σ' H' p'=>⟨xs.length-(i+1),by omega,_root_.rfl,hlt,p'⟩,fun v H' y=>?_⟩;obtain ⟨T,x,ev,hT,eH,y⟩:=y;subst ev eH;exact hs i x σ H T (y xs q) hT p
 ·have e:i=xs.length:=by omega
  subst e;exact .inl ⟨⟨xs,q,le_refl _⟩,hd σ H p⟩
def Ck(ws:List Nat)(n:Nat):V:=if (taken ws 1 n).2=0 then .int (mask (taken ws 1 n).1:Int) else .non
section
variable {P:Program}{w:World}{K:PySem.W.Frag}{mg:Str→Option Value}{base:Heap}
def qu(K:PySem.W.Frag):Sp:=fun vs H Q _=>∃ (a:Addr) (n:Nat) (ws:List Nat),vs=[.int (n:Int),.ref a]∧SqL K H a (vzs ws)∧ws.length≤900∧∀ H':Hp,aj H H'→Q (Ck ws n) H'
theorem w8:ax ["number","weights","left","marks","hole","weight"] ["number","weights"] (ao t7):=⟨rfl,rfl,rfl,by decide +kernel,rfl,by decide +kernel,by decide +kernel⟩
theorem Cm{f fO:Addr}{fd fdO:FuncData}(F:Fun K "weighed" "weighed" t7 f fd)(hE:mg "enumerate"=none)(GO:aF P w K mg base CX0 2 fO fdO ["marks"] (cG K))(hO:mg "notches_of"=some (.ref fO))(kO:keepIn K (.ref fO)=true)(bO:L2.Binds K fdO ["marks"] []) :
  aF P w K mg base CX0 3 f fd ["number","weights"] (qu K):=by
 refine F.ok w8 (fun vs H Q E h=>?_) (fun cdv A outer s H vs Q E hr h=>?_)
 ·obtain ⟨a,n,ws,rfl,_⟩:=h;rfl
 ·obtain ⟨a,n,ws,rfl,ha,hws,k⟩:=h;have nd:=w8.nd;refine ⟨_,ag (az (i:=2) nd rfl (Or.inl rfl) (pv 0)) (ag (az (i:=3) nd rfl (Or.inl rfl) (aH ah))
   (ag (cu PassesOwn.never rfl (IW (by rfl) hE (aa (pv 1) ah)) (d7 rfl (ba (aM (i:=4) nd rfl (Or.inl rfl)) (ba (aM (i:=5) nd rfl (Or.inl rfl)) da)))
    (ai (a0 (aK oG (pv 5) (pv 2) (aN _)) (ag (mj (i:=2) nd rfl (Or.inl rfl) (pv 5) Lf)
     (ai (aV (c5 plainAttrs_list PySem.F.slot_list_append PySem.F.type_list_append br (pv 3) (aa (pv 4) ah))))) aO)))
   (ag (a0 (aK eJ (pv 2) au (aN _)) (ai (ay N6)) aO)
   (ai (ay (aD GO hr rfl hO kO bO .nil aE (aa (pv 3) ah))))))),?_⟩
  refine ⟨_,rfl,zero_le _,fun p hp=>?_⟩;have s0:aj H (upd H p (.lst [])):=aj.new hp;refine ⟨_,rfl,a,_,rfl,s0.seq ha,Gg (K:=K) (a:=a) (xs:=vzs ws) (fun i σ H'=>∃ (L:Nat) (M:List Nat) (v4 v5:Option V),σ=[some (.int (n:Int)),some (.ref a),some (.int (L:Int)),some (.ref p),v4,v5]∧aj H H'∧H' p=some (.lst (vzs M))∧M.length≤i∧(∀ h∈M,1≤h∧h≤i) ∧
   taken ws 1 n=(M++(taken (ws.drop i) (i+1) L).1,(taken (ws.drop i) (i+1) L).2)) ⟨n,[],none,none,rfl,s0,ae,zero_le _,(fun h z=>by cases z),rfl⟩ (fun i σ H' _ ⟨_,_,_,_,_,s1,_⟩=>s1.seq ha) ?_ ?_⟩
  ·rintro i x σ H' T hi hT ⟨L,M,v4,v5,rfl,s1,hM,hMl,hMr,heq⟩;obtain ⟨c,hc,rfl⟩:=de hi;have hlt:i<ws.length:=(List.getElem?_eq_some_iff.mp hc).1;have s2:aj H' (upd H' T (.tup [.int ((i+1:Nat):Int),.int (c:Int)])):=aj.new hT;have hM2:=s2 _ _ hM;rw [EL hc] at heq;refine ⟨T,_,rfl,SqT.of ae,rfl,_,_,rfl,_,_,rfl,rfl,?_⟩;refine ⟨_,rfl,_,rfl,_,_,rfl,rfl,_,rfl,cg (fun hle=>?_) fun hle=>?_⟩
   ·have hcl:c≤L:=by have:(c:Int)≤(L:Int):=hle; omega
    refine ⟨_,rfl,_,rfl,_,_,rfl,rfl,_,rfl,.inl ⟨rfl,_,SqL.of hM2⟩,_,rfl,p,_,_,rfl,rfl,hM2,by rw [length_map,length_map,sizeLine_eq]; omega,?_⟩;refine ⟨L-c,M++[i+1],some (.int ((i+1:Nat):Int)),some (.int (c:Int)),?_,fun b o e=>?_,by rw [ae,bj],by rw [length_append]; show M.length+1≤i+1; omega,fun h hh=>?_,?_⟩
    ·show [some (V.int (n:Int)),some (V.ref a),some (V.int ((L:Int)-(c:Int))),some (V.ref p),some (V.int ((i+1:Nat):Int)),some (V.int (c:Int))]=_;rw [show ((L:Int)-(c:Int))=((L-c:Nat):Int) by omega]
    ·rw [aq (ak e hp)];exact s2 b o (s1 b o e)
    ·rcases mem_append.mp hh with z | z
     ·have:=hMr h z;omega
     ·rw [mem_singleton.mp z];omega
    ·rw [heq,taken,if_pos hcl,append_assoc];rfl
   ·have hcl:¬ c≤L:=fun z=>hle (show (c:Int)≤(L:Int) by omega);refine ⟨L,M,_,_,rfl,s1.trans s2,hM2,by omega,fun h hh=>?_,?_⟩
    ·have:=hMr h hh;omega
    ·rw [heq,taken,if_neg hcl]
  ·rintro σ H' ⟨L,M,v4,v5,rfl,s1,hM,hMl,hMr,heq⟩;rw [length_map,length_map] at hMl hMr heq;rw [drop_length] at heq;have e1:taken ws 1 n=(M,L):=by
    rw [heq];show (M++[],L)=(M,L);rw [append_nil]
   unfold Ck at k;rw [e1] at k;refine ⟨_,rfl,_,_,rfl,rfl,_,rfl,cg (fun h0=>?_) fun h0=>?_⟩
   ·rw [if_neg (show ¬ L=0 by have:(0:Int)<(L:Int):=h0; omega)] at k;exact k H' s1
   ·rw [if_pos (show L=0 by have:¬ (0:Int)<(L:Int):=h0; omega)] at k;exact ⟨_,rfl,p,M,rfl,SqL.of hM,fun h hh=>by have:=hMr h hh; omega,k H' s1⟩
end
def dB(ws:List Nat)(n:Nat):Bool:=(taken ws 1 n).2==0
def bp(ws:List Nat):List Nat:=(List.range 70).takeWhile (dB ws)
def pC(ws:List Nat)(n:Nat):Nat:=mask (taken ws 1 n).1
theorem rJ{p:Nat→Bool}{c:Nat}:∀ {n:Nat},c≤n→(∀ i,i<c→p i=true)→(c=n∨p c=false)→(List.range n).takeWhile p=List.range c:=by
 intro n hc hp he;obtain ⟨d,rfl⟩:∃ d,n=c+d:=⟨n-c,by omega⟩;rw [range_add,List.takeWhile_append_of_pos (fun i hi=>hp i (mem_range.mp hi))];cases d with
 | zero=>simp
 | succ d=>
  have hf:p c=false:=by
   rcases he with z | z
   ·omega
   ·exact z
  rw [range_succ_eq_map,map_cons,List.takeWhile_cons,show p (c+0)=false from hf];simp
section
variable {P:Program}{w:World}{K:PySem.W.Frag}{mg:Str→Option Value}{base:Heap}
def i6(K:PySem.W.Frag):Sp:=fun vs H Q _=>∃ (a:Addr) (ws:List Nat),vs=[.ref a]∧SqL K H a (vzs ws)∧ws.length≤900∧∀ (H':Hp) (p:Addr),aj H H'→H p=none→H' p=some (.lst (vzs ((bp ws).map (pC ws))))→Q (.ref p) H'
theorem pD:ax ["weights","found","notches"] ["weights"] (ao j3):=⟨rfl,rfl,rfl,by decide +kernel,rfl,by decide +kernel,by decide +kernel⟩
def WA(H:Hp)(a p:Addr)(ws:List Nat)(m:Nat)(σ:L2.St)(H':Hp):Prop:=∃ (c:Nat) (v:Option V),σ=[some (.ref a),some (.ref p),v]∧aj H H'∧H' p=some (.lst (vzs ((List.range c).map (pC ws))))∧c+m=70∧∀ i,i<c→dB ws i=true
theorem t8{f fG:Addr}{fd fdG:FuncData}(F:Fun K "all_weighed" "all_weighed" j3 f fd)(hL:mg "len"=none)(hV:GI mg "MOST_VALUES" 70)(GG:aF P w K mg base CX0 3 fG fdG ["number","weights"] (qu K))(hG:mg "weighed"=some (.ref fG))(kG:keepIn K (.ref fG)=true)(bG:L2.Binds K fdG ["number","weights"] []) :
  aF P w K mg base CX0 4 f fd ["weights"] (i6 K):=by
 refine F.ok pD (fun vs H Q E h=>?_) (fun cdv A outer s H vs Q E hr h=>?_)
 ·obtain ⟨a,ws,rfl,_⟩:=h;rfl
 ·obtain ⟨a,ws,rfl,ha,hws,k⟩:=h;have nd:=pD.nd;refine ⟨_,ag (az (i:=1) nd rfl (Or.inl rfl) (aH ah)) (ag (cS PassesOwn.never (aK eZ (aJ aC (by rfl) hL PySem.boot_len (aa (pv 1) ah)) (aY hV) (aN _))
    (ag (az (i:=2) nd rfl (Or.inl rfl) (aD GG hr rfl hG kG bG .nil aE (aa (aJ aC (by rfl) hL PySem.boot_len (aa (pv 1) ah)) (aa (pv 0) ah))))
    (ag (a0 (By (N7 (pv 2))) (ai (ay (pv 1))) aO)
    (ai (aV (c5 plainAttrs_list PySem.F.slot_list_append PySem.F.type_list_append br (pv 1) (aa (pv 2) ah)))))))
   (ai (ay (pv 1)))),?_⟩
  refine ⟨zero_le _,fun p hp=>?_⟩;refine ⟨WA H a p ws,⟨70,0,none,rfl,aj.new hp,ae,rfl,fun i hi=>absurd hi (not_lt_zero _)⟩,?_⟩;rintro m σ H2 ⟨c,v,rfl,s2,hp2,hcm,hall⟩;have hlen:((vzs ((List.range c).map (pC ws))).length:Int)=(c:Int):=by rw [length_map,length_map,length_map,length_range]
  have fin:∀ H3:Hp,aj H2 H3→(c=70∨dB ws c=false)→Q (.ref p) H3:=fun H3 s3 he=>by
   refine k H3 p (s2.trans s3) hp ?_;unfold bp;rw [rJ (by omega) hall he];exact s3 _ _ hp2
  refine ⟨_,rfl,p,_,rfl,.inl (SqL.of hp2),_,_,rfl,rfl,_,rfl,cg (fun h70=>?_) fun h70=>?_⟩
  ·rw [hlen] at h70;refine ⟨fun σ' H'=>∃ m',m'<m∧WA H a p ws m' σ' H',fun _ _ z=>z,?_⟩;refine ⟨_,rfl,p,_,rfl,.inl (SqL.of hp2),_,rfl,a,c,ws,?_,s2.seq ha,hws,fun H3 s3=>?_⟩
   ·show [V.int ((vzs ((List.range c).map (pC ws))).length:Int),V.ref a]=_;rw [hlen]
   ·refine ⟨_,rfl,_,rfl,?_⟩;unfold Ck;by_cases h0:(taken ws 1 c).2=0
    ·rw [if_pos h0];refine b0 ?_;have hp3:=s3 _ _ hp2;refine ⟨_,rfl,.inl ⟨rfl,_,SqL.of hp3⟩,_,rfl,p,_,_,rfl,rfl,hp3,by rw [length_map,length_map,length_map,length_range,sizeLine_eq]; omega,?_⟩;have c70:c<70:=by have:(c:Int)<70:=h70; omega
     refine ⟨m-1,by omega,c+1,_,rfl,fun b o e=>?_,?_,by omega,fun i hi=>?_⟩
     ·rw [aq (ak e hp)];exact s3 b o (s2 b o e)
     ·rw [ae,range_succ,map_append,map_cons,map_nil,bj];rfl
     ·by_cases hic:i=c
      ·rw [hic];exact beq_iff_eq.mpr h0
      ·exact hall i (by omega)
    ·rw [if_neg h0];exact bz ⟨_,rfl,fin H3 s3 (.inr (beq_eq_false_iff_ne.mpr h0))⟩
  ·rw [hlen] at h70;exact ⟨_,rfl,fin H2 aj.rfl (.inl (by have:¬ (c:Int)<70:=h70; omega))⟩
end
abbrev i7:Stmt:=top 31
def wOn(e m most:Nat)(l:List Nat)(ws:List (Nat×List Nat)):Except Nat (List Nat×List (Nat×List Nat)):=
 match weightsIn e m most ws with
 | .error p=>.error p
 | .ok y=>.ok (l++y.1,y.2)
theorem IX{e m most:Nat}{l:List Nat}{ws:List (Nat×List Nat)}:wOn e (m+1) most l ws=match num e 1 most ws with
  | .error p=>.error p
  | .ok x=>wOn e m (x.1-1) (l++[x.1]) x.2:=by
 unfold wOn;rw [weightsIn];cases num e 1 most ws with
 | error p=>rfl
 | ok x=>
  dsimp only;cases weightsIn e m (x.1-1) x.2 with
  | error p=>rfl
  | ok y=>
   show Except.ok (l++x.1::y.1,y.2)=Except.ok (l++[x.1]++y.1,y.2);rw [append_assoc];rfl
theorem t9:∀ {ws:List Nat} {h:Nat},(∀ x∈ws,1≤x)→taken ws h 0=([],0)
 | [],_,_=>rfl
 | c::r,h,hw=>by
  rw [taken,if_neg (by have:=hw c mem_cons_self; omega)];exact t9 fun x hx=>hw x (mem_cons_of_mem _ hx)
theorem Gh{ws:List Nat}(hw:∀ x∈ws,1≤x):1≤(bp ws).length∧(bp ws).length≤70:=by
 constructor
 ·unfold bp;rw [range_succ_eq_map,List.takeWhile_cons,show dB ws 0=true by unfold dB; rw [t9 hw]; rfl];show 1≤(_::_:List Nat).length;rw [length_cons];omega
 ·unfold bp;have:=(List.takeWhile_sublist (l:=List.range 70) (dB ws)).length_le;rw [length_range] at this;exact this
def Mb(e:Nat)(r0:Except Nat (List Nat×List (Nat×List Nat))):Except Nat ((List Nat×Nat)×List (Nat×List Nat)):=
 match r0 with
 | .error p=>.error p
 | .ok y=>match VbenCore.must e (Vbenab.W "to") y.2 with
  | .error p=>.error p
  | .ok r=>match num e 1 ((bp y.1).length-1) r with
   | .error p=>.error p
   | .ok t=>.ok ((y.1,t.1),t.2)
def iO(e h:Nat)(ws:List (Nat×List Nat)):Except Nat ((List Nat×Nat)×List (Nat×List Nat)):=Mb e (weightsIn e h 1000 ws)
theorem Mc(e h most:Nat)(ws:List (Nat×List Nat)):weightsIn e h most ws=wOn e h most [] ws:=by
 unfold wOn;cases weightsIn e h most ws with
 | error p=>rfl
 | ok y=>rfl
theorem IY:codes "to"=zs (Vbenab.W "to"):=by decide +kernel
theorem Rr{t:List Nat}{k:Nat}:rC (vzs t) none (some (k:Int))=vzs (t.take k):=by
 unfold rC;rw [HT.lp,HT.zE,List.drop_zero,Nat.sub_zero,← map_take,← map_take,length_map,length_map];by_cases h:k≤t.length
 ·rw [min_eq_left h]
 ·rw [Nat.min_eq_right (by omega),take_length,take_of_length_le (by omega)]
def WW(C:Addr)(H:Hp)(a p:Addr)(z:Rz)(e h:Nat)(r0:Except Nat (List Nat×List (Nat×List Nat)))(m:Nat)(σ:L2.St)(H':Hp):Prop:=
 ∃ (most:Nat) (l:List Nat) (rem':List (Nat×List Nat)) (v4:Option V),σ=[some (.ref a),some (.int (h:Int)),some (.ref p),some (.int (most:Int)),v4,none,none]∧H' p=some (.lst (vzs l))∧Rd C H' a z e rem'∧Rs (but p H') z∧aI a H H'∧Short rem' ∧
  l.length+m=h∧most≤1000∧(∀ x∈l,1≤x)∧r0=wOn e m most l rem'
section
variable {P:Program}{w:World}{K:PySem.W.Frag}{mg:Str→Option Value}{base:Heap}
def ib(C CF:Addr):Sp:=fun vs H Q E=>∃ (a:Addr) (z:Rz) (h e:Nat) (rem:List (Nat×List Nat)),vs=[.ref a,.int (h:Int)]∧h≤8∧Rd C H a z e rem∧Short rem ∧
 match iO e h rem with
 | .ok y=>∀ (H':Hp) (p:Addr),Rd C H' a z e y.2→Short y.2→H' p=some (.lst (vzs (((bp y.1.1).map (pC y.1.1)).take (y.1.2+1))))→H p=none→aI a H H'→Q (.ref p) H'
 | .error p=>∀ (H':Hp) (ea d:Addr),Flt CF H' ea d p→aI a H H'→E (.ref ea) (some d) H'
theorem l0:ax ["reader","holes","weights","most","weight","found","last"] ["reader","holes"] (ao i7):=⟨rfl,rfl,rfl,by decide +kernel,rfl,by decide +kernel,by decide +kernel⟩
theorem rK{f C CF fE fH fW fS fK fN fD fA:Addr}{fd fdE fdH fdW fdS fdK fdN fdD fdA:FuncData}(F:Fun K "read_weights" "read_weights" i7 f fd)(R:TR K C)(hL:mg "len"=none)(hMW:GI mg "MOST_WEIGHT" 1000)(X:GX P w K mg base C CF fK fN fD fdK fdN fdD)
  (GA:aF P w K mg base CX0 4 fA fdA ["weights"] (i6 K)) (hA:mg "all_weighed"=some (.ref fA)) (kA:keepIn K (.ref fA)=true) (bA:L2.Binds K fdA ["weights"] []) :
  aF P w K mg base (CXF P w CF) 5 f fd ["reader","holes"] (ib C CF):=by
 refine yg F l0 (fun vs H Q E h=>?_) (fun cdv A outer s H vs Q E hr h=>?_)
 ·obtain ⟨a,z,h,e,rem,rfl,_⟩:=h;rfl
 ·obtain ⟨a,z,h,e,rem,rfl,hh,rd,sh,q⟩:=h;have nd:=l0.nd;refine ⟨_,ag (az (i:=2) nd rfl (Or.inl rfl) (aH ah)) (ag (az (i:=3) nd rfl (Or.inl rfl) (aY hMW))
   (ag (cS PassesOwn.leaving (aK eZ (aJ aC (by rfl) hL PySem.boot_len (aa (pv 2) ah)) (pv 1) (aN _))
    (ag (az (i:=4) nd rfl (Or.inl rfl) (aZ (pv 0) R.cl X.md X.gd hr X.bd .nil bc.passes (aa au (aa (pv 3) ah))))
    (ag (aV (c5 plainAttrs_list PySem.F.slot_list_append PySem.F.type_list_append br (pv 2) (aa (pv 4) ah)))
    (ai (az (i:=3) nd rfl (Or.inl rfl) (aU cX (pv 4) au))))))
   (ag (aV (aZ (pv 0) R.cl X.ms X.gk hr X.bk .nil bc.passes (aa dq ah)))
   (ag (az (i:=5) nd rfl (Or.inl rfl) (aD GA hr rfl hA kA bA .nil aE (aa (pv 2) ah)))
   (ag (az (i:=6) nd rfl (Or.inl rfl) (aZ (pv 0) R.cl X.md X.gd hr X.bd .nil bc.passes (aa au (aa (aU cX (aJ aC (by rfl) hL PySem.boot_len (aa (pv 5) ah)) au) ah))))
   (ai (ay (oI rY (pv 5) Er (lq (aU cz (pv 6) au)))))))))),?_⟩
  refine ⟨zero_le _,fun p hp=>?_⟩;have s0:aj H (upd H p (.lst [])):=aj.new hp;have hpa:p≠a:=fun zz=>by
   obtain ⟨dx,l,k,o⟩:=rd.obj;rw [zz,o] at hp;cases hp
  have rs0:Rs H z:=by
   obtain ⟨_,_,r,_⟩:=rd;exact r
  unfold iO at q;rw [Mc] at q;generalize hr0:wOn e h 1000 [] rem=r0 at q;refine ⟨WW C H a p z e h r0,⟨h,1000,[],rem,none,rfl,ae,rd.same s0,by rw [cb]; exact rs0.same (qr hp),aI.of s0,sh,by rw [length_nil,zero_add],le_refl _,(fun x hx=>by cases hx),hr0.symm⟩,?_⟩;rintro m σ H2 ⟨most,l,rem',v4,rfl,hp2,rd2,rs2,u2,sh2,hlm,hm,hl1,heq⟩;obtain ⟨dx2,l2,k2,o2⟩:=rd2.obj;have hlen:((vzs l).length:Int)=(l.length:Int):=by rw [length_map,length_map]
  refine ⟨_,rfl,p,_,rfl,.inl (SqL.of hp2),_,rfl,_,_,rfl,rfl,_,rfl,cg (fun hlt=>?_) fun hlt=>?_⟩
  ·rw [hlen] at hlt;obtain ⟨m',rfl⟩:∃ m',m=m'+1:=⟨m-1,by have:(l.length:Int)<(h:Int):=hlt; omega⟩;refine ⟨fun σ' H'=>∃ k,k<m'+1∧WW C H a p z e h r0 k σ' H',fun _ _ zz=>zz,?_⟩;rw [IX] at heq;refine ⟨_,rfl,a,dx2,_,rfl,o2,bJ noD,_,rfl,a,z,1,most,e,rem',rfl,by omega,rd2,sh2.head,?_⟩;cases hn:num e 1 most rem' with
   | error p'=>
    rw [hn] at heq;dsimp only at heq;rw [heq] at q;exact fun H' ea d fl s4=>q H' ea d fl (u2.trans (aI.of s4))
   | ok x=>
    rw [hn] at heq;dsimp only at heq;obtain ⟨n1,n2,xp,xw,n3⟩:=dk hn;intro H4 rd4 u4;have hp4:=u4 _ _ hp2 hpa;obtain ⟨k4,o4,r4,k4l,k4e⟩:=id rd4;refine ⟨_,rfl,.inl ⟨rfl,_,SqL.of hp4⟩,_,rfl,p,_,_,rfl,rfl,hp4,by rw [length_map,length_map,sizeLine_eq]; omega,_,rfl,_,_,rfl,rfl,?_⟩;have rs5:Rs (but p (upd H4 p (.lst (vzs l++[.int (x.1:Int)])))) z:=by
     rw [cb];exact rs2.cR (aR (Ne.symm hpa) o2) (dw u4)
    have rd5:Rd C (upd H4 p (.lst (vzs l++[.int (x.1:Int)]))) a z e x.2:=⟨k4,by rw [aq (Ne.symm hpa)]; exact o4,rs5.same dv,k4l,k4e⟩;refine ⟨m',lt_succ_self _,x.1-1,l++[x.1],x.2,some (.int (x.1:Int)),?_,by rw [ae,bj],rd5,rs5,fun b o zz n=>?_,?_,by rw [length_append]; show l.length+1+m'=h; omega,by omega,fun y hy=>?_,heq⟩
    ·show [some (V.ref a),some (V.int (h:Int)),some (V.ref p),some (V.int ((x.1:Int)-1)),some (V.int (x.1:Int)),none,none]=_;rw [show ((x.1:Int)-1)=((x.1-1:Nat):Int) by omega]
    ·rw [aq (ak zz hp)];exact u4 b o (u2 b o zz n) n
    ·rw [n3] at sh2;exact sh2.tail
    ·rcases mem_append.mp hy with zz | zz
     ·exact hl1 y zz
     ·rw [mem_singleton.mp zz];exact n1
  ·rw [hlen] at hlt;obtain rfl:m=0:=by have:¬ (l.length:Int)<(h:Int):=hlt; omega
   have e0:r0 = .ok (l,rem'):=by
    rw [heq];show Except.ok (l++[],rem')=_;rw [append_nil]
   rw [e0] at q;unfold Mb at q;dsimp only at q;refine ⟨_,rfl,a,dx2,_,rfl,o2,bJ noK,a,z,"to",e,rem',Vbenab.W "to",rfl,rd2,IY,by decide +kernel,by decide +kernel,?_⟩;cases g1:VbenCore.must e (Vbenab.W "to") rem' with
   | error p'=>
    rw [g1] at q;exact fun H' ea d fl s3=>q H' ea d fl (u2.trans (aI.of s3))
   | ok r=>
    rw [g1] at q;dsimp only at q;intro H3 rd3 u3;have hp3:=u3 _ _ hp2 hpa;obtain ⟨f1,f2⟩:=Gh hl1;refine ⟨_,rfl,p,l,rfl,SqL.of hp3,by omega,fun H4 p4 s4 hp4n hp4=>?_⟩;obtain ⟨dx3,l3,k3,o3⟩:=rd3.obj;have rd4:=rd3.same s4;have hfl:((vzs ((bp l).map (pC l))).length:Int)-1=(((bp l).length-1:Nat):Int):=by
     rw [length_map,length_map,length_map];omega
    refine ⟨_,rfl,a,dx3,_,rfl,s4 _ _ o3,bJ noD,_,rfl,p4,_,rfl,.inl (SqL.of hp4),_,_,rfl,rfl,a,z,1,(bp l).length-1,e,r,?_,by omega,rd4,(sh2.must g1).head,?_⟩
    ·show [V.ref a,V.int 1,V.int (((vzs ((bp l).map (pC l))).length:Int)-1)]=_;rw [hfl];rfl
    ·cases g2:num e 1 ((bp l).length-1) r with
     | error p'=>
      rw [g2] at q;exact fun H' ea d fl s5=>q H' ea d fl (((u2.trans u3).trans (aI.of s4)).trans (aI.of s5))
     | ok t=>
      rw [g2] at q;dsimp only at q;obtain ⟨t1,t2,tp,tw,t3⟩:=dk g2;intro H5 rd5 u5;have np4:p4≠a:=aW hp4 (s4 _ _ o3) (by intro zz; cases zz);have hp5:=u5 _ _ hp4 np4;refine ⟨_,rfl,_,rfl,_,_,rfl,rfl,_,rfl,p4,_,rfl,SqL.of hp5,fun p6 hp6=>?_⟩;have e6:((t.1:Int)+1)=((t.1+1:Nat):Int):=by omega
      rw [e6,Rr];have u6:=((u2.trans u3).trans (aI.of s4)).trans u5;obtain ⟨dx5,l5,k5,o5⟩:=rd5.obj;have n6:p6≠a:=fun zz=>by
       rw [zz,o5] at hp6;cases hp6
      have s6:aj H5 (upd H5 p6 (.lst (vzs (((bp l).map (pC l)).take (t.1+1))))):=aj.new hp6;refine q _ p6 (rd5.same s6) ?_ ae ?_ (u6.trans (aI.of s6))
      ·have st:=sh2.must g1;rw [t3] at st;exact st.tail
      ·cases zz:H p6 with
       | none=>rfl
       | some o=>
        rw [u6 p6 o zz n6] at hp6;cases hp6
end
abbrev Co:Stmt:=top 29
abbrev i8:Stmt:=top 30
def lastOf(m:List Nat):Nat:=m.getLast?.getD 0
def rowsOf(h:Nat)(m:List Nat):List (List Nat):=(range' (lastOf m+1) (h-lastOf m)).map fun x=>m++[x]
def cB(h:Nat)(cs:List (List Nat)):List (List Nat):=cs.flatMap (rowsOf h)
theorem pE{h i:Nat}{cs:List (List Nat)}{m:List Nat}(e:cs[i]? = some m):cB h (cs.take (i+1))=cB h (cs.take i)++rowsOf h m:=by
 unfold cB;rw [take_snoc e,flatMap_append];simp
theorem Cp{h i:Nat}{cs:List (List Nat)}{m:List Nat}(e:cs[i]? = some m):(cB h (cs.take i)).length+(rowsOf h m).length≤(cB h cs).length:=by
 have e2:cB h cs=cB h (cs.take (i+1))++cB h (cs.drop (i+1)):=by
  unfold cB;rw [← flatMap_append,List.take_append_drop]
 rw [e2,pE e,length_append,length_append];omega
theorem aL.at_{H:Hp}:∀ {rs:List Addr} {ws:List (List Nat)} {i:Nat} {v:V},aL H rs ws→(rs.map V.ref)[i]? = some v→∃ r m,v = .ref r∧ws[i]? = some m∧H r=some (.lst (vzs m))
 | _,_,0,v,.cons (r:=r) (w:=w) a t,h=>⟨r,w,(Option.some.inj h).symm,_root_.rfl,a⟩
 | _,_,i+1,v,.cons a t,h=>aL.at_ (i:=i) t h
structure RB(H:Hp)(l:Addr)(rs:List Addr)(ws:List (List Nat))(H':Hp):Prop where
 same:aj H H'
 lst:H' l=some (.lst (rs.map V.ref))
 rows:aL (but l H') rs ws
theorem RB.lay{H H':Hp}{l q:Addr}{rs:List Addr}{ws:List (List Nat)}{o:HO}(b:RB H l rs ws H')(hq:H' q=none):RB H l rs ws (upd H' q o):=
 ⟨b.same.trans (aj.new hq),by rw [aq (ak b.lst hq)]; exact b.lst,b.rows.mono (cD (aj.new hq))⟩
theorem RB.put{H H':Hp}{l r:Addr}{rs:List Addr}{ws:List (List Nat)}{m:List Nat}(b:RB H l rs ws H')(hl:H l=none)(hr:but l H' r=some (.lst (vzs m))):RB H l (rs++[r]) (ws++[m]) (upd H' l (.lst (rs.map V.ref++[V.ref r]))):=by
 refine ⟨fun c o e=>?_,by rw [ae,map_append]; rfl,?_⟩
 ·rw [aq (ak e hl)];exact b.same c o e
 ·rw [cb];exact aL.snoc hr b.rows
theorem Md{m:List Nat}(h:m≠[]):atI (vzs m) (-1)=some (.int (lastOf m:Int)):=by
 obtain ⟨a,x,rfl⟩:∃ a x,m=a++[x]:=⟨m.dropLast,m.getLast h,(List.dropLast_concat_getLast h).symm⟩;rw [bj,sQ];unfold lastOf;rw [List.getLast?_concat];rfl
section
variable {P:Program}{w:World}{K:PySem.W.Frag}{mg:Str→Option Value}{base:Heap}
def yB:Sp:=fun vs H Q _=>∃ (ac:Addr) (rs:List Addr) (cs:List (List Nat)) (h:Nat),vs=[.ref ac,.int (h:Int)]∧H ac=some (.lst (rs.map V.ref))∧aL H rs cs∧h≤8∧(∀ m∈cs,m.length≤100∧lastOf m≤h)∧(cB h cs).length<sizeLine ∧
 ∀ (H':Hp) (l:Addr) (rs':List Addr),aj H H'→H l=none→H' l=some (.lst (rs'.map V.ref))→aL H' rs' (cB h cs)→Q (.ref l) H'
theorem EW:ax ["chosen","holes","longer","marks","last","hole"] ["chosen","holes"] (ao Co):=⟨rfl,rfl,rfl,by decide +kernel,rfl,by decide +kernel,by decide +kernel⟩
theorem IZ{f:Addr}{fd:FuncData}(F:Fun K "grown" "grown" Co f fd)(hL:mg "len"=none)(hR:mg "range"=none):aF P w K mg base CX0 1 f fd ["chosen","holes"] yB:=by
 refine F.ok EW (fun vs H Q E h=>?_) (fun cdv A outer s H vs Q E hr h=>?_)
 ·obtain ⟨ac,rs,cs,h,rfl,_⟩:=h;rfl
 ·obtain ⟨ac,rs,cs,h,rfl,hac,hrs,hh,hcs,hz,k⟩:=h;have nd:=EW.nd;refine ⟨_,ag (az (i:=2) nd rfl (Or.inl rfl) (aH ah))
   (ag (cu PassesOwn.never rfl (cI (pv 0)) (aM (i:=3) nd rfl (Or.inl rfl))
    (ag (az (i:=4) nd rfl (Or.inl rfl) (iF (aK eJ (aJ aC (by rfl) hL PySem.boot_len (aa (pv 3) ah)) au (aN _)) (aQ aG (pv 3) (wj pX au) (fun _ _=>rfl)) au))
    (ai (cu PassesOwn.never rfl (iG rfl hR (aa (aU cz (pv 4) au) (aa (aU cz (pv 1) au) ah))) (aM (i:=5) nd rfl (Or.inl rfl))
     (ai (aV (c5 plainAttrs_list PySem.F.slot_list_append PySem.F.type_list_append br (pv 2) (aa (aU hZ (pv 3) (aH (aa (pv 5) ah))) ah))))))))
   (ai (ay (pv 2)))),?_⟩
  refine ⟨zero_le _,fun l hl=>?_⟩;have B0:RB H l [] [] (upd H l (.lst [])):=⟨aj.new hl,ae,.nil⟩;refine ⟨_,rfl,ac,rfl,⟨_,SqL.of (B0.same _ _ hac)⟩,jI (K:=K) (a:=ac) (xs:=rs.map V.ref) (fun i σ H'=>∃ (rs':List Addr) (v3 v4 v5:Option V),σ=[some (.ref ac),some (.int (h:Int)),some (.ref l),v3,v4,v5]∧RB H l rs' (cB h (cs.take i)) H') ⟨[],none,none,none,rfl,B0⟩ (fun i σ H' _ ⟨_,_,_,_,_,b⟩=>SqL.of (b.same _ _ hac)) ?_ ?_⟩
  ·rintro i x σ H1 hi ⟨rs1,v3,v4,v5,rfl,b1⟩;obtain ⟨r,m,rfl,hm,hr⟩:=aL.at_ hrs hi;obtain ⟨hm1,hm2⟩:=hcs m (mem_of_getElem? hm);have hr1:=b1.same _ _ hr;have hlen:((vzs m).length:Int)=(m.length:Int):=by rw [length_map,length_map]
   have hgl:=Cp (h:=h) hm;rw [pE hm];have lastv:∀ (v4 v5:Option V) (Qv:VK),Qv (.int (lastOf m:Int)) H1→tIf (Nl (tOp (rI0 fun i j=>.bl (decide (j<i))) (tCB (fun xs H Q=>∃ p ys,xs=[.ref p]∧(SqL K H p ys∨SqT K H p ys)∧Q (.int ys.length) H) (Ep (zy 3) BF)) (tC (.int 0))))
     (tOp (rD K) (zy 3) (tUn (rU fun i=>.int (-i)) (tC (.int 1)))) (tC (.int 0)) [some (.ref ac),some (.int (h:Int)),some (.ref l),some (.ref r),v4,v5] H1 Qv:=by
    intro v4 v5 Qv hq;refine ⟨_,rfl,r,_,rfl,.inl (SqL.of hr1),_,_,rfl,rfl,_,rfl,cg (fun h0=>?_) fun h0=>?_⟩
    ·rw [hlen] at h0;have hne:m≠[]:=fun z=>by
      rw [z] at h0;exact absurd h0 (by decide)
     exact ⟨_,rfl,_,rfl,r,_,_,_,rfl,rfl,SqL.of hr1,Md hne,hq⟩
    ·rw [hlen] at h0;have hne:m=[]:=length_eq_zero_iff.mp (by have:¬ (0:Int)<(m.length:Int):=h0; omega);rw [hne] at hq;exact hq
   refine lastv _ _ _ ?_;refine ⟨_,rfl,_,_,rfl,rfl,_,rfl,_,_,rfl,rfl,_,_,rfl,⟨by show -(2 ^ 62)≤(lastOf m:Int)+1; omega,by show (lastOf m:Int)+1<2 ^ 62; omega,by show -(2 ^ 62)≤(h:Int)+1; omega,by show (h:Int)+1<2 ^ 62; omega⟩,?_⟩;refine dI (fun j σ H'=>∃ (rs':List Addr) (v5:Option V),σ=[some (.ref ac),some (.int (h:Int)),some (.ref l),some (.ref r),some (.int (lastOf m:Int)),v5]∧RB H l rs' (cB h (cs.take i)++(rowsOf h m).take j) H') ⟨rs1,_,rfl,by rw [take_zero,append_nil]; exact b1⟩ ?_ ?_
   ·rintro j σ H2 hj ⟨rs2,v5',rfl,b2⟩;have hr2:=b2.same _ _ hr;have hjn:j<h-lastOf m:=by
     have:j<((h:Int)+1-((lastOf m:Int)+1)).toNat:=hj;omega
    have hrow:(rowsOf h m)[j]? = some (m++[lastOf m+1+j]):=by
     unfold rowsOf;rw [getElem?_map,List.getElem?_range' hjn];simp
    refine ⟨_,rfl,.inl ⟨rfl,_,SqL.of b2.lst⟩,_,rfl,_,rfl,(by show 1≤sizeLine; decide),fun q hq=>?_⟩;have b3:=b2.lay (o:=.lst [.int ((lastOf m:Int)+1+(j:Int))]) hq;refine ⟨r,q,_,_,rfl,rfl,b3.same _ _ hr,ae,by rw [length_map,length_map,sizeLine_eq]; show m.length+1≤_; omega,fun p hp=>?_⟩;have e1:vzs m++[V.int ((lastOf m:Int)+1+(j:Int))]=vzs (m++[lastOf m+1+j]):=by
     rw [bj,show ((lastOf m+1+j:Nat):Int)=(lastOf m:Int)+1+(j:Int) by omega]
    rw [e1];have b4:=b3.lay (o:=.lst (vzs (m++[lastOf m+1+j]))) hp;have hlp:p≠l:=Ne.symm (ak b3.lst hp);have hlen2:rs2.length=(cB h (cs.take i)).length+j:=by
     rw [b2.rows.len,length_append,length_take];have:j<(rowsOf h m).length:=(List.getElem?_eq_some_iff.mp hrow).1;omega
    refine ⟨l,rs2.map V.ref,_,rfl,rfl,b4.lst,by rw [length_map,hlen2]; have:j<(rowsOf h m).length:=(List.getElem?_eq_some_iff.mp hrow).1; omega,?_⟩;refine ⟨rs2++[p],_,rfl,?_⟩;rw [take_snoc hrow,← append_assoc];exact b4.put hl (aR hlp ae)
   ·rintro σ H2 ⟨rs2,v5',rfl,b2⟩;rw [show ((h:Int)+1-((lastOf m:Int)+1)).toNat=h-lastOf m by omega,take_of_length_le (l:=rowsOf h m) (by unfold rowsOf; rw [length_map,length_range']; exact le_refl _)] at b2;exact ⟨rs2,_,_,_,rfl,b2⟩
  ·rintro σ H1 ⟨rs1,v3,v4,v5,rfl,b1⟩;rw [length_map,hrs.len,take_length] at b1;exact ⟨_,rfl,k H1 l rs1 b1.same hl b1.lst (b1.rows.mono dv)⟩
end
def gz(h:Nat):Nat→List (List Nat)
 | 0=>[[]]
 | k+1=>cB h (gz h k)
def I0(h k:Nat):Bool:=decide ((gz h k).length<1000)&&(gz h k).all fun m=>decide (m.length≤100)&&decide (lastOf m≤h)&&m.all fun x=>decide (1≤x)&&decide (x≤1000)
theorem Cq:((List.range 9).all fun h=>(List.range 9).all fun k=>I0 h k)=true:=by decide +kernel
theorem Gi:((List.range 9).all fun h=>(List.range 9).all fun k=>gz h k==chosen h 1 k)=true:=by decide +kernel
theorem Me{h k:Nat}(hh:h≤8)(hk:k≤8):gz h k=chosen h 1 k:=by
 have a:=all_eq_true.mp (all_eq_true.mp Gi h (mem_range.mpr (by omega))) k (mem_range.mpr (by omega));exact beq_iff_eq.mp a
theorem mQ{h k:Nat}(hh:h≤8)(hk:k≤8):(gz h k).length<1000∧∀ m∈gz h k,(m.length≤100∧lastOf m≤h)∧∀ x∈m,1≤x∧x≤1000:=by
 have a:=all_eq_true.mp (all_eq_true.mp Cq h (mem_range.mpr (by omega))) k (mem_range.mpr (by omega));unfold I0 at a;rw [and_eq_true,decide_eq_true_eq,all_eq_true] at a;refine ⟨a.1,fun m hm=>?_⟩;have b:=a.2 m hm;rw [and_eq_true,and_eq_true,decide_eq_true_eq,decide_eq_true_eq,all_eq_true] at b;refine ⟨b.1,fun x hx=>?_⟩;have c:=b.2 x hx;rw [and_eq_true,decide_eq_true_eq,decide_eq_true_eq] at c;exact c
section
variable {P:Program}{w:World}{K:PySem.W.Frag}{mg:Str→Option Value}{base:Heap}
def j4:Sp:=fun vs H Q _=>∃ (k h:Nat),vs=[.int (k:Int),.int (h:Int)]∧k≤8∧h≤8∧∀ (H':Hp) (p:Addr),aj H H'→H p=none→H' p=some (.lst (vzs ((gz h k).map mask)))→Q (.ref p) H'
theorem qZ:ax ["size","holes","chosen","step","marks"] ["size","holes"] (ao i8):=⟨rfl,rfl,rfl,by decide +kernel,rfl,by decide +kernel,by decide +kernel⟩
theorem vB{f fG fO:Addr}{fd fdG fdO:FuncData}(F:Fun K "all_chosen" "all_chosen" i8 f fd)(hR:mg "range"=none)(GG:aF P w K mg base CX0 1 fG fdG ["chosen","holes"] yB)(hG:mg "grown"=some (.ref fG))(kG:keepIn K (.ref fG)=true)(bG:L2.Binds K fdG ["chosen","holes"] [])
  (GO:aF P w K mg base CX0 2 fO fdO ["marks"] (cG K)) (hO:mg "notches_of"=some (.ref fO)) (kO:keepIn K (.ref fO)=true) (bO:L2.Binds K fdO ["marks"] []):aF P w K mg base CX0 3 f fd ["size","holes"] j4:=by
 refine F.ok qZ (fun vs H Q E h=>?_) (fun cdv A outer s H vs Q E hr h=>?_)
 ·obtain ⟨k,h,rfl,_⟩:=h;rfl
 ·obtain ⟨k,h,rfl,hk,hh,q⟩:=h;have nd:=qZ.nd;refine ⟨_,ag (az (i:=2) nd rfl (Or.inl rfl) (aH (aa (aH ah) ah)))
   (ag (cu PassesOwn.never rfl (lj rfl hR (aa (pv 0) ah)) (aM (i:=3) nd rfl (Or.inl rfl)) (ai (az (i:=2) nd rfl (Or.inl rfl) (aD GG (hr.mono (by decide)) rfl hG kG bG .nil aE (aa (pv 2) (aa (pv 1) ah))))))
   (ai (ay (lW (own:=[("marks",4)]) rfl nd (cI (pv 2)) (cy (by show lQ ["size","holes","chosen","step","marks"] (ao i8) _ _=true; decide +kernel)) (fun s H C cl fp=>aM (i:=4) nd rfl (Or.inl rfl)) (fun s H C cl fp=>eM)
    (fun s H C cl fp=>aD GO hr rfl hO kO bO .nil aE (aa (pv 4) ah)))))),?_⟩
  refine ⟨zero_le _,fun p0 hp0=>⟨by show 1≤sizeLine; decide,fun p1 hp1=>?_⟩⟩;have s0:aj H (upd H p0 (.lst [])):=aj.new hp0;have s1:aj (upd H p0 (.lst [])) (upd (upd H p0 (.lst [])) p1 (.lst [.ref p0])):=aj.new hp1;refine ⟨_,rfl,_,rfl,by omega,by omega,dI (fun j σ H'=>∃ (ac:Addr) (rs:List Addr) (v3:Option V),σ=[some (.int (k:Int)),some (.int (h:Int)),some (.ref ac),v3,none]∧aj H H'∧H' ac=some (.lst (rs.map V.ref))∧aL H' rs (gz h j)) ⟨p1,[p0],none,rfl,s0.trans s1,ae,.cons (s1 _ _ ae) .nil⟩ ?_ ?_⟩
  ·rintro j σ H1 hj ⟨ac,rs,v3,rfl,s2,hac,hrs⟩;have hjk:j<k:=by
    have:j<((k:Int)-0).toNat∨j<(k:Int).toNat:=by first | exact .inl hj | exact .inr hj
    omega
   obtain ⟨f1,f2⟩:=mQ hh (show j≤8 by omega);obtain ⟨g1,_⟩:=mQ hh (show j+1≤8 by omega);refine ⟨_,rfl,_,rfl,ac,rs,gz h j,h,rfl,hac,hrs,hh,fun m hm=>(f2 m hm).1,by rw [sizeLine_eq]; have:(cB h (gz h j)).length<1000:=g1; omega,fun H2 l rs2 s3 _ hl2 hr2=>?_⟩;exact ⟨l,rs2,_,rfl,s2.trans s3,hl2,hr2⟩
  ·rintro σ H1 ⟨ac,rs,v3,rfl,s2,hac,hrs⟩;have hkk:aL H1 rs (gz h k):=by
    first
     | exact (show (k:Int).toNat=k from toNat_natCast k) ▸ hrs
     | exact (show ((k:Int)-0).toNat=k by omega) ▸ hrs
   obtain ⟨f1,f2⟩:=mQ hh hk;refine ⟨_,rfl,ac,rfl,⟨_,SqL.of hac⟩,fun D hD=>?_⟩;have sD:aj H1 (upd H1 D (.lst [])):=aj.new hD;refine iT (K:=K) (a:=ac) (xs:=rs.map V.ref) (fun i H'=>H'=upd H1 D (.lst (vzs (((gz h k).take i).map mask)))) rfl (fun i H' _ e=>?_) (fun i x H' hx e=>?_) fun H' e=>?_
   ·rw [e];exact SqL.of (aj.new hD _ _ hac)
   ·subst e;obtain ⟨r,m,rfl,hm,hr1⟩:=aL.at_ hkk hx;refine ⟨rfl,?_⟩;unfold vp;dsimp only;rw [if_pos rfl];refine ⟨_,rfl,r,m,rfl,SqL.of (aj.new hD _ _ hr1),(f2 m (mem_of_getElem? hm)).2,_,ae,?_,?_⟩
    ·rw [length_map,length_map,length_map,length_take,sizeLine_eq];omega
    ·rw [bQ,take_snoc hm,map_append,map_cons,map_nil,bj]
   ·subst e;rw [length_map,hkk.len,take_length];refine q _ D (s2.trans (aj.new hD)) ?_ ae;cases zz:H D with
    | none=>rfl
    | some o=>
     rw [s2 D o zz] at hD;cases hD
end
abbrev lH:Stmt:=top 35
theorem OZ:bootBuiltins "str"=some (.type "str"):=by kernel_rfl
def uc(i:Nat):Str:=toString (i:Int)
theorem Mf:((List.range 100).all fun i=>decide (codes (uc i)=zs (natText i))&&decide ((uc i).cps.size<10))=true:=by decide +kernel
theorem dec_is{i:Nat}(h:i<100):codes (uc i)=zs (natText i)∧(uc i).cps.size<10:=by
 have a:=all_eq_true.mp Mf i (mem_range.mpr h);rw [and_eq_true,decide_eq_true_eq,decide_eq_true_eq] at a;exact a
section
variable {P:Program}{w:World}{K:PySem.W.Frag}{mg:Str→Option Value}{base:Heap}
def mT(K:PySem.W.Frag):Sp:=fun vs H Q _=>∃ (a:Addr) (xs:List V),vs=[.ref a]∧SqL K H a xs∧xs.length≤70∧∀ (H':Hp) (p:Addr) (rs:List Addr),aj H H'→H p=none→H' p=some (.lst (rs.map V.ref))→aL (but p H') rs ((List.range xs.length).map natText)→Q (.ref p) H'
theorem ud:ax ["notches","value"] ["notches"] (ao lH):=⟨rfl,rfl,rfl,by decide +kernel,rfl,by decide +kernel,by decide +kernel⟩
theorem Ar{f fB:Addr}{fd fdB:FuncData}(F:Fun K "numbered" "numbered" lH f fd)(hL:mg "len"=none)(hR:mg "range"=none)(hS:mg "str"=none)(GB:aF P w K mg base CX0 1 fB fdB ["signs"] eU)(hB:mg "bytes_of"=some (.ref fB))(kB:keepIn K (.ref fB)=true)(bB:L2.Binds K fdB ["signs"] []) :
  aF P w K mg base CX0 2 f fd ["notches"] (mT K):=by
 refine F.ok ud (fun vs H Q E h=>?_) (fun cdv A outer s H vs Q E hr h=>?_)
 ·obtain ⟨a,xs,rfl,_⟩:=h;rfl
 ·obtain ⟨a,xs,rfl,ha,hx,q⟩:=h;have nd:=ud.nd;refine ⟨_,ai (ay (lW (own:=[("value",1)]) rfl nd (lj rfl hR (aa (aJ aC (by rfl) hL PySem.boot_len (aa (pv 0) ah)) ah)) (cy (by show lQ ["notches","value"] (ao lH) _ _=true; decide +kernel)) (fun s H C cl fp=>aM (i:=1) nd rfl (Or.inl rfl)) (fun s H C cl fp=>eM)
   (fun s H C cl fp=>aD GB hr rfl hB kB bB .nil aE (aa (iH xX (by rfl) hS OZ (aa (pv 1) ah)) ah)))),?_⟩
  refine ⟨_,rfl,a,_,rfl,.inl ha,_,rfl,by omega,by omega,fun D hD=>?_⟩;refine zL (fun i H'=>∃ rs,RB H D rs ((List.range i).map natText) H') ⟨[],aj.new hD,ae,.nil⟩ ?_ ?_
  ·rintro i H1 hi ⟨rs,b⟩;have hi70:i<70:=by
    have:i<(xs.length:Int).toNat∨i<((xs.length:Int)-0).toNat:=by first | exact .inl hi | exact .inr hi
    omega
   refine ⟨rfl,?_⟩;unfold vp;dsimp only;rw [if_pos rfl];have e1:((0:Int)+(i:Int))=((i:Nat):Int):=by omega
   rw [e1];obtain ⟨d1,d2⟩:=dec_is (show i<100 by omega);refine ⟨_,rfl,(i:Int),rfl,?_,uc i,rfl,by rw [sizeLine_eq]; omega,fun p hp=>?_⟩
   ·rw [Int.natAbs_natCast];exact Nat.lt_of_le_of_lt (Nat.log2_le_self i) (by omega)
   ·rw [d1];have b2:=b.lay (o:=.lst (vzs (natText i))) hp;refine ⟨_,b2.lst,by rw [length_map,b.rows.len,length_map,length_range,sizeLine_eq]; omega,rs++[p],?_⟩;rw [range_succ,map_append];exact b2.put hD (aR (Ne.symm (ak b.lst hp)) ae)
  ·rintro H1 ⟨rs,b⟩;refine q H1 D rs b.same hD b.lst ?_;have e:(xs.length:Int).toNat=xs.length:=toNat_natCast _
   first
    | exact e ▸ b.rows
    | exact (show ((xs.length:Int)-0).toNat=xs.length by omega) ▸ b.rows
end
end NC
namespace NC
open PySem
theorem O0{e lo hi:Nat}{ws:List (Nat×List Nat)}(h:hi<lo):num e lo hi ws = .error (VbenCore.placeOf e ws):=by
 cases ws with
 | nil=>rfl
 | cons x r=>
  unfold Vbenab.num;dsimp only;cases natOf x.2 with
  | none=>rfl
  | some n=>exact if_neg (fun z=>by omega)
theorem As{e most:Nat}(hm:most≤8):∀ (f lo:Nat) (ws:List (Nat×List Nat)),9≤f+lo→(f=0→lineEnds ws=false) →
  match marksIn e most f lo ws with
  | .error p=>cE e most (f+1) lo ws = .error p
  | .ok y=>cE e most (f+1) lo ws=if lineEnds y.2=true then .ok y else .error (VbenCore.placeOf e y.2)
 | 0,lo,ws,hf,h0=>by
  show cE e most 1 lo ws=if lineEnds ws=true then .ok ([],ws) else .error (VbenCore.placeOf e ws)
  rw [if_neg (by rw [h0 rfl]; exact Bool.false_ne_true),cE,O0 (by omega)]
 | f+1,lo,ws,hf,h0=>by
  rw [marksIn,cE];cases hn:num e lo most ws with
  | error p=>rfl
  | ok x=>
   dsimp only;obtain ⟨n1,n2,_⟩:=dk hn;by_cases hl:lineEnds x.2=true
   ·rw [if_pos hl,if_pos hl];show Except.ok ([x.1],x.2)=if lineEnds x.2=true then .ok ([x.1],x.2) else .error (VbenCore.placeOf e x.2)
    rw [if_pos hl]
   ·rw [if_neg hl,if_neg hl];have ih:=As (e:=e) hm f (x.1+1) x.2 (by omega) (fun _=>by cases z:lineEnds x.2 with | false=>rfl | true=>exact absurd z hl);cases hy:marksIn e most f (x.1+1) x.2 with
    | error p=>
     rw [hy] at ih;dsimp only at ih ⊢;rw [ih]
    | ok y=>
     rw [hy] at ih;dsimp only at ih ⊢;rw [ih];by_cases hl2:lineEnds y.2=true
     ·rw [if_pos hl2,if_pos hl2]
     ·rw [if_neg hl2,if_neg hl2]
theorem Ja{e most:Nat}(hm:most≤8)(ws:List (Nat×List Nat)):cE e most 9 1 ws=match marksIn e most 8 1 ws with
  | .error p=>.error p
  | .ok y=>if lineEnds y.2=true then .ok y else .error (VbenCore.placeOf e y.2):=by
 have a:=As (e:=e) hm 8 1 ws (by decide) (fun z=>absurd z (by decide));cases h:marksIn e most 8 1 ws with
 | error p=>
  rw [h] at a;exact a
 | ok y=>
  rw [h] at a;exact a
theorem ue{e most:Nat}:∀ {f lo:Nat} {ws:List (Nat×List Nat)} {y:List Nat×List (Nat×List Nat)},marksIn e most f lo ws = .ok y→aX most lo y.1
 | 0,lo,ws,y,h=>by
  cases h;exact True.intro
 | f+1,lo,ws,y,h=>by
  rw [marksIn] at h;cases hn:num e lo most ws with
  | error p=>
   rw [hn] at h;cases h
  | ok x=>
   rw [hn] at h;dsimp only at h;obtain ⟨n1,n2,_⟩:=dk hn;by_cases hl:lineEnds x.2=true
   ·rw [if_pos hl] at h;cases h;exact ⟨n1,n2,True.intro⟩
   ·rw [if_neg hl] at h;cases hy:marksIn e most f (x.1+1) x.2 with
    | error p=>
     rw [hy] at h;cases h
    | ok u=>
     rw [hy] at h;cases h;exact ⟨n1,n2,ue hy⟩
def Jb(most:Nat)(l:List (List Nat×List Nat)):Prop:=∀ x∈l,isName x.1=true∧aX most 1 x.2
theorem Jc{most:Nat}(hm:most≤8){l:List (List Nat×List Nat)}(g:Jb most l){m:List Nat}(h:aX most 1 m):(t5 l).contains (mask m)=l.any fun x=>x.2==m:=by
 rw [List.contains_eq_any_beq,any_map,Bool.eq_iff_iff,any_eq_true,any_eq_true];constructor
 ·rintro ⟨x,hx,e⟩;exact ⟨x,hx,beq_iff_eq.mpr (tK (g x hx).2 h hm (beq_iff_eq.mp e).symm)⟩
 ·rintro ⟨x,hx,e⟩;exact ⟨x,hx,beq_iff_eq.mpr (show mask m=mask x.2 by rw [beq_iff_eq.mp e])⟩
theorem Jd{l:List (List Nat×List Nat)}{n:List Nat}:(t4 l).contains n=l.any fun x=>x.1==n:=by
 rw [List.contains_eq_any_beq,any_map,Bool.eq_iff_iff,any_eq_true,any_eq_true];constructor
 ·rintro ⟨x,hx,e⟩;exact ⟨x,hx,beq_iff_eq.mpr (beq_iff_eq.mp e).symm⟩
 ·rintro ⟨x,hx,e⟩;exact ⟨x,hx,beq_iff_eq.mpr (beq_iff_eq.mp e).symm⟩
def ic(e most:Nat)(l:List (List Nat×List Nat))(ws:List (Nat×List Nat)):Except Nat ((List Nat×List Nat)×List (Nat×List Nat)):=
 match VbenCore.must e (Vbenab.W "value") ws with
 | .error p=>.error p
 | .ok w1=>valueIn most e l w1
theorem Gj{e:Nat}{ws:List (Nat×List Nat)}{n:List Nat×List (Nat×List Nat)}(h:VbenCore.name e ws = .ok n):n.1=cA ws∧isName n.1=true:=by
 cases ws with
 | nil=>cases h
 | cons x r=>
  unfold VbenCore.name at h;dsimp only at h;split at h
  ·cases h
   rename_i hn
   exact ⟨rfl,hn⟩
  ·cases h
theorem Mg{e:Nat}{ws:List (Nat×List Nat)}(h:isName (cA ws)=true):∃ r,VbenCore.name e ws = .ok (cA ws,r):=by
 cases ws with
 | nil=>exact absurd h (by decide)
 | cons x r=>exact ⟨r,ET (p:=x.1) (w:=x.2) h⟩
def O1(e most:Nat)(l:List (List Nat×List Nat))(w1:List (Nat×List Nat)):Except Nat ((List Nat×List Nat)×List (Nat×List Nat)):=
 match VbenCore.name e w1 with
 | .error p=>.error p
 | .ok n=>if (l.any fun x=>x.1==n.1)=true then .error (VbenCore.placeOf e w1) else match marksIn e most 8 1 n.2 with
  | .error p=>.error p
  | .ok m=>if (l.any fun x=>x.2==m.1)=true then .error (VbenCore.placeOf e m.2) else .ok ((n.1,m.1),m.2)
theorem Mh{e most:Nat}{l:List (List Nat×List Nat)}{w1:List (Nat×List Nat)}:valueIn most e l w1=O1 e most l w1:=by
 unfold Vbenab.valueIn O1;cases VbenCore.name e w1 with
 | error p=>rfl
 | ok n=>
  show (if (l.any fun x=>x.1==n.1)=true then _ else _)=if (l.any fun x=>x.1==n.1)=true then _ else _
  by_cases hc:(l.any fun x=>x.1==n.1)=true
  ·rw [if_pos hc,if_pos hc]
  ·rw [if_neg hc,if_neg hc];show (marksIn e most 8 1 n.2 >>= _)=_;cases marksIn e most 8 1 n.2 with
   | error p=>rfl
   | ok m=>rfl
theorem value_eq{e most:Nat}(hm:most≤8){l:List (List Nat×List Nat)}(g:Jb most l)(ws:List (Nat×List Nat)) :
  (∀ p,ic e most l ws = .error p→dz e most (t4 l) (t5 l) ws = .error p) ∧
  ∀ y,ic e most l ws = .ok y→(dz e most (t4 l) (t5 l) ws=if lineEnds y.2=true then .ok y else .error (VbenCore.placeOf e y.2))∧isName y.1.1=true∧aX most 1 y.1.2:=by
 unfold ic dz;cases g1:VbenCore.must e (Vbenab.W "value") ws with
 | error p=>exact ⟨fun q h=>h,fun y h=>nomatch h⟩
 | ok w1=>
  dsimp only;rw [Jd,Mh];unfold O1;by_cases hc:(l.any fun x=>x.1==cA w1)=true
  ·obtain ⟨x,hx,ex⟩:=any_eq_true.mp hc;have hn:isName (cA w1)=true:=by
    rw [← beq_iff_eq.mp ex];exact (g x hx).1
   obtain ⟨r,er⟩:=Mg (e:=e) hn;rw [er,if_pos hc];dsimp only;rw [if_pos hc];exact ⟨fun q h=>h,fun y h=>nomatch h⟩
  ·rw [if_neg hc];cases g2:VbenCore.name e w1 with
   | error p=>exact ⟨fun q h=>h,fun y h=>nomatch h⟩
   | ok n=>
    obtain ⟨n1,n2⟩:=Gj g2;dsimp only;rw [if_neg (show ¬ (l.any fun x=>x.1==n.1)=true by rw [n1]; exact hc),Ja hm];cases g3:marksIn e most 8 1 n.2 with
    | error p=>exact ⟨fun q h=>h,fun y h=>nomatch h⟩
    | ok m=>
     have mr:=ue g3;dsimp only;by_cases hl:lineEnds m.2=true
     ·rw [if_pos hl];dsimp only;rw [Jc hm g mr];by_cases hd:(l.any fun x=>x.2==m.1)=true
      ·rw [if_pos hd];exact ⟨fun q h=>h,fun y h=>nomatch h⟩
      ·rw [if_neg hd];refine ⟨fun q h=>(nomatch h),fun y h=>?_⟩;cases h;exact ⟨by rw [if_pos hl],n2,mr⟩
     ·rw [if_neg hl];dsimp only;by_cases hd:(l.any fun x=>x.2==m.1)=true
      ·rw [if_pos hd];exact ⟨fun q h=>h,fun y h=>nomatch h⟩
      ·rw [if_neg hd];refine ⟨fun q h=>(nomatch h),fun y h=>?_⟩;cases h;exact ⟨by rw [if_neg hl],n2,mr⟩
def pEnd(e:Nat)(r:Except Nat (List (List Nat×List Nat)×List (Nat×List Nat))):Except Nat (List (List Nat×List Nat)):=match r with
 | .error p=>.error p
 | .ok r=>if r.2.isEmpty=true then .ok r.1 else .error (VbenCore.placeOf e r.2)
theorem lI{e most g:Nat}{l:List (List Nat×List Nat)}{ws:List (Nat×List Nat)}:valuesIn most e (g+1) l ws=if l.isEmpty=false∧ws.isEmpty=true then .ok l else match VbenCore.must e [10] ws with
  | .error p=>.error p
  | .ok w1=>match ic e most l w1 with
   | .error p=>.error p
   | .ok x=>valuesIn most e g (l++[x.1]) x.2:=by
 rw [valuesIn];by_cases hc:l.isEmpty=false∧ws.isEmpty=true
 ·rw [if_pos hc,if_pos hc]
 ·rw [if_neg hc,if_neg hc];show (VbenCore.must e [10] ws >>= _)=_;cases VbenCore.must e [10] ws with
  | error p=>rfl
  | ok w1=>
   dsimp only;unfold ic;show (VbenCore.must e (Vbenab.W "value") w1 >>= fun w2=>valueIn most e l w2 >>= fun x=>valuesIn most e g (l++[x.1]) x.2)=_;cases VbenCore.must e (Vbenab.W "value") w1 with
   | error p=>rfl
   | ok w2=>
    show (valueIn most e l w2 >>= fun x=>valuesIn most e g (l++[x.1]) x.2)=_;dsimp only;cases valueIn most e l w2 with
    | error p=>rfl
    | ok x=>rfl
theorem Au{e most:Nat}{l:List (List Nat×List Nat)}{ws:List (Nat×List Nat)}(h:lineEnds ws=false):∀ g,valuesIn most e g l ws = .error (VbenCore.placeOf e ws):=by
 intro g;rw [qp,Bool.or_eq_false_iff] at h;cases ws with
 | nil=>exact absurd h.1 (by decide)
 | cons x r=>
  cases g with
  | zero=>rfl
  | succ g=>
   rw [lI,if_neg (fun z=>by cases z.2),ES (p:=x.1) (w:=x.2) (beq_eq_false_iff_ne.mp h.2)];rfl
theorem values_eq{e most:Nat}(hm:most≤8):∀ (g:Nat) (l:List (List Nat×List Nat)) (ws:List (Nat×List Nat)),l≠[]→Jb most l→valuesIn most e g l ws=pEnd e (j1 e most g l ws)
 | 0,l,ws,_,_=>by
  cases ws with
  | nil=>rfl
  | cons x r=>rfl
 | g+1,l,ws,hl,gl=>by
  rw [lI,j1];have hle:l.isEmpty=false:=by
   cases l with
   | nil=>exact absurd rfl hl
   | cons _ _=>rfl
  cases ws with
  | nil=>
   rw [if_pos ⟨hle,rfl⟩];rfl
  | cons x r=>
   rw [if_neg (fun z=>by cases z.2),if_neg (show ¬ (x::r).isEmpty=true from Bool.false_ne_true)];cases g1:VbenCore.must e [10] (x::r) with
   | error p=>rfl
   | ok w1=>
    dsimp only;obtain ⟨v1,v2⟩:=value_eq (e:=e) hm gl w1;cases g2:ic e most l w1 with
    | error p=>
     rw [v1 p g2];rfl
    | ok y=>
     obtain ⟨y1,y2,y3⟩:=v2 y g2;rw [y1];dsimp only;by_cases hle2:lineEnds y.2=true
     ·rw [if_pos hle2];refine values_eq hm g (l++[y.1]) y.2 (by simp) fun z hz=>?_;rcases mem_append.mp hz with z' | z'
      ·exact gl z z'
      ·rw [mem_singleton.mp z'];exact ⟨y2,y3⟩
     ·rw [if_neg hle2,Au (by cases z:lineEnds y.2 with | false=>rfl | true=>exact absurd z hle2)];rfl
theorem Av{e most:Nat}(hm:most≤8)(ws:List (Nat×List Nat)):valuesIn most e 70 [] ws=match VbenCore.must e [10] ws with
  | .error p=>.error p
  | .ok w1=>pEnd e (match dz e most [] [] w1 with
   | .error p=>.error p
   | .ok y=>j1 e most 69 [y.1] y.2):=by
 rw [lI,if_neg (fun z=>by cases z.1)];cases g1:VbenCore.must e [10] ws with
 | error p=>rfl
 | ok w1=>
  dsimp only;obtain ⟨v1,v2⟩:=value_eq (e:=e) hm (l:=[]) (fun x hx=>by cases hx) w1;cases g2:ic e most [] w1 with
  | error p=>
   rw [show dz e most [] [] w1 = .error p from v1 p g2];rfl
  | ok y=>
   obtain ⟨y1,y2,y3⟩:=v2 y g2;rw [show dz e most [] [] w1=_ from y1];dsimp only;by_cases hle2:lineEnds y.2=true
   ·rw [if_pos hle2];exact values_eq hm 69 [y.1] y.2 (by simp) fun z hz=>by rw [mem_singleton.mp hz]; exact ⟨y2,y3⟩
   ·rw [if_neg hle2,Au (by cases z:lineEnds y.2 with | false=>rfl | true=>exact absurd z hle2)];rfl
theorem Mi{p:Nat→Bool}{n t:Nat}(ht:t<n):(List.range (t+1)).all p=true↔t<((List.range n).takeWhile p).length:=by
 constructor
 ·intro h;obtain ⟨d,rfl⟩:∃ d,n=(t+1)+d:=⟨n-(t+1),by omega⟩;rw [range_add,List.takeWhile_append_of_pos (fun i hi=>all_eq_true.mp h i hi),length_append,length_range];omega
 ·intro h;rw [all_eq_true];intro i hi;have hi':i<((List.range n).takeWhile p).length:=by
   have:=mem_range.mp hi;omega
  have hm:((List.range n).takeWhile p)[i]∈(List.range n).takeWhile p:=getElem_mem hi';have hg:((List.range n).takeWhile p)[i]=i:=by
   rw [List.IsPrefix.getElem (List.takeWhile_prefix p) hi'];exact getElem_range ..
  rw [hg] at hm;exact all_eq_true.mp List.all_takeWhile i hm
theorem O2{e:Nat}{l:List Nat}(ws:List (Nat×List Nat)):(match num e 1 69 ws with
  | .error p=>.error p
  | .ok t=>if weighs t.1 l=false then .error (VbenCore.placeOf e ws) else .ok t)=num e 1 ((bp l).length-1) ws:=by
 have hf:(bp l).length≤70:=by
  unfold bp;have:=(List.takeWhile_sublist (l:=List.range 70) (dB l)).length_le;rw [length_range] at this;exact this
 cases ws with
 | nil=>rfl
 | cons w r=>
  unfold Vbenab.num;dsimp only;cases natOf w.2 with
  | none=>rfl
  | some n=>
   dsimp only;by_cases h1:1≤n∧n≤69
   ·rw [if_pos h1];dsimp only;have hk:weighs n l=true↔n<(bp l).length:=Mi (p:=dB l) (n:=70) (by omega);by_cases h2:n<(bp l).length
    ·rw [if_neg (by rw [hk.mpr h2]; exact noConfusion),if_pos ⟨h1.1,by omega⟩]
    ·rw [if_pos (by cases z:weighs n l with | false=>rfl | true=>exact absurd (hk.mp z) h2),if_neg (by omega)];rfl
   ·rw [if_neg h1,if_neg (by omega)]
def EX(e:Nat)(nm:List Nat)(h:Nat)(w1:List (Nat×List Nat)):Except Nat Vbenab.Code:=
 if ahead (Vbenab.W "weights") w1=true then match iO e h (w1.drop 1) with
  | .error p=>.error p
  | .ok x=>over e { name:=nm,holes:=h,kind:=.weights x.1.2 x.1.1 } x.2
 else if ahead (Vbenab.W "choose") w1=true then match num e 1 h (w1.drop 1) with
  | .error p=>.error p
  | .ok k=>over e { name:=nm,holes:=h,kind:=.choose k.1 } k.2
 else match pEnd e (match dz e h [] [] w1 with
   | .error p=>.error p
   | .ok y=>j1 e h 69 [y.1] y.2) with
  | .error p=>.error p
  | .ok l=>.ok { name:=nm,holes:=h,kind:=.table l }
def pF(e:Nat)(nm:List Nat)(h:Nat)(ws:List (Nat×List Nat)):Except Nat Vbenab.Code:=
 if ahead newline ws=true∧ahead (Vbenab.W "weights") (ws.drop 1)=true then do
  let l ← weightsIn e h 1000 (ws.drop 2);let w ← VbenCore.must e (Vbenab.W "to") l.2;let t ← num e 1 (VALUES-1) w
  if weighs t.1 l.1=false then .error (VbenCore.placeOf e w) else over e { name:=nm,holes:=h,kind:=.weights t.1 l.1 } t.2
 else if ahead newline ws=true∧ahead (Vbenab.W "choose") (ws.drop 1)=true then do
  let k ← num e 1 h (ws.drop 2)
  over e { name:=nm,holes:=h,kind:=.choose k.1 } k.2
 else do
  let l ← valuesIn h e VALUES [] ws
  return { name:=nm,holes:=h,kind:=.table l }
theorem Je(t:List Nat):readCode t=(do
  let w1 ← VbenCore.must t.length (Vbenab.W "code") (cut 0 t);let n ← VbenCore.name t.length w1;let w2 ← VbenCore.must t.length [10] n.2;let w3 ← VbenCore.must t.length (Vbenab.W "holes") w2;let h ← num t.length 1 8 w3
  pF t.length n.1 h.1 h.2):=rfl
theorem rest_eq{e h:Nat}{nm:List Nat}(hh:h≤8)(ws:List (Nat×List Nat)):pF e nm h ws=match VbenCore.must e [10] ws with
  | .error p=>.error p
  | .ok w1=>EX e nm h w1:=by
 unfold pF;cases ws with
 | nil=>rfl
 | cons x w1=>
  by_cases hx:x.2=[10]
  ·have hm:VbenCore.must e [10] (x::w1) = .ok w1:=by
    rw [VbenCore.must,if_pos hx]
   have ha:ahead newline (x::w1)=true:=by
    rw [ahead,hx];rfl
   have ht:=Av (e:=e) hh (x::w1);rw [hm] at ht ⊢;dsimp only at ht ⊢;unfold EX;rw [ha];by_cases h1:ahead (Vbenab.W "weights") w1=true
   ·rw [if_pos ⟨rfl,h1⟩,if_pos h1];show (weightsIn e h 1000 (w1.drop 1) >>= _)=_;unfold iO;cases weightsIn e h 1000 (w1.drop 1) with
    | error p=>rfl
    | ok l=>
     unfold Mb;dsimp only;show (VbenCore.must e (Vbenab.W "to") l.2 >>= _)=_;cases VbenCore.must e (Vbenab.W "to") l.2 with
     | error p=>rfl
     | ok w=>
      dsimp only;rw [← O2 (l:=l.1)];show (num e 1 69 w >>= _)=_;cases num e 1 69 w with
      | error p=>rfl
      | ok t=>
       dsimp only;show (if weighs t.1 l.1=false then _ else _)=_;by_cases h3:weighs t.1 l.1=false
       ·rw [if_pos h3,if_pos h3]
       ·rw [if_neg h3,if_neg h3]
   ·rw [if_neg (fun z=>h1 z.2),if_neg h1];by_cases h2:ahead (Vbenab.W "choose") w1=true
    ·rw [if_pos ⟨rfl,h2⟩,if_pos h2];show (num e 1 h (w1.drop 1) >>= _)=_;cases num e 1 h (w1.drop 1) with
     | error p=>rfl
     | ok k=>rfl
    ·rw [if_neg (fun z=>h2 z.2),if_neg h2];show (valuesIn h e 70 [] (x::w1) >>= _)=_;rw [ht];generalize pEnd e _=q;cases q with
     | error p=>rfl
     | ok l=>rfl
  ·have hm:VbenCore.must e [10] (x::w1) = .error x.1:=by
    rw [VbenCore.must,if_neg hx]
   have ha:¬ ahead newline (x::w1)=true:=fun z=>hx (beq_iff_eq.mp z);have ht:=Av (e:=e) hh (x::w1);rw [hm] at ht ⊢;rw [if_neg (fun z=>ha z.1),if_neg (fun z=>ha z.1)];show (valuesIn h e 70 [] (x::w1) >>= _)=_;rw [ht];rfl
def jn:List (List Nat)→List Nat
 | []=>[]
 | [w]=>w
 | w::x::r=>if x=[10] then w++10::jn r else w++32::jn (x::r)
theorem Jf(p:Nat)(t:List Nat):∃ q w l,cut p t=(q,w)::l∧¬ w=[10]:=by
 cases t with
 | nil=>exact ⟨p,[],[],rfl,by decide⟩
 | cons c r=>
  rw [cut];by_cases h1:c=32
  ·rw [if_pos h1];exact ⟨_,_,_,rfl,by decide⟩
  ·rw [if_neg h1];by_cases h2:c=10
   ·rw [if_pos h2];exact ⟨_,_,_,rfl,by decide⟩
   ·rw [if_neg h2];cases cut (p+1) r with
    | nil=>exact ⟨_,_,_,rfl,fun z=>h2 (List.cons.inj z).1⟩
    | cons x l=>exact ⟨_,_,_,rfl,fun z=>h2 (List.cons.inj z).1⟩
theorem Jg{c:Nat}{w:List Nat}(l:List (List Nat)):jn ((c::w)::l)=c::jn (w::l):=by
 cases l with
 | nil=>rfl
 | cons x r=>
  rw [jn,jn];by_cases h:x=[10]
  ·rw [if_pos h,if_pos h];rfl
  ·rw [if_neg h,if_neg h];rfl
theorem Jh:∀ (t:List Nat) (p:Nat),jn ((cut p t).map (·.2))=t
 | [],_=>rfl
 | c::r,p=>by
  have ih:=Jh r (p+1);obtain ⟨q,w,l,e,hw⟩:=Jf (p+1) r;rw [cut];rw [e] at ih ⊢;by_cases h1:c=32
  ·rw [if_pos h1,h1];show jn ([]::w::l.map (·.2))=_;rw [jn,if_neg hw];exact congrArg (32::·) ih
  ·rw [if_neg h1];by_cases h2:c=10
   ·rw [if_pos h2,h2];show jn ([]::[10]::w::l.map (·.2))=_;rw [jn,if_pos rfl];exact congrArg (10::·) ih
   ·rw [if_neg h2];show jn ((c::w)::l.map (·.2))=_;rw [Jg];exact congrArg (c::·) ih
def iP:List Nat→Nat
 | []=>0
 | u::r=>iP r*10+u
theorem Gk(l:List Nat):VbenCore.valueOf 10 l=iP l.reverse:=by
 have key:∀ (us:List Nat),iP us=us.foldr (fun d v=>v*10+d) 0:=by
  intro us
  induction us with
  | nil=>rfl
  | cons u r ih=>rw [iP,ih]; rfl
 rw [key,List.foldr_reverse];rfl
theorem Cr:∀ (us:List Nat) (h:us≠[]),us.getLast h≠0→10 ^ (us.length-1)≤iP us
 | [u],_,hl=>by
  show 1≤0*10+u;have:u≠0:=hl;omega
 | u::v::r,_,hl=>by
  have:=Cr (v::r) (by simp) (by rwa [List.getLast_cons (by simp)] at hl);show 10 ^ (r.length+1)≤iP (v::r)*10+u;have e:(v::r).length-1=r.length:=rfl;rw [e] at this;rw [pow_succ];omega
theorem w9:∀ (us:List Nat) (f:Nat),us.length≤f→(∀ u∈us,u<10)→(∀ h:us≠[],us.getLast h≠0)→digitsUp 10 f (iP us)=us
 | [],f,_,_,_=>by
  cases f with
  | zero=>rfl
  | succ f=>rfl
 | u::r,0,hf,_,_=>by
  cases hf
 | u::r,f+1,hf,hd,hl=>by
  have hp:=Cr (u::r) (by simp) (hl (by simp));have h1:1≤10 ^ ((u::r).length-1):=Nat.one_le_pow _ _ (by decide);rw [digitsUp,if_neg (by omega)];have hu:=hd u mem_cons_self;have e1:iP (u::r) % 10=u:=by rw [iP]; omega
  have e2:iP (u::r) / 10=iP r:=by rw [iP]; omega
  rw [e1,e2,w9 r f (by rw [length_cons] at hf; omega) (fun x hx=>hd x (mem_cons_of_mem _ hx)) (fun h=>by
   have:=hl (by simp)
   rwa [List.getLast_cons h] at this)]
theorem Mj{w:List Nat}{n:Nat}(h:natOf w=some n):natText n=w:=by
 unfold VbenCore.natOf at h;by_cases hc:w.isEmpty=true∨MOSTDIGITS<w.length∨w.all isDigit=false∨isZeroLed w=true
 ·rw [if_pos hc] at h;cases h
 ·rw [if_neg hc] at h;have hn:=Option.some.inj h;have hd:∀ c∈w,48≤c∧c≤57:=by
   intro c hm;have ha:w.all isDigit=true:=by
    cases z:w.all isDigit with
    | true=>rfl
    | false=>exact absurd (Or.inr (Or.inr (Or.inl z))) hc
   have:=all_eq_true.mp ha c hm;unfold VbenCore.isDigit at this;rw [and_eq_true,decide_eq_true_eq,decide_eq_true_eq] at this;exact this
  have hz:¬ isZeroLed w=true:=fun z=>hc (Or.inr (Or.inr (Or.inr z)));have back:(w.map fun c=>c-48).map (fun d=>d+48)=w:=by
   rw [map_map]
   conv=>rhs; rw [← map_id w]
   refine map_congr_left fun c hm=>?_;have:=hd c hm;show c-48+48=c;omega
  match w,hc,hn,hd,hz,back with
  | [],hc,_,_,_,_=>exact absurd (Or.inl rfl) hc
  | c::r,hc,hn,hd,hz,back=>
   by_cases h0:c=48
   ·cases r with
    | nil=>
     rw [← hn,h0];rfl
    | cons d r=>
     refine absurd ?_ hz;unfold VbenCore.isZeroLed;rw [h0];rw [and_eq_true,decide_eq_true_eq];exact ⟨rfl,by simp⟩
   ·have hcd:=hd c mem_cons_self;have hne:((c::r).map fun c=>c-48).reverse≠[]:=by simp
    have hlast:∀ h:((c::r).map fun c=>c-48).reverse≠[],((c::r).map fun c=>c-48).reverse.getLast h≠0:=by
     intro h;rw [List.getLast_reverse];show c-48≠0;omega
    have hv:n=iP ((c::r).map fun c=>c-48).reverse:=by
     rw [← hn,Gk]
    have hp:=Cr _ hne (hlast hne);rw [← hv] at hp;have h1:1≤10 ^ (((c::r).map fun c=>c-48).reverse.length-1):=Nat.one_le_pow _ _ (by decide);have hn0:n≠0:=by omega
    unfold VbenCore.natText;rw [if_neg hn0];unfold VbenCore.digitsFast;have hfl:((c::r).map fun c=>c-48).reverse.length≤lengthFuel n:=by
     unfold VbenCore.lengthFuel;have:((c::r).map fun c=>c-48).reverse.length-1≤Nat.log2 n:=(Nat.le_log2 hn0).mpr (le_trans (Nat.pow_le_pow_left (by decide) _) hp);omega
    have hdd:=w9 _ (lengthFuel n) hfl (fun u hu=>by
     rw [List.mem_reverse,mem_map] at hu;obtain ⟨x,hx,rfl⟩:=hu;have:=hd x hx;omega) hlast
    rw [← hv] at hdd;rw [hdd,List.reverse_reverse];exact back
theorem j5{e lo hi:Nat}{ws:List (Nat×List Nat)}{x:Nat×List (Nat×List Nat)}(h:num e lo hi ws = .ok x):ws.map (·.2)=natText x.1::x.2.map (·.2):=by
 cases ws with
 | nil=>cases h
 | cons w r=>
  rw [num] at h;cases hn:natOf w.2 with
  | none=>
   rw [hn] at h;cases h
  | some n=>
   rw [hn] at h;dsimp only at h;by_cases hb:lo≤n∧n≤hi
   ·rw [if_pos hb] at h;cases h;show w.2::_=_;rw [Mj hn]
   ·rw [if_neg hb] at h;cases h
theorem eW{e:Nat}{b:List Nat}{ws r:List (Nat×List Nat)}(h:VbenCore.must e b ws = .ok r):ws.map (·.2)=b::r.map (·.2):=by
 cases ws with
 | nil=>cases h
 | cons w l=>
  rw [VbenCore.must] at h;by_cases hb:w.2=b
  ·rw [if_pos hb] at h;cases h;rw [map_cons,hb]
  ·rw [if_neg hb] at h;cases h
theorem xa{e:Nat}{ws:List (Nat×List Nat)}{x:List Nat×List (Nat×List Nat)}(h:VbenCore.name e ws = .ok x):ws.map (·.2)=x.1::x.2.map (·.2)∧isName x.1=true:=by
 cases ws with
 | nil=>cases h
 | cons w l=>
  rw [VbenCore.name] at h;by_cases hb:isName w.2=true
  ·rw [if_pos hb] at h;cases h;exact ⟨rfl,hb⟩
  ·rw [if_neg hb] at h;cases h
theorem Aw(n:Nat):¬ natText n=[10]:=by
 unfold VbenCore.natText;by_cases h:n=0
 ·rw [if_pos h];decide
 ·rw [if_neg h];intro z;cases g:digitsFast 10 n with
  | nil=>
   rw [g] at z;cases z
  | cons d r=>
   rw [g] at z;have:d+48=10:=(List.cons.inj z).1;omega
theorem EY{n:List Nat}(h:isName n=true):¬ n=[10]:=by
 rintro rfl;exact absurd h (by decide)
def lw:List (List (List Nat))→List (List Nat)
 | []=>[]
 | [l]=>l
 | l::x::r=>l++[10]::lw (x::r)
theorem EZ:∀ {l:List (List Nat)},l≠[]→(∀ w∈l,¬ w=[10])→jn l=words l
 | [w],_,_=>rfl
 | w::x::r,_,h=>by
  rw [jn,if_neg (h x (by simp)),EZ (l:=x::r) (by simp) fun y hy=>h y (mem_cons_of_mem _ hy)];show _=w++[32]++between [32] (x::r);rw [append_assoc];rfl
theorem E1{t:List (List Nat)}:∀ {l:List (List Nat)},l≠[]→(∀ w∈l,¬ w=[10])→jn (l++[10]::t)=words l++10::jn t
 | [w],_,_=>by
  show jn (w::[10]::t)=w++10::jn t;rw [jn,if_pos rfl]
 | w::x::r,_,h=>by
  show jn (w::x::(r++[10]::t))=_;have:=E1 (t:=t) (l:=x::r) (by simp) fun y hy=>h y (mem_cons_of_mem _ hy);rw [jn,if_neg (h x (by simp)),show x::(r++[10]::t)=(x::r)++[10]::t from rfl,this];show _=(w++[32]++between [32] (x::r))++10::jn t;rw [append_assoc,append_assoc];rfl
theorem Ax:∀ {ls:List (List (List Nat))},(∀ l∈ls,l≠[]∧∀ w∈l,¬ w=[10])→jn (lw ls)=between [10] (ls.map words)
 | [],_=>rfl
 | [l],h=>EZ (h l (by simp)).1 (h l (by simp)).2
 | l::x::r,h=>by
  rw [lw,E1 (h l (by simp)).1 (h l (by simp)).2,Ax (ls:=x::r) fun y hy=>h y (mem_cons_of_mem _ hy)];show _=words l++[10]++between [10] (words x::r.map words);rw [append_assoc];rfl
theorem Ji:∀ (a:List (List (List Nat))) (l:List (List Nat)),a≠[]→lw (a++[l])=lw a++[10]::l
 | [x],l,_=>rfl
 | x::y::r,l,_=>by
  show x++[10]::lw ((y::r)++[l])=(x++[10]::lw (y::r))++[10]::l;rw [Ji (y::r) l (by simp),append_assoc];rfl
theorem uf{e most:Nat}:∀ {f lo:Nat} {ws:List (Nat×List Nat)} {y:List Nat×List (Nat×List Nat)},marksIn e most f lo ws = .ok y→ws.map (·.2)=y.1.map natText++y.2.map (·.2)
 | 0,lo,ws,y,h=>by
  cases h;rfl
 | f+1,lo,ws,y,h=>by
  rw [marksIn] at h;cases h1:num e lo most ws with
  | error p=>
   rw [h1] at h;cases h
  | ok x=>
   rw [h1] at h;dsimp only at h;rw [j5 h1];by_cases h2:lineEnds x.2=true
   ·rw [if_pos h2] at h;cases h;rfl
   ·rw [if_neg h2] at h;cases h3:marksIn e most f (x.1+1) x.2 with
    | error p=>
     rw [h3] at h;cases h
    | ok z=>
     rw [h3] at h;cases h;rw [uf h3];rfl
def l7(x:List Nat×List Nat):List (List Nat):=Vbenab.W "value"::x.1::x.2.map natText
theorem Jj{x:List Nat×List Nat}(h:isName x.1=true):l7 x≠[]∧∀ w∈l7 x,¬ w=[10]:=by
 refine ⟨by unfold l7; simp,fun w hw=>?_⟩;unfold l7 at hw;rcases mem_cons.mp hw with rfl | hw
 ·decide
 ·rcases mem_cons.mp hw with rfl | hw
  ·exact EY h
  ·obtain ⟨n,_,rfl⟩:=mem_map.mp hw;exact Aw n
theorem Ay{e most:Nat}{l:List (List Nat×List Nat)}{ws:List (Nat×List Nat)}{x:(List Nat×List Nat)×List (Nat×List Nat)}(h:ic e most l ws = .ok x):ws.map (·.2)=l7 x.1++x.2.map (·.2)∧isName x.1.1=true:=by
 unfold ic at h;cases h1:VbenCore.must e (Vbenab.W "value") ws with
 | error p=>
  rw [h1] at h;cases h
 | ok w2=>
  rw [h1] at h;dsimp only at h;rw [eW h1];unfold Vbenab.valueIn at h;cases h2:VbenCore.name e w2 with
  | error p=>
   rw [h2] at h;cases h
  | ok n=>
   rw [h2] at h;obtain ⟨n1,n2⟩:=xa h2;rw [n1];replace h:(if (l.any fun x=>x.1==n.1)=true then .error (VbenCore.placeOf e w2) else (marksIn e most HOLES 1 n.2 >>= fun m=>if (l.any fun x=>x.2==m.1)=true then .error (VbenCore.placeOf e m.2) else .ok ((n.1,m.1),m.2))) = .ok x:=h;by_cases h3:(l.any fun x=>x.1==n.1)=true
   ·rw [if_pos h3] at h;cases h
   ·rw [if_neg h3] at h;cases h4:marksIn e most HOLES 1 n.2 with
    | error p=>
     rw [h4] at h;cases h
    | ok m=>
     rw [h4] at h;replace h:(if (l.any fun x=>x.2==m.1)=true then .error (VbenCore.placeOf e m.2) else .ok ((n.1,m.1),m.2))=Except.ok x:=h;rw [uf h4];by_cases h5:(l.any fun x=>x.2==m.1)=true
     ·rw [if_pos h5] at h;cases h
     ·rw [if_neg h5] at h;cases h;exact ⟨rfl,n2⟩
theorem xb{e most:Nat}{a:List (List (List Nat))}(ha:a≠[]):∀ {g:Nat} {l l2:List (List Nat×List Nat)} {ws:List (Nat×List Nat)},(∀ x∈l,isName x.1=true)→valuesIn most e g l ws = .ok l2→lw (a++l2.map l7)=lw (a++l.map l7)++ws.map (·.2)∧∀ x∈l2,isName x.1=true
 | 0,l,l2,ws,hl,h=>by
  cases ws with
  | nil=>
   cases h;exact ⟨(append_nil _).symm,hl⟩
  | cons w r=>cases h
 | g+1,l,l2,ws,hl,h=>by
  rw [lI] at h;by_cases hc:l.isEmpty=false∧ws.isEmpty=true
  ·rw [if_pos hc] at h;cases h;rw [isEmpty_iff.mp hc.2];exact ⟨(append_nil _).symm,hl⟩
  ·rw [if_neg hc] at h;cases h1:VbenCore.must e [10] ws with
   | error p=>
    rw [h1] at h;cases h
   | ok w1=>
    rw [h1] at h;dsimp only at h;cases h2:ic e most l w1 with
    | error p=>
     rw [h2] at h;cases h
    | ok x=>
     rw [h2] at h;dsimp only at h;obtain ⟨x1,x2⟩:=Ay h2;obtain ⟨i1,i2⟩:=xb ha (g:=g) (l:=l++[x.1]) (fun y hy=>by
      rcases mem_append.mp hy with z | z
      ·exact hl y z
      ·rw [mem_singleton.mp z];exact x2) h
     refine ⟨?_,i2⟩;rw [i1,eW h1,x1,map_append,← append_assoc];show lw ((a++l.map l7)++[l7 x.1])++_=_;rw [Ji _ _ (by simp [ha]),append_assoc];rfl
theorem pG{e:Nat}:∀ {f most:Nat} {ws:List (Nat×List Nat)} {y:List Nat×List (Nat×List Nat)},weightsIn e f most ws = .ok y→ws.map (·.2)=y.1.map natText++y.2.map (·.2)
 | 0,most,ws,y,h=>by
  cases h;rfl
 | f+1,most,ws,y,h=>by
  rw [weightsIn] at h;cases h1:num e 1 most ws with
  | error p=>
   rw [h1] at h;cases h
  | ok x=>
   rw [h1] at h;dsimp only at h;rw [j5 h1];cases h3:weightsIn e f (x.1-1) x.2 with
   | error p=>
    rw [h3] at h;cases h
   | ok z=>
    rw [h3] at h;cases h;rw [pG h3];rfl
def Cs(c:Vbenab.Code):List (List (List Nat)):=match c.kind with
 | .table l=>l.map l7
 | .weights t ws=>[Vbenab.W "weights"::(ws.map natText++[Vbenab.W "to",natText t])]
 | .choose k=>[[Vbenab.W "choose",natText k]]
def Ct(c:Vbenab.Code):List (List (List Nat)):=[[Vbenab.W "code",c.name],[Vbenab.W "holes",natText c.holes]]++Cs c
theorem Cu(c:Vbenab.Code):codeText c=between [10] ((Ct c).map words):=by
 unfold Vbenab.codeText Ct Cs;rw [map_append];cases c.kind with
 | table l=>
  dsimp only;rw [map_map];rfl
 | weights t ws=>rfl
 | choose k=>rfl
theorem i9{b:List Nat}{ws:List (Nat×List Nat)}(h:ahead b ws=true):ws.map (·.2)=b::(ws.drop 1).map (·.2):=by
 cases ws with
 | nil=>cases h
 | cons w r=>
  have:w.2=b:=beq_iff_eq.mp h;rw [map_cons,this];rfl
theorem Gm{e h:Nat}{nm:List Nat}{ws:List (Nat×List Nat)}{c:Vbenab.Code}(hr:pF e nm h ws = .ok c)(hn:isName nm=true) :
  (c.name=nm∧c.holes=h)∧(Vbenab.W "code"::nm::[10]::Vbenab.W "holes"::natText h::ws.map (·.2))=lw (Ct c)∧∀ l∈Cs c,l≠[]∧∀ w∈l,¬ w=[10]:=by
 unfold pF at hr;by_cases h1:ahead newline ws=true∧ahead (Vbenab.W "weights") (ws.drop 1)=true
 ·rw [if_pos h1] at hr;obtain ⟨l,l1,hr⟩:=bq hr;obtain ⟨w,w1,hr⟩:=bq hr;obtain ⟨t,t1,hr⟩:=bq hr;have d:=pG l1;by_cases h2:weighs t.1 l.1=false
  ·rw [if_pos h2] at hr;cases hr
  ·rw [if_neg h2] at hr;obtain ⟨o1,rfl⟩:=sj hr;refine ⟨⟨rfl,rfl⟩,?_,?_⟩
   ·rw [i9 h1.1,i9 h1.2,drop_drop,d,eW w1,j5 t1,o1];rfl
   ·intro z hz;rw [mem_singleton.mp hz];refine ⟨by simp,fun x hx=>?_⟩;rcases mem_cons.mp hx with rfl | hx
    ·decide
    ·rcases mem_append.mp hx with hx | hx
     ·obtain ⟨n,_,rfl⟩:=mem_map.mp hx;exact Aw n
     ·rcases mem_cons.mp hx with rfl | hx
      ·decide
      ·rw [mem_singleton.mp hx];exact Aw _
 ·rw [if_neg h1] at hr;by_cases h2:ahead newline ws=true∧ahead (Vbenab.W "choose") (ws.drop 1)=true
  ·rw [if_pos h2] at hr;obtain ⟨k,k1,hr⟩:=bq hr;obtain ⟨o1,rfl⟩:=sj hr;refine ⟨⟨rfl,rfl⟩,?_,?_⟩
   ·rw [i9 h2.1,i9 h2.2,drop_drop,j5 k1,o1];rfl
   ·intro z hz;rw [mem_singleton.mp hz];refine ⟨by simp,fun x hx=>?_⟩;rcases mem_cons.mp hx with rfl | hx
    ·decide
    ·rw [mem_singleton.mp hx];exact Aw _
  ·rw [if_neg h2] at hr;obtain ⟨l,l1,hr⟩:=bq hr;cases hr;obtain ⟨v1,v2⟩:=xb (a:=[[Vbenab.W "code",nm],[Vbenab.W "holes",natText h]]) (by simp) (l:=[]) (fun x hx=>by cases hx) l1;refine ⟨⟨rfl,rfl⟩,v1.symm,fun z hz=>?_⟩;obtain ⟨x,hx,rfl⟩:=mem_map.mp hz;exact Jj (v2 x hx)
theorem lJ{t:List Nat}{c:Vbenab.Code}(h:readCode t = .ok c):codeText c=t:=by
 rw [Je] at h;obtain ⟨w1,a1,h⟩:=bq h;obtain ⟨n,a2,h⟩:=bq h;obtain ⟨w2,a3,h⟩:=bq h;obtain ⟨w3,a4,h⟩:=bq h;obtain ⟨k,a5,h⟩:=bq h;obtain ⟨n1,n2⟩:=xa a2;obtain ⟨⟨c1,c2⟩,c3,c4⟩:=Gm h n2;have e:=eW a1;rw [n1,eW a3,eW a4,j5 a5] at e;rw [Cu,← Ax]
 ·rw [← c3,← e,Jh]
 ·intro l hl;rcases mem_append.mp hl with z | z
  ·rcases mem_cons.mp z with rfl | z
   ·refine ⟨by simp,fun w hw=>?_⟩;rcases mem_cons.mp hw with rfl | hw
    ·decide
    ·rw [mem_singleton.mp hw,c1];exact EY n2
   ·rw [mem_singleton.mp z];refine ⟨by simp,fun w hw=>?_⟩;rcases mem_cons.mp hw with rfl | hw
    ·decide
    ·rw [mem_singleton.mp hw];exact Aw _
  ·exact c4 l z
end NC
namespace NC
open PySem PySem.Spec PyProof.Rows L2 LX
abbrev Rt:Stmt:=top 23
abbrev mKI:Stmt:=inClass Rt 0
def kf(pt pn pq pd:Addr)(h k:Nat):List (Str×V):=[("text",.ref pt),("holes",.int (h:Int)),("kind",.int (k:Int)),("names",.ref pn),("notches",.ref pq),("by_notches",.ref pd)]
structure TK(K:PySem.W.Frag)(C:Addr):Prop where
 cl:Cls K C
 nT:aP K C "text"
 nH:aP K C "holes"
 nK:aP K C "kind"
 nN:aP K C "names"
 nQ:aP K C "notches"
 nB:aP K C "by_notches"
theorem UD(pt pn pq pd:Addr)(h k:Nat):(kf pt pn pq pd h k).lookup ("text":Str)=some (.ref pt):=by rfl
theorem rL(pt pn pq pd:Addr)(h k:Nat):(kf pt pn pq pd h k).lookup ("holes":Str)=some (.int (h:Int)):=by rfl
theorem UE(pt pn pq pd:Addr)(h k:Nat):(kf pt pn pq pd h k).lookup ("kind":Str)=some (.int (k:Int)):=by rfl
theorem Ru(pt pn pq pd:Addr)(h k:Nat):(kf pt pn pq pd h k).lookup ("names":Str)=some (.ref pn):=by rfl
theorem pH(pt pn pq pd:Addr)(h k:Nat):(kf pt pn pq pd h k).lookup ("notches":Str)=some (.ref pq):=by rfl
theorem Jk(pt pn pq pd:Addr)(h k:Nat):(kf pt pn pq pd h k).lookup ("by_notches":Str)=some (.ref pd):=by rfl
def Az(o:Nat)(ns:List Nat):List (Key×V):=(ns.zipIdx o).map fun x=>(Sum.inl (x.1:Int),V.int (x.2:Int))
abbrev tbl(ns:List Nat):List (Key×V):=Az 0 ns
theorem Ml(o:Nat)(ns:List Nat):(Az o ns).length=ns.length:=by
 unfold Az;rw [length_map,List.length_zipIdx]
theorem pI(x:Nat):∀ (ns:List Nat) (o:Nat),rE (Az o ns) (Sum.inl (x:Int))=(o7 ns x).map fun v=>V.int ((v+o:Nat):Int)
 | [],o=>rfl
 | y::ns,o=>by
  have e:Az o (y::ns)=(Sum.inl (y:Int),V.int (o:Int))::Az (o+1) ns:=by
   unfold Az;rw [List.zipIdx_cons];rfl
  rw [e,wL];by_cases h:y=x
  ·subst h;rw [oO rfl,if_pos rfl,map_some,zero_add]
  ·rw [oP (fun z=>h (by have z:(Sum.inl (y:Int):Key)=Sum.inl (x:Int):=z; have:=Sum.inl.inj z; omega)),if_neg h,pI x ns (o+1),Option.map_map];refine congrArg (fun f=>Option.map f (o7 ns x)) (funext fun v=>?_);show V.int ((v+(o+1):Nat):Int)=V.int ((v+1+o:Nat):Int);rw [show v+(o+1)=v+1+o by omega]
theorem Mm{ns:List Nat}{i x:Nat}(h:ns[i]? = some x)(hn:ns.Nodup):putK (tbl (ns.take i)) (Sum.inl (x:Int)) (.int (i:Int))=tbl (ns.take (i+1)):=by
 obtain ⟨hl,e⟩:=List.getElem?_eq_some_iff.mp h;have hno:¬ x∈ns.take i:=fun hm=>by
  obtain ⟨j,hj,ej⟩:=List.getElem_of_mem hm;rw [length_take] at hj;rw [List.getElem_take] at ej;have:=(getElem_inj hn).mp (ej.trans e.symm);omega
 have hnone:o7 (ns.take i) x=none:=by
  unfold o7;exact if_neg (fun z=>hno (List.contains_iff_mem.mp z))
 unfold putK;rw [sT,pI,hnone,if_neg (by decide),take_snoc h];unfold tbl Az;rw [zipIdx_append,map_append,zero_add,length_take,min_eq_left (le_of_lt hl)];rfl
section
variable {P:Program}{w:World}{K:PySem.W.Frag}{mg:Str→Option Value}{base:Heap}
def O3(C:Addr):Sp:=fun vs H Q _=>∃ (p dx pt pn pq:Addr) (h k:Nat) (ns:List Nat),vs=[.ref p,.ref pt,.int (h:Int),.int (k:Int),.ref pn,.ref pq]∧H p=some (.ins C dx [])∧H pq=some (.lst (vzs ns))∧ns.Nodup∧ns.length≤1000 ∧
 ∀ (H':Hp) (pd:Addr),H' p=some (.ins C dx (kf pt pn pq pd h k))→H' pd=some (.dK (tbl ns))→aI p H H'→Q .non H'
theorem Rv:ax ["self","text","holes","kind","names","notches","value","row"] ["self","text","holes","kind","names","notches"] (ao mKI):=⟨rfl,rfl,rfl,by decide +kernel,rfl,by decide +kernel,by decide +kernel⟩
theorem Rw{f C:Addr}{fd:FuncData}(F:Fun K "__init__" "Code.__init__" mKI f fd)(hE:mg "enumerate"=none)(T:TK K C):aF P w K mg base CX0 1 f fd ["self","text","holes","kind","names","notches"] (O3 C):=by
 refine F.ok Rv (fun vs H Q E h=>?_) (fun cdv A outer s H vs Q E hr h=>?_)
 ·obtain ⟨p,dx,pt,pn,pq,h,k,ns,rfl,_⟩:=h;rfl
 ·obtain ⟨p,dx,pt,pn,pq,h,k,ns,rfl,hp,hq,hnd,hl,kq⟩:=h;have nd:=Rv.nd;refine ⟨_,ag (b9 (pv 0) (pv 1) rfl) (ag (b9 (pv 0) (pv 2) rfl) (ag (b9 (pv 0) (pv 3) rfl) (ag (b9 (pv 0) (pv 4) rfl) (ag (b9 (pv 0) (pv 5) rfl) (ag (b9 (pv 0) HX rfl)
   (ai (cu PassesOwn.never rfl (dt (by rfl) hE (aa (pv 5) ah)) (d7 rfl (ba (aM (i:=6) nd rfl (Or.inl rfl)) (ba (aM (i:=7) nd rfl (Or.inl rfl)) da)))
    (ai (Ls (zP hr) (aB (pv 0) rfl) (pv 7) (pv 6) rfl))))))))),?_⟩
  refine ⟨_,rfl,_,rfl,p,C,dx,[],rfl,hp,T.cl,T.nT,(by show 0<1000; decide),_,rfl,_,rfl,p,C,dx,_,rfl,ae,T.cl,T.nH,(by show 1<1000; decide),?_⟩;rw [bQ];refine ⟨_,rfl,_,rfl,p,C,dx,_,rfl,ae,T.cl,T.nK,(by show 2<1000; decide),?_⟩;rw [bQ];refine ⟨_,rfl,_,rfl,p,C,dx,_,rfl,ae,T.cl,T.nN,(by show 3<1000; decide),?_⟩;rw [bQ];refine ⟨_,rfl,_,rfl,p,C,dx,_,rfl,ae,T.cl,T.nQ,(by show 4<1000; decide),?_⟩;rw [bQ];intro pd hpd;have npd:p≠pd:=ak ae hpd;have hpd0:H pd=none:=by rw [aq (Ne.symm npd)] at hpd; exact hpd
  refine ⟨_,rfl,p,C,dx,_,rfl,by rw [aq npd]; exact ae,T.cl,T.nB,(by show 5<1000; decide),?_⟩;have e0:upd (upd (upd H p (.ins C dx (cn "notches" (.ref pq) (cn "names" (.ref pn) (cn "kind" (.int (k:Int)) (cn "holes" (.int (h:Int)) (cn "text" (.ref pt) []))))))) pd (.dK [])) p (.ins C dx (cn "by_notches" (.ref pd) (cn "notches" (.ref pq) (cn "names" (.ref pn) (cn "kind" (.int (k:Int)) (cn "holes" (.int (h:Int)) (cn "text" (.ref pt) [])))))))=upd (upd H pd (.dK [])) p (.ins C dx (kf pt pn pq pd h k)):=by
   funext b;unfold upd;by_cases h1:b=p
   ·rw [if_pos h1,if_pos h1];rfl
   ·rw [if_neg h1,if_neg h1,if_neg h1]
  rw [e0];have npq:pq≠p:=aW hq hp (by intro z; cases z);have npd2:pq≠pd:=ak hq hpd0;have keep:∀ (i:Nat) (H':Hp),H'=H'→True:=fun _ _ _=>True.intro;refine ⟨_,rfl,pq,_,rfl,SqL.of (by rw [aq npq,aq npd2]; exact hq),c6 (K:=K) (a:=pq) (xs:=vzs ns) (fun i σ H'=>∃ v6 v7:Option V,σ=[some (.ref p),some (.ref pt),some (.int (h:Int)),some (.int (k:Int)),some (.ref pn),some (.ref pq),v6,v7] ∧
   H' p=some (.ins C dx (kf pt pn pq pd h k))∧H' pd=some (.dK (tbl (ns.take i)))∧aI p H H') ⟨none,none,rfl,ae,by rw [aq (Ne.symm npd)]; exact ae,fun b o e n=>by rw [aq n,aq (ak e hpd0)]; exact e⟩ (fun i σ H' _ ⟨_,_,_,_,_,u⟩=>SqL.of (u _ _ hq npq)) ?_ ?_⟩
  ·rintro i x σ H' T' hi hT ⟨v6,v7,rfl,h1,h2,u⟩;obtain ⟨c,hc,rfl⟩:=de hi;have hlt:i<ns.length:=(List.getElem?_eq_some_iff.mp hc).1;have s2:aj H' (upd H' T' (.tup [.int (i:Nat),.int (c:Int)])):=aj.new hT;refine ⟨T',_,rfl,SqT.of ae,rfl,_,_,rfl,_,_,rfl,rfl,?_⟩;refine ⟨_,rfl,_,rfl,p,C,dx,_,_,rfl,s2 _ _ h1,T.cl,T.nB,Jk _ _ _ _ _ _,_,rfl,pd,_,rfl,HU.k (k:=Sum.inl (c:Int)) (s2 _ _ h2) (by rw [Ml,length_take,sizeLine_eq]; omega),?_⟩;refine ⟨_,_,rfl,by rw [aq npd]; exact s2 _ _ h1,by rw [ae,Mm hc hnd],fun b o e n=>?_⟩;rw [aq (ak e hpd0)];exact s2 _ _ (u b o e n)
  ·rintro σ H' ⟨v6,v7,rfl,h1,h2,u⟩;rw [length_map,length_map,take_length] at h2;exact kq H' pd h1 h2 u
end
abbrev iQ:Stmt:=top 36
def Dn(P:Program)(w:World)(K:PySem.W.Frag)(mg:Str→Option Value)(base:Heap)(CX:CXT)(k:Nat)(x:Str)(ps:List Str)(sp:Sp):Prop:=
 ∃ (f:Addr) (fd:FuncData),aF P w K mg base CX k f fd ps sp∧mg x=some (.ref f)∧keepIn K (.ref f)=true∧L2.Binds K fd ps []
def Cn(P:Program)(w:World)(K:PySem.W.Frag)(mg:Str→Option Value)(base:Heap)(k:Nat)(x:Str)(C:Addr)(ps:List Str)(sp:Sp):Prop:=
 ∃ (f:Addr) (fd:FuncData),aF P w K mg base CX0 k f fd ps sp∧Mk K C f∧mg x=some (.ref C)∧L2.Binds K fd ps []
structure cO(CK:Addr)(H:Hp)(a pt:Addr)(h k:Nat)(nm:List (List Nat))(ns:List Nat):Prop where
 ex:∃ (dx pn pq pd:Addr) (rs:List Addr),H a=some (.ins CK dx (kf pt pn pq pd h k))∧H pn=some (.lst (rs.map V.ref))∧aL H rs nm∧H pq=some (.lst (vzs ns))∧H pd=some (.dK (tbl ns))
theorem cO.same{CK:Addr}{H H':Hp}{a pt:Addr}{h k:Nat}{nm:List (List Nat)}{ns:List Nat}(c:cO CK H a pt h k nm ns)(s:aj H H'):cO CK H' a pt h k nm ns:=by
 obtain ⟨dx,pn,pq,pd,rs,h1,h2,h3,h4,h5⟩:=c.ex;exact ⟨dx,pn,pq,pd,rs,s _ _ h1,s _ _ h2,h3.mono s,s _ _ h4,s _ _ h5⟩
def AA(c:Vbenab.Code):Nat:=match c.kind with
 | .table _=>0
 | .weights _ _=>1
 | .choose _=>2
def l8(CK:Addr)(H:Hp)(a pt:Addr)(c:Vbenab.Code):Prop:=cO CK H a pt c.holes (AA c) ((List.range (count c)).map (nameOf c)) ((codeWords c).map mask)
theorem dm{a:Addr}{H H':Hp}(u:aI a H H')(h:H a=none):aj H H':=fun b o e=>u b o e (ak e h)
theorem lK:∀ (t:List Nat) (p:Nat),∀ x∈cut p t,x.2.length≤t.length
 | [],p,x,hx=>by
  rw [cut] at hx;rw [mem_singleton.mp hx];exact le_refl _
 | c::r,p,x,hx=>by
  rw [length_cons];rw [cut] at hx;split at hx
  ·rcases mem_cons.mp hx with e | e
   ·rw [e];exact zero_le _
   ·have:=lK r (p+1) x e;omega
  ·split at hx
   ·rcases mem_cons.mp hx with e | e
    ·rw [e];exact zero_le _
    ·rcases mem_cons.mp e with e | e
     ·rw [e];show 1≤_;omega
     ·have:=lK r (p+1) x e;omega
   ·have ih:=lK r (p+1);split at hx
    ·rw [mem_singleton.mp hx];show 1≤_;omega
    ·rename_i q w l hl
     rw [hl] at ih;rcases mem_cons.mp hx with e | e
     ·rw [e];have:w.length≤r.length:=ih (q,w) mem_cons_self;show w.length+1≤_;omega
     ·have:=ih x (mem_cons_of_mem _ e);omega
theorem ug{b:List Nat}(hb:b≠[])(ws:List (Nat×List Nat)):ahead b ws=(cA ws==b):=by
 cases ws with
 | nil=>
  show false=(([]:List Nat)==b);rw [eq_comm,beq_eq_false_iff_ne];exact fun z=>hb z.symm
 | cons x r=>rfl
theorem uh{e:Nat}{b:List Nat}{ws:List (Nat×List Nat)}(h:ahead b ws=true):VbenCore.must e b ws = .ok (ws.drop 1):=by
 cases ws with
 | nil=>cases h
 | cons x r=>exact ER (p:=x.1) (w:=x.2) (beq_iff_eq.mp h)
theorem Short.Nu{ws:List (Nat×List Nat)}(h:Short ws):Short (ws.drop 1):=fun x hx=>h x (List.mem_of_mem_drop hx)
theorem Cv:codes "code"=zs (Vbenab.W "code"):=by decide +kernel
theorem AB:codes "holes"=zs (Vbenab.W "holes"):=by decide +kernel
theorem l9:codes "weights"=zs (Vbenab.W "weights"):=by decide +kernel
theorem pJ:codes "choose"=zs (Vbenab.W "choose"):=by decide +kernel
theorem Short.num{e lo hi:Nat}{ws:List (Nat×List Nat)}{x:Nat×List (Nat×List Nat)}(h:Short ws)(m:num e lo hi ws = .ok x):Short x.2:=by
 obtain ⟨_,_,p,w,e⟩:=dk m;rw [e] at h;exact h.tail
theorem AD(l:List Nat):bp l=List.range (bp l).length:=by
 unfold bp;generalize hp:dB l=p;have key:∀ n,(List.range n).takeWhile p=List.range ((List.range n).takeWhile p).length:=by
  intro n
  induction n with
  | zero=>rfl
  | succ n ih=>
   rw [range_succ,List.takeWhile_append];split
   ·rename_i hl
    rw [length_range] at hl;cases hn:p n with
    | true=>rw [List.takeWhile_cons_of_pos hn,List.takeWhile_nil,length_append,length_range,← range_succ]; rfl
    | false=>rw [List.takeWhile_cons_of_neg (by rw [hn]; decide),append_nil,length_range]
   ·exact ih
 exact key 70
theorem Gn{l:List Nat}{top h:Nat}{nm:List Nat}(ht:top≤(bp l).length-1)(h1:1≤(bp l).length):((bp l).map (pC l)).take (top+1)=(codeWords { name:=nm,holes:=h,kind:=.weights top l }).map mask:=by
 rw [AD l,← map_take,List.take_range,min_eq_left (by omega)];show _=((List.range (top+1)).map fun n=>(taken l 1 n).1).map mask;rw [map_map];rfl
theorem AE(l:List (List Nat×List Nat)):(List.range l.length).map (fun v=>((l[v]?).map fun x=>x.1).getD [])=t4 l:=by
 refine ext_getElem? fun i=>?_;rw [getElem?_map,getElem?_map];by_cases h:i<l.length
 ·rw [getElem?_range h,getElem?_eq_getElem h,map_some,getElem?_eq_getElem h];rfl
 ·rw [getElem?_eq_none (by rw [length_range]; omega),getElem?_eq_none (by omega)];rfl
section
variable {P:Program}{w:World}{K:PySem.W.Frag}{mg:Str→Option Value}{base:Heap}
def ja(CF CK:Addr):Sp:=fun vs H Q E=>∃ (a:Addr) (t:List Nat),vs=[.ref a]∧H a=some (.lst (vzs t))∧t.length≤100000 ∧
 match readCode t with
 | .ok c=>∀ (H':Hp) (p:Addr),l8 CK H' p a c→H p=none→aj H H'→Q (.ref p) H'
 | .error p=>∀ (H':Hp) (ea d:Addr),Flt CF H' ea d p→aj H H'→E (.ref ea) (some d) H'
theorem ui:ax ["text","reader","holes","kind","names","notches"] ["text"] (ao iQ):=⟨rfl,rfl,rfl,by decide +kernel,rfl,by decide +kernel,by decide +kernel⟩
theorem yC{f C CF CK fI fE fH fW fS fK fN fD:Addr}{fd fdI fdE fdH fdW fdS fdK fdN fdD:FuncData}(F:Fun K "read_code" "read_code" iQ f fd)(R:TR K C)(TFt:TF K mg CF fI)(FI:Fun K "__init__" "Fault.__init__" mFI fI fdI)(bI:L2.Binds K fdI ["self","place"] [])
  (G:GR P w K mg base C fE fH fW fS fdE fdH fdW fdS) (X:GX P w K mg base C CF fK fN fD fdK fdN fdD)
  (c8:GI mg "MOST_HOLES" 8) (c0:GI mg "VALUES_TOLD" 0) (c1:GI mg "BY_WEIGHTS" 1) (c2:GI mg "BY_CHOICE" 2)
  (DR:Cn P w K mg base 2 "Reader" C ["self","text"] (yq K C)) (DK:Cn P w K mg base 1 "Code" CK ["self","text","holes","kind","names","notches"] (O3 CK))
  (DV:Dn P w K mg base (CXF P w CF) 7 "read_values" ["reader","holes","names","notches"] (i5 C CF)) (DW:Dn P w K mg base (CXF P w CF) 5 "read_weights" ["reader","holes"] (ib C CF))
  (DC:Dn P w K mg base CX0 3 "all_chosen" ["size","holes"] j4) (DN:Dn P w K mg base CX0 2 "numbered" ["notches"] (mT K)) :
  aF P w K mg base (CXF P w CF) 8 f fd ["text"] (ja CF CK):=by
 have GI:aF P w K mg base CX0 1 fI fdI ["self","place"] (Cd CF):=Am FI TFt;obtain ⟨fr,fdr,gR,mR,hR,bR⟩:=DR;obtain ⟨fk,fdk,gK,mK,hK,bK⟩:=DK;obtain ⟨fv,fdv,gV,hV,kV,bV⟩:=DV;obtain ⟨fw,fdw,gW,hW,kW,bW⟩:=DW;obtain ⟨fc,fdc,gC,hC,kC,bC⟩:=DC;obtain ⟨fn,fdn,gN,hN,kN,bN⟩:=DN;refine yg F ui (fun vs H Q E h=>?_) (fun cdv A outer s H vs Q E hr h=>?_)
 ·obtain ⟨a,t,rfl,_⟩:=h;rfl
 ·obtain ⟨a,t,rfl,ha,ht,q⟩:=h;have nd:=ui.nd;obtain ⟨tt,pt,ht2⟩:∃ tt,PSs (x8 (CXF P w CF) P w K mg base ["text","reader","holes","kind","names","notches"] "read_code" (ao iQ) f cdv A outer s H E) ((du iQ).drop 11) tt ∧
    ∀ (H2:Hp) (ar:Addr) (z:Rz) (e h k:Nat) (pn pq:Addr) (rem:List (Nat×List Nat)) (rs:List Addr) (nm:List (List Nat)) (ns:List Nat),H ar=none→Rd C H2 ar z e rem→H2 pn=some (.lst (rs.map V.ref))→aL H2 rs nm→H2 pq=some (.lst (vzs ns))→aI ar H H2 →
     (rem=[]→ns.Nodup∧ns.length≤1000∧∀ (H':Hp) (p:Addr),cO CK H' p a h k nm ns→H p=none→aj H H'→Q (.ref p) H') →
     (rem≠[]→∀ (H':Hp) (ea d:Addr),Flt CF H' ea d (VbenCore.placeOf e rem)→aj H H'→E (.ref ea) (some d) H') →
     tt { nx:=fun _ H'=>Q .non H',rt:=Q } [some (.ref a),some (.ref ar),some (.int (h:Int)),some (.int (k:Int)),some (.ref pn),some (.ref pq)] H2:=by
   refine ⟨_,ag (a0 (cq (bf (bb (pv 1) R.cl G.me G.ge (hr.mono (by decide)) G.be .nil aE))) (ai (e8 TFt.xm GI (hr.mono (by decide)) rfl bc (by rfl) TFt.at_ bI (aa (bb (pv 1) R.cl G.mh G.gh (hr.mono (by decide)) G.bh .nil aE) ah))) aO)
    (ai (ay (dU mK gK (hr.mono (by decide)) rfl hK bK .nil aE (aa (pv 0) (aa (pv 2) (aa (pv 3) (aa (pv 4) (aa (pv 5) ah)))))))),?_⟩
   intro H2 ar z e h k pn pq rem rs nm ns har rd hpn hrows hpq up hok hbad;obtain ⟨kk,o,st,le,hrem⟩:=id rd;have rk:lR C H2 ar z.ws e kk:=⟨⟨z.dx,z.l,z.rs,o,st.1,st.2⟩,le⟩;have sH:aj H H2:=dm up har;refine ⟨_,rfl,ar,z.dx,_,rfl,o,bJ noE,ar,z.ws,e,kk,rfl,rk,_,rfl,?_⟩;by_cases hk:kk=z.ws.length
   ·have hrem0:rem=[]:=by rw [← hrem,hk,drop_length]
    obtain ⟨hnd,hnl,hq⟩:=hok hrem0;rw [decide_eq_true hk];refine b0 ?_;refine ⟨_,rfl,_,rfl,_,rfl,_,rfl,_,rfl,?_⟩;intro x dx nx ndx nex;have npq:pq≠x:=ak hpq nx;have npq2:pq≠dx:=ak hpq ndx;refine ⟨x,dx,a,pn,pq,h,k,ns,rfl,ae,by rw [aq npq,aq npq2]; exact hpq,hnd,hnl,fun H3 pd h3 hd3 u3=>⟨rfl,?_⟩⟩;have s3:aj H2 H3:=aj.made nx ndx u3;refine hq H3 x ⟨dx,pn,pq,pd,rs,h3,s3 _ _ hpn,hrows.mono s3,s3 _ _ hpq,hd3⟩ ?_ (sH.trans s3);exact sH.free nx
   ·rw [decide_eq_false hk];have hne:rem≠[]:=fun zz=>by
     rw [zz,drop_eq_nil_iff] at hrem;omega
    refine bz ⟨_,rfl,ar,z.dx,_,rfl,o,bJ noH,ar,z.ws,e,kk,rfl,rk,(by show 1≤sizeLine; decide),?_⟩;rw [hrem];exact raised fun H' ea d fl s3=>hbad hne H' ea d fl (sH.trans s3)
  refine ⟨_,ag (az (i:=1) nd rfl (Or.inl rfl) (dU mR gR (hr.mono (by decide)) rfl hR bR .nil aE (aa (pv 0) ah)))
   (ag (aV (aZ (pv 1) R.cl X.ms X.gk (hr.mono (by decide)) X.bk .nil bc.passes (aa dq ah)))
   (ag (aV (bb (pv 1) R.cl X.mn X.gn (hr.mono (by decide)) X.bn .nil bc.passes))
   (ag (aV (aZ (pv 1) R.cl X.ms X.gk (hr.mono (by decide)) X.bk .nil bc.passes (aa dq ah)))
   (ag (aV (aZ (pv 1) R.cl X.ms X.gk (hr.mono (by decide)) X.bk .nil bc.passes (aa dq ah)))
   (ag (az (i:=2) nd rfl (Or.inl rfl) (aZ (pv 1) R.cl X.md X.gd (hr.mono (by decide)) X.bd .nil bc.passes (aa au (aa (aY c8) ah))))
   (ag (aV (aZ (pv 1) R.cl X.ms X.gk (hr.mono (by decide)) X.bk .nil bc.passes (aa dq ah)))
   (ag (az (i:=3) nd rfl (Or.inl rfl) (aY c0))
   (ag (az (i:=4) nd rfl (Or.inl rfl) (aH ah))
   (ag (az (i:=5) nd rfl (Or.inl rfl) (aH ah))
   (ag (a0 (bf (aZ (pv 1) R.cl G.ms G.gs (hr.mono (by decide)) G.bs .nil aE (aa dq ah)))
    (ag (aV (aZ (pv 1) R.cl X.ms X.gk (hr.mono (by decide)) X.bk .nil bc.passes (aa dq ah)))
     (ag (az (i:=3) nd rfl (Or.inl rfl) (aY c1)) (ag (az (i:=5) nd rfl (Or.inl rfl) (aD gW (hr.mono (by decide)) rfl hW kW bW .nil bc.passes (aa (pv 1) (aa (pv 2) ah))))
     (ai (az (i:=4) nd rfl (Or.inl rfl) (aD gN (hr.mono (by decide)) rfl hN kN bN .nil aE (aa (pv 5) ah)))))))
    (ai (a0 (bf (aZ (pv 1) R.cl G.ms G.gs (hr.mono (by decide)) G.bs .nil aE (aa dq ah)))
     (ag (aV (aZ (pv 1) R.cl X.ms X.gk (hr.mono (by decide)) X.bk .nil bc.passes (aa dq ah)))
      (ag (az (i:=3) nd rfl (Or.inl rfl) (aY c2)) (ag (az (i:=5) nd rfl (Or.inl rfl) (aD gC (hr.mono (by decide)) rfl hC kC bC .nil aE (aa (aZ (pv 1) R.cl X.md X.gd (hr.mono (by decide)) X.bd .nil bc.passes (aa au (aa (pv 2) ah))) (aa (pv 2) ah))))
      (ai (az (i:=4) nd rfl (Or.inl rfl) (aD gN (hr.mono (by decide)) rfl hN kN bN .nil aE (aa (pv 5) ah)))))))
     (ai (aV (aD gV hr rfl hV kV bV .nil bc.passes (aa (pv 1) (aa (pv 2) (aa (pv 4) (aa (pv 5) ah))))))))))
   pt)))))))))),?_⟩
  have fin:∀ (c:Vbenab.Code) (rem:List (Nat×List Nat)),readCode t=over t.length c rem →
    (rem=[]→((codeWords c).map mask).Nodup∧((codeWords c).map mask).length≤1000∧∀ (H':Hp) (p:Addr),cO CK H' p a c.holes (AA c) ((List.range (count c)).map (nameOf c)) ((codeWords c).map mask)→H p=none→aj H H'→Q (.ref p) H') ∧
    (rem≠[]→∀ (H':Hp) (ea d:Addr),Flt CF H' ea d (VbenCore.placeOf t.length rem)→aj H H'→E (.ref ea) (some d) H'):=by
   intro c rem hrc;cases rem with
   | nil=>
    have hrc:readCode t = .ok c:=hrc;rw [hrc] at q;have g:=qm hrc;refine ⟨fun _=>⟨ql g.gw.nd fun x hx y hy e=>tK (g.gw.ri x hx) (g.gw.ri y hy) g.gw.hn e,by rw [length_map]; have:=g.c2; omega,q⟩,fun z=>absurd rfl z⟩
   | cons x r=>
    have hrc:readCode t = .error x.1:=hrc;rw [hrc] at q;exact ⟨fun z=>absurd z (by intro zz; cases zz),fun _=>q⟩
  have hrc:=Je t;refine ⟨_,rfl,?_⟩;intro ar dr nr ndr ner;have ha1:(upd (upd H dr (.own ar)) ar (.ins C dr [])) a=some (.lst (vzs t)):=by rw [aq (ak ha nr),aq (ak ha ndr)]; exact ha
  refine ⟨ar,dr,a,t,rfl,ae,SqL.of ha1,ht,fun H1 rd0 u0=>⟨rfl,?_⟩⟩;have s1:aj H H1:=aj.made nr ndr u0;have u1:aI ar H H1:=aI.of s1;obtain ⟨⟨dx,l,rs,r1,r2,r3⟩,_⟩:=rd0;obtain ⟨z,hz⟩:∃ z:Rz,z=⟨dx,l,rs,cut 0 t⟩:=⟨_,rfl⟩;have rd1:Rd C H1 ar z t.length (cut 0 t):=by
   subst hz;exact ⟨0,r1,⟨r2,r3⟩,zero_le _,rfl⟩
  have sh1:Short (cut 0 t):=fun x hx=>by
   have:=lK t 0 x hx;rw [sizeLine_eq];omega
  obtain ⟨d1,l1,k1,o1⟩:=rd1.obj;refine ⟨_,rfl,ar,d1,_,rfl,o1,bJ noK,ar,z,"code",t.length,cut 0 t,Vbenab.W "code",rfl,rd1,Cv,by decide +kernel,by decide +kernel,?_⟩;cases g1:VbenCore.must t.length (Vbenab.W "code") (cut 0 t) with
  | error p=>
   rw [g1] at hrc;have hrc:readCode t = .error p:=hrc;rw [hrc] at q;exact fun H' ea d fl s2=>q H' ea d fl (s1.trans s2)
  | ok w1=>
  rw [g1] at hrc;intro H2 rd2 u2;have u2:=u1.trans u2;have sh2:=sh1.must g1;obtain ⟨d2,l2,k2,o2⟩:=rd2.obj;refine ⟨_,rfl,ar,d2,_,rfl,o2,bJ noN,ar,z,t.length,w1,rfl,rd2,?_⟩;cases g2:VbenCore.name t.length w1 with
  | error p=>
   have hrc:readCode t = .error p:=by
    rw [hrc];show (VbenCore.name t.length w1 >>= _)=_;rw [g2];rfl
   rw [hrc] at q;exact fun H' ea d fl s2=>q H' ea d fl ((dm u2 nr).trans s2)
  | ok n=>
  have hrc:readCode t=(VbenCore.must t.length [10] n.2 >>= fun w2=>VbenCore.must t.length (Vbenab.W "holes") w2 >>= fun w3=>num t.length 1 8 w3 >>= fun h=>pF t.length n.1 h.1 h.2):=by
   rw [hrc];show (VbenCore.name t.length w1 >>= _)=_;rw [g2];rfl
  intro H3 p3 rd3 _ _ _ u3;have u3:=u2.trans u3;have sh3:=sh2.nm g2;obtain ⟨d3,l3,k3,o3⟩:=rd3.obj;refine ⟨_,rfl,ar,d3,_,rfl,o3,bJ noK,ar,z,"\n",t.length,n.2,[10],rfl,rd3,pA,by decide,by decide +kernel,?_⟩;cases g3:VbenCore.must t.length [10] n.2 with
  | error p=>
   rw [g3] at hrc;have hrc:readCode t = .error p:=hrc;rw [hrc] at q;exact fun H' ea d fl s2=>q H' ea d fl ((dm u3 nr).trans s2)
  | ok w2=>
  rw [g3] at hrc;have hrc:readCode t=(VbenCore.must t.length (Vbenab.W "holes") w2 >>= fun w3=>num t.length 1 8 w3 >>= fun h=>pF t.length n.1 h.1 h.2):=hrc;intro H4 rd4 u4;have u4:=u3.trans u4;have sh4:=sh3.must g3;obtain ⟨d4,l4,k4,o4⟩:=rd4.obj;refine ⟨_,rfl,ar,d4,_,rfl,o4,bJ noK,ar,z,"holes",t.length,w2,Vbenab.W "holes",rfl,rd4,AB,by decide +kernel,by decide +kernel,?_⟩;cases g4:VbenCore.must t.length (Vbenab.W "holes") w2 with
  | error p=>
   rw [g4] at hrc;have hrc:readCode t = .error p:=hrc;rw [hrc] at q;exact fun H' ea d fl s2=>q H' ea d fl ((dm u4 nr).trans s2)
  | ok w3=>
  rw [g4] at hrc;have hrc:readCode t=(num t.length 1 8 w3 >>= fun h=>pF t.length n.1 h.1 h.2):=hrc;intro H5 rd5 u5;have u5:=u4.trans u5;have sh5:=sh4.must g4;obtain ⟨d5,l5,k5,o5⟩:=rd5.obj;refine ⟨_,rfl,ar,d5,_,rfl,o5,bJ noD,ar,z,1,8,t.length,w3,rfl,by decide,rd5,sh5.head,?_⟩;cases g5:num t.length 1 8 w3 with
  | error p=>
   rw [g5] at hrc;have hrc:readCode t = .error p:=hrc;rw [hrc] at q;exact fun H' ea d fl s2=>q H' ea d fl ((dm u5 nr).trans s2)
  | ok hh=>
  rw [g5] at hrc;obtain ⟨hh1,hh8⟩:=mH g5;have hrc:readCode t=pF t.length n.1 hh.1 hh.2:=hrc;rw [rest_eq hh8] at hrc;intro H6 rd6 u6;have u6:=u5.trans u6;have sh6:=sh5.num g5;obtain ⟨d6,l6,k6,o6⟩:=rd6.obj;refine ⟨_,rfl,ar,d6,_,rfl,o6,bJ noK,ar,z,"\n",t.length,hh.2,[10],rfl,rd6,pA,by decide,by decide +kernel,?_⟩;cases g6:VbenCore.must t.length [10] hh.2 with
  | error p=>
   rw [g6] at hrc;have hrc:readCode t = .error p:=hrc;rw [hrc] at q;exact fun H' ea d fl s2=>q H' ea d fl ((dm u6 nr).trans s2)
  | ok w4=>
  rw [g6] at hrc;have hrc:readCode t=EX t.length n.1 hh.1 w4:=hrc;intro H7 rd7 u7;have u7:=u6.trans u7;have sh7:=sh6.must g6;refine ⟨zero_le _,fun pn hpn=>⟨zero_le _,fun pq hpq=>?_⟩⟩;have s8:aj H7 (upd H7 pn (.lst [])):=aj.new hpn;have s9:aj (upd H7 pn (.lst [])) (upd (upd H7 pn (.lst [])) pq (.lst [])):=aj.new hpq;have hpn9:(upd (upd H7 pn (.lst [])) pq (.lst [])) pn=some (.lst []):=s9 _ _ ae;have hpq9:(upd (upd H7 pn (.lst [])) pq (.lst [])) pq=some (.lst []):=ae;have npq:pn≠pq:=ak (show (upd H7 pn (.lst [])) pn=some (.lst []) from ae) hpq;have rd9:=rd7.same (s8.trans s9);have u9:aI ar H (upd (upd H7 pn (.lst [])) pq (.lst [])):=u7.trans (aI.of (s8.trans s9));have st9:Rs (i4 pn pq (upd (upd H7 pn (.lst [])) pq (.lst []))) z:=by
   obtain ⟨k,o,st,le,hrem⟩:=rd7;rw [Cg,Cf];refine st.same fun b ob e=>wZ (ak e hpn) (fun zz=>?_) e;rw [zz] at e;rw [s8 _ _ e] at hpq;cases hpq
  have fpn:H pn=none:=by
   cases zz:H pn with
   | none=>rfl
   | some o=>
    rw [u7 pn o zz (ak zz nr)] at hpn;cases hpn
  have fpq:H pq=none:=by
   cases zz:H pq with
   | none=>rfl
   | some o=>
    rw [s8 _ _ (u7 pq o zz (ak zz nr))] at hpq;cases hpq
  generalize hH9:upd (upd H7 pn (.lst [])) pq (.lst [])=H9 at hpn9 hpq9 rd9 u9 st9;obtain ⟨k9,o9,st9',le9,hrem9⟩:=id rd9;have rk9:lR C H9 ar z.ws t.length k9:=⟨⟨z.dx,z.l,z.rs,o9,st9'.1,st9'.2⟩,le9⟩;refine ⟨_,rfl,ar,z.dx,_,rfl,o9,bJ noS,ar,"weights",z.ws,t.length,k9,Vbenab.W "weights",rfl,rk9,l9,by decide +kernel,fun H10 s10=>⟨_,rfl,?_⟩⟩;rw [hrem9,← ug (by decide +kernel)];have rd10:=rd9.same s10;have u10:=u9.trans (aI.of s10);unfold EX at hrc;cases b1:ahead (Vbenab.W "weights") w4 with
  | true=>
   rw [if_pos b1] at hrc;refine bz ?_;have g7:=uh (e:=t.length) b1;refine ⟨_,rfl,ar,z.dx,_,rfl,s10 _ _ o9,bJ noK,ar,z,"weights",t.length,w4,Vbenab.W "weights",rfl,rd10,l9,by decide +kernel,by decide +kernel,?_⟩;rw [g7];intro H11 rd11 u11;have u11:=u10.trans u11;refine ⟨_,rfl,_,rfl,ar,z,hh.1,t.length,w4.drop 1,rfl,hh8,rd11,sh7.Nu,?_⟩;cases g8:iO t.length hh.1 (w4.drop 1) with
   | error p=>
    rw [g8] at hrc;have hrc:readCode t = .error p:=hrc;rw [hrc] at q;exact fun H' ea d fl s2=>q H' ea d fl (dm (u11.trans s2) nr)
   | ok y=>
   rw [g8] at hrc;have hrc:readCode t=over t.length { name:=n.1,holes:=hh.1,kind:=.weights y.1.2 y.1.1 } y.2:=hrc;intro H12 p12 rd12 sh12 hp12 hf12 u12;have u12:=u11.trans u12;have key:y.1.2≤(bp y.1.1).length-1∧1≤(bp y.1.1).length∧(bp y.1.1).length≤70:=by
    unfold iO Mb at g8;cases h1:weightsIn t.length hh.1 1000 (w4.drop 1) with
    | error p=>
     rw [h1] at g8;cases g8
    | ok v=>
     rw [h1] at g8;dsimp only at g8;cases h2:VbenCore.must t.length (Vbenab.W "to") v.2 with
     | error p=>
      rw [h2] at g8;cases g8
     | ok v2=>
      rw [h2] at g8;dsimp only at g8;cases h3:num t.length 1 ((bp v.1).length-1) v2 with
      | error p=>
       rw [h3] at g8;cases g8
      | ok v3=>
       rw [h3] at g8;obtain ⟨e1,e2⟩:=mH h3;cases g8;have:(bp v.1).length≤70:=by
        unfold bp;exact le_trans (List.takeWhile_prefix _).length_le (by rw [length_range]; exact le_refl _)
       exact ⟨e2,(show 1≤(bp v.1).length by omega),this⟩
   obtain ⟨key1,key2,key3⟩:=key;have ew:=Gn (h:=hh.1) (nm:=n.1) key1 key2;rw [ew] at hp12;have hlen:(vzs ((codeWords { name:=n.1,holes:=hh.1,kind:=.weights y.1.2 y.1.1 }).map mask)).length=y.1.2+1:=by
    rw [length_map,length_map,length_map];show ((List.range (y.1.2+1)).map _).length=_;rw [length_map,length_range]
   refine ⟨_,rfl,p12,_,rfl,SqL.of hp12,by rw [hlen]; omega,fun H13 p13 rs13 s13 hf13 hp13 hr13=>?_⟩;obtain ⟨ok,bad⟩:=fin _ _ hrc;refine ht2 H13 ar z t.length hh.1 1 p13 p12 y.2 rs13 _ _ nr (rd12.same s13) hp13 (hr13.mono dv) (s13 _ _ hp12) (u12.trans (aI.of s13)) (fun zz=>?_) bad;rw [hlen];obtain ⟨n1,n2,n3⟩:=ok zz;refine ⟨n1,n2,fun H' p hc hp' s'=>n3 H' p ?_ hp' s'⟩;have ec:count { name:=n.1,holes:=hh.1,kind:=.weights y.1.2 y.1.1 }=y.1.2+1:=by
    show ((List.range (y.1.2+1)).map _).length=_;rw [length_map,length_range]
   rw [ec];exact hc
  | false=>
   rw [if_neg (by rw [b1]; exact Bool.false_ne_true)] at hrc;refine b0 ?_;have rk10:lR C H10 ar z.ws t.length k9:=rk9.same s10;refine ⟨_,rfl,ar,z.dx,_,rfl,s10 _ _ o9,bJ noS,ar,"choose",z.ws,t.length,k9,Vbenab.W "choose",rfl,rk10,pJ,by decide +kernel,fun H11 s11=>⟨_,rfl,?_⟩⟩;rw [hrem9,← ug (by decide +kernel)];have rd11:=rd10.same s11;have u11:=u10.trans (aI.of s11);cases b2:ahead (Vbenab.W "choose") w4 with
   | true=>
    rw [if_pos b2] at hrc;refine bz ?_;have g7:=uh (e:=t.length) b2;refine ⟨_,rfl,ar,z.dx,_,rfl,s11 _ _ (s10 _ _ o9),bJ noK,ar,z,"choose",t.length,w4,Vbenab.W "choose",rfl,rd11,pJ,by decide +kernel,by decide +kernel,?_⟩;rw [g7];intro H12 rd12 u12;have u12:=u11.trans u12;obtain ⟨d12,l12,k12,o12⟩:=rd12.obj;refine ⟨_,rfl,ar,d12,_,rfl,o12,bJ noD,_,rfl,ar,z,1,hh.1,t.length,w4.drop 1,rfl,by omega,rd12,sh7.Nu.head,?_⟩;cases g8:num t.length 1 hh.1 (w4.drop 1) with
    | error p=>
     rw [g8] at hrc;have hrc:readCode t = .error p:=hrc;rw [hrc] at q;exact fun H' ea d fl s2=>q H' ea d fl ((dm u12 nr).trans s2)
    | ok kk=>
    rw [g8] at hrc;obtain ⟨kk1,kk2⟩:=mH g8;have hrc:readCode t=over t.length { name:=n.1,holes:=hh.1,kind:=.choose kk.1 } kk.2:=hrc;intro H13 rd13 u13;have u13:=u12.trans u13;refine ⟨_,rfl,kk.1,hh.1,rfl,by omega,hh8,fun H14 p14 s14 hf14 hp14=>?_⟩;have eg:(gz hh.1 kk.1).map mask=(codeWords { name:=n.1,holes:=hh.1,kind:=.choose kk.1 }).map mask:=by
     rw [Me hh8 (by omega)];rfl
    rw [eg] at hp14;have hlen:(vzs ((codeWords { name:=n.1,holes:=hh.1,kind:=.choose kk.1 }).map mask)).length=count { name:=n.1,holes:=hh.1,kind:=.choose kk.1 }:=by
     rw [length_map,length_map,length_map];rfl
    have hle:count { name:=n.1,holes:=hh.1,kind:=.choose kk.1 }≤70:=by
     have a:=all_eq_true.mp (all_eq_true.mp tQ hh.1 (mem_range'_1.mpr ⟨hh1,by omega⟩)) kk.1 (mem_range'_1.mpr ⟨kk1,by omega⟩);rw [and_eq_true,and_eq_true,and_eq_true,decide_eq_true_eq,decide_eq_true_eq,decide_eq_true_eq] at a;exact a.2.2.2
    refine ⟨_,rfl,p14,_,rfl,SqL.of hp14,by rw [hlen]; exact hle,fun H15 p15 rs15 s15 hf15 hp15 hr15=>?_⟩;obtain ⟨ok,bad⟩:=fin _ _ hrc;refine ht2 H15 ar z t.length hh.1 2 p15 p14 kk.2 rs15 _ _ nr ((rd13.same s14).same s15) hp15 (hr15.mono dv) (s15 _ _ hp14) (u13.trans (aI.of (s14.trans s15))) (fun zz=>?_) bad;rw [hlen];exact ok zz
   | false=>
    rw [if_neg (by rw [b2]; exact Bool.false_ne_true)] at hrc;refine b0 ?_;have s911:=s10.trans s11;have v11:NV C H11 ar z t.length w4 pn pq [] []:=⟨rd11,sh7,npq,⟨[],s911 _ _ hpn9,.nil⟩,s911 _ _ hpq9,st9.same (Gd s911)⟩;refine ⟨_,rfl,_,rfl,_,rfl,_,rfl,ar,pn,pq,z,hh.1,t.length,w4,rfl,hh8,v11,?_⟩;have bad0:∀ p,readCode t = .error p→∀ (H':Hp) (ea d:Addr),Flt CF H' ea d p→cV ar pn pq H11 H'→E (.ref ea) (some d) H':=fun p hrc H' ea d fl s2=>by
     rw [hrc] at q;exact q H' ea d fl fun b o e=>s2 b o (u11 b o e (ak e nr)) (ak e nr) (ak e fpn) (ak e fpq)
    cases g8:dz t.length hh.1 [] [] w4 with
    | error p=>
     rw [g8] at hrc;exact bad0 p hrc
    | ok y0=>
    rw [g8] at hrc;dsimp only at hrc ⊢;cases g9:j1 t.length hh.1 69 [y0.1] y0.2 with
    | error p=>
     rw [g9] at hrc;exact bad0 p hrc
    | ok y=>
    rw [g9] at hrc;have hrc:readCode t=over t.length { name:=n.1,holes:=hh.1,kind:=.table y.1 } y.2:=by
     rw [hrc];unfold pEnd;dsimp only;cases hy:y.2 with
     | nil=>rfl
     | cons x r=>rfl
    intro H12 v12 u12;obtain ⟨rs12,hpn12,hr12⟩:=v12.at_;obtain ⟨ok,bad⟩:=fin _ _ hrc;have en:(List.range (count { name:=n.1,holes:=hh.1,kind:=.table y.1 })).map (nameOf { name:=n.1,holes:=hh.1,kind:=.table y.1 })=t4 y.1:=by
     show (List.range (y.1.map fun x=>x.2).length).map _=_;rw [length_map];exact AE y.1
    have em:(codeWords { name:=n.1,holes:=hh.1,kind:=.table y.1 }).map mask=t5 y.1:=by
     show (y.1.map fun x=>x.2).map mask=_;rw [map_map];rfl
    rw [en,em] at ok;exact ht2 H12 ar z t.length hh.1 0 pn pq y.2 rs12 _ _ nr v12.rd hpn12 (hr12.mono iN) v12.nt (fun b o e nb=>u12 b o (u11 b o e nb) nb (ak e fpn) (ak e fpq)) ok bad
end
abbrev su:Stmt:=top 75
abbrev Cw:Stmt:=top 76
abbrev uj:Stmt:=top 77
theorem E3{ns:List Int}{i:Nat}{x:V}(h:(ns.map V.int)[i]? = some x):∃ n,ns[i]? = some n∧x = .int n:=by
 rw [getElem?_map] at h;cases e:ns[i]? with
 | none=>
  rw [e] at h;cases h
 | some c=>
  rw [e] at h;exact ⟨c,rfl,(Option.some.inj h).symm⟩
def cJ(ns:List Int):Bool:=decide (ns.length≤2000)&&ns.all fun n=>decide (0≤n)&&decide (n≤255)
section
variable {P:Program}{w:World}{K:PySem.W.Frag}{mg:Str→Option Value}{base:Heap}
def dM:Sp:=fun vs H Q _=>∃ (a:Addr) (xs:List V),vs=[.ref a]∧H a=some (.lst xs)∧xs.length<sizeLine∧∀ (H':Hp) (p:Addr),aj H H'→H p=none→H' p=some (.lst (.int (xs.length:Int)::xs))→Q (.ref p) H'
theorem Gq:ax ["row"] ["row"] (ao uj):=⟨rfl,rfl,rfl,by decide +kernel,rfl,by decide +kernel,by decide +kernel⟩
theorem Cy{f:Addr}{fd:FuncData}(F:Fun K "counted" "counted" uj f fd)(hL:mg "len"=none):aF P w K mg base CX0 1 f fd ["row"] dM:=by
 refine F.ok Gq (fun vs H Q E h=>?_) (fun cdv A outer s H vs Q E hr h=>?_)
 ·obtain ⟨a,xs,rfl,_⟩:=h;rfl
 ·obtain ⟨a,xs,rfl,ha,hz,q⟩:=h;refine ⟨_,ai (ay (aU hZ (aH (aa (aJ aC (by rfl) hL PySem.boot_len (aa (pv 0) ah)) ah)) (pv 0))),?_⟩;refine ⟨_,rfl,a,_,rfl,.inl (SqL.of ha),by show 1≤sizeLine; decide,fun p hp=>⟨_,rfl,p,a,_,_,rfl,rfl,ae,aj.new hp _ _ ha,by show 1+xs.length≤sizeLine; omega,fun p2 hp2=>?_⟩⟩;have s1:aj H (upd H p (.lst [.int (xs.length:Int)])):=aj.new hp;refine q _ p2 (s1.trans (aj.new hp2)) ?_ ae;cases zz:H p2 with
  | none=>rfl
  | some o=>
   rw [s1 p2 o zz] at hp2;cases hp2
def pK(K:PySem.W.Frag):Sp:=fun vs H Q _=>∃ (a:Addr) (ns:List Int) (lo hi:Int),vs=[.ref a,.int lo,.int hi]∧SqL K H a (ns.map V.int)∧Q (.bl (bg hi lo ns)) H
theorem E4:ax ["row","least","most","lowest","number"] ["row","least","most"] (ao Cw):=⟨rfl,rfl,rfl,by decide +kernel,rfl,by decide +kernel,by decide +kernel⟩
theorem Jl{f:Addr}{fd:FuncData}(F:Fun K "rises" "rises" Cw f fd):aF P w K mg base CX0 1 f fd ["row","least","most"] (pK K):=by
 refine F.ok E4 (fun vs H Q E h=>?_) (fun cdv A outer s H vs Q E hr h=>?_)
 ·obtain ⟨a,ns,lo,hi,rfl,_⟩:=h;rfl
 ·obtain ⟨a,ns,lo,hi,rfl,ha,q⟩:=h;have nd:=E4.nd;refine ⟨_,ag (az (i:=3) nd rfl (Or.inl rfl) (pv 1)) (ag (cu PassesOwn.never rfl (cI (pv 0)) (aM (i:=4) nd rfl (Or.inl rfl))
   (ag (a0 (PW.pt (jB (aK eZ (pv 4) (pv 3) (aN _)) (hJ (aK eJ (pv 4) (pv 2) (aN _))))) (ai (ay oC)) aO) (ai (az (i:=3) nd rfl (Or.inl rfl) (aU cz (pv 4) au))))) (ai (ay oC))),?_⟩
  refine ⟨_,rfl,_,rfl,a,rfl,⟨_,ha⟩,jI (K:=K) (a:=a) (xs:=ns.map V.int) (fun i σ H'=>H'=H∧∃ (low:Int) (v:Option V),σ=[some (.ref a),some (.int lo),some (.int hi),some (.int low),v]∧bg hi lo ns=bg hi low (ns.drop i)) ⟨rfl,lo,none,rfl,rfl⟩ (fun i σ H' _ ⟨e,_⟩=>by rw [e]; exact ha) ?_ ?_⟩
  ·rintro i x σ H' hi' ⟨rfl,low,v,rfl,heq⟩;obtain ⟨n,hn,rfl⟩:=E3 hi';have hd:ns.drop i=n::ns.drop (i+1):=by
    obtain ⟨hl,e⟩:=List.getElem?_eq_some_iff.mp hn;rw [drop_eq_getElem_cons hl,e]
   rw [hd,bg] at heq;refine ⟨_,rfl,_,rfl,_,_,rfl,rfl,_,rfl,cg (fun h1=>?_) fun h1=>⟨_,rfl,_,rfl,_,_,rfl,rfl,_,rfl,cg (fun h2=>?_) fun h2=>?_⟩⟩
   ·rw [if_pos (.inl h1)] at heq;rw [heq] at q;exact bz q
   ·rw [if_pos (.inr h2)] at heq;rw [heq] at q;exact q
   ·rw [if_neg (fun z=>z.elim h1 h2)] at heq;exact ⟨_,rfl,_,_,rfl,rfl,rfl,n+1,_,rfl,heq⟩
  ·rintro σ H' ⟨rfl,low,v,rfl,heq⟩;rw [length_map,drop_length] at heq;rw [heq] at q;exact q
def pL(K:PySem.W.Frag):Sp:=fun vs H Q _=>∃ (a:Addr) (ns:List Int),vs=[.ref a]∧SqL K H a (ns.map V.int)∧ns.length<sizeLine∧∀ H':Hp,aj H H'→Q (.bl (cJ ns)) H'
theorem AF:ax ["row","byte"] ["row"] (ao su):=⟨rfl,rfl,rfl,by decide +kernel,rfl,by decide +kernel,by decide +kernel⟩
theorem Cz{f:Addr}{fd:FuncData}(F:Fun K "is_text" "is_text" su f fd)(hL:mg "len"=none)(hA:mg "all"=none)(hM:GI mg "MOST_BYTES" 2000):aF P w K mg base CX0 1 f fd ["row"] (pL K):=by
 refine F.ok AF (fun vs H Q E h=>?_) (fun cdv A outer s H vs Q E hr h=>?_)
 ·obtain ⟨a,ns,rfl,_⟩:=h;rfl
 ·obtain ⟨a,ns,rfl,ha,hz,q⟩:=h;have nd:=AF.nd;refine ⟨_,ai (ay (HF (eL oG (aJ aC (by rfl) hL PySem.boot_len (aa (pv 0) ah)) (aY hM) (aN _)) (HE (aJ (BM rfl) (by rfl) hA B5 (aa (lW (own:=[("byte",1)]) rfl nd (cI (pv 0)) (cy (by show lQ ["row","byte"] (ao su) _ _=true; decide +kernel)) (fun s H C cl fp=>aM (i:=1) nd rfl (Or.inl rfl)) (fun s H C cl fp=>eM)
   (fun s H C cl fp=>oH oG oG au (pv 1) au)) ah))))),?_⟩
  have hlen:((ns.map V.int).length:Int)=(ns.length:Int):=by rw [length_map]
  refine ⟨_,rfl,a,_,rfl,.inl ha,_,_,rfl,rfl,_,rfl,cg (fun h1=>?_) fun h1=>?_⟩
  ·rw [hlen] at h1;refine ⟨_,rfl,a,rfl,⟨_,ha⟩,fun D hD=>B6 (fun x=>.bl (btw 0 255 x)) ha hD (by rw [length_map]; exact hz) (fun _=>rfl) (fun x H' Q' hx hq=>?_) ?_⟩
   ·obtain ⟨n,_,rfl⟩:=mem_map.mp hx;exact B7 rfl hq
   ·refine ⟨D,(ns.map V.int).map (btw 0 255),rfl,SqL.of (by rw [ae]; exact congrArg (fun z=>some (HO.lst z)) (map_map).symm),?_⟩;have e:((ns.map V.int).map (btw 0 255)).all id=cJ ns:=by
     unfold cJ;rw [decide_eq_true (show ns.length≤2000 by have:(ns.length:Int)≤2000:=h1; omega),Bool.true_and,all_map,all_map];rfl
    rw [e];exact q _ (aj.new hD)
  ·rw [hlen] at h1;have e:cJ ns=false:=by
    unfold cJ;rw [decide_eq_false (show ¬ ns.length≤2000 by have:¬ (ns.length:Int)≤2000:=h1; omega),Bool.false_and]
   rw [e] at q;exact q H aj.rfl
end
abbrev uk:Stmt:=top 102
abbrev mCI:Stmt:=inClass uk 0
abbrev mCD:Stmt:=inClass uk 1
abbrev mCN:Stmt:=inClass uk 2
abbrev mCL:Stmt:=inClass uk 3
abbrev mCG:Stmt:=inClass uk 4
def cf(q:Addr)(k:Nat):List (Str×V):=[("numbers",.ref q),("taken",.int (k:Int))]
def Src(K:PySem.W.Frag)(sb:Bool)(H:Hp)(q:Addr)(xs:List V):Prop:=if sb=true then L2.Rd H q (.lst xs) else ∀ H0:Hp,SqL K H0 q xs
theorem Src.sq{K:PySem.W.Frag}{sb:Bool}{H:Hp}{q:Addr}{xs:List V}(h:Src K sb H q xs):SqL K H q xs:=by
 cases sb with
 | true=>exact .inl h
 | false=>exact h H
theorem O4{K:PySem.W.Frag}{H:Hp}{q:Addr}{xs:List V}(h:SqL K H q xs):∃ sb,Src K sb H q xs:=by
 rcases h with h | h
 ·exact ⟨true,h⟩
 ·exact ⟨false,fun H0=>.inr h⟩
theorem Src.same{K:PySem.W.Frag}{sb:Bool}{H H':Hp}{q:Addr}{xs:List V}(h:Src K sb H q xs)(s:aj H H'):Src K sb H' q xs:=by
 cases sb with
 | true=>
  rcases (show L2.Rd H q (.lst xs) from h) with h | ⟨o,h⟩
  ·exact .inl (s _ _ h)
  ·exact .inr ⟨o,s _ _ h⟩
 | false=>exact h
theorem Src.cR{K:PySem.W.Frag}{sb:Bool}{H H':Hp}{q p C dx:Addr}{fs:List (Str×V)}{xs:List V}(h:Src K sb H q xs)(hp:H p=some (.ins C dx fs))(u:aI p H H'):Src K sb H' q xs:=by
 cases sb with
 | true=>
  rcases (show L2.Rd H q (.lst xs) from h) with h | ⟨o,h⟩
  ·exact .inl (u _ _ h (aW h hp (by intro z; cases z)))
  ·exact .inr ⟨o,u _ _ h (aW h hp (by intro z; cases z))⟩
 | false=>exact h
theorem Src.rM{K:PySem.W.Frag}{sb:Bool}{H:Hp}{q p:Addr}{xs:List V}(h:Src K sb H q xs)(n:sb=true→q≠p):Src K sb (but p H) q xs:=by
 cases sb with
 | true=>
  rcases (show L2.Rd H q (.lst xs) from h) with h | ⟨o,h⟩
  ·exact .inl (aR (n rfl) h)
  ·exact .inr ⟨o,aR (n rfl) h⟩
 | false=>exact h
theorem Src.ne{K:PySem.W.Frag}{sb:Bool}{H:Hp}{q p:Addr}{xs:List V}(h:Src K sb H q xs)(hp:H p=none):sb=true→q≠p:=by
 rintro rfl;rcases (show L2.Rd H q (.lst xs) from h) with h | ⟨o,h⟩
 ·exact ak h hp
 ·exact ak h hp
def Cl(C:Addr)(K:PySem.W.Frag)(sb:Bool)(H:Hp)(a dx q:Addr)(rem:List Int):Prop:=∃ (ns:List Int) (k:Nat),H a=some (.ins C dx (cf q k))∧Src K sb H q (ns.map V.int)∧k≤ns.length∧ns.drop k=rem
structure TC(K:PySem.W.Frag)(C:Addr):Prop where
 cl:Cls K C
 nN:aP K C "numbers"
 nT:aP K C "taken"
theorem O5(q:Addr)(k:Nat):(cf q k).lookup ("numbers":Str)=some (.ref q):=rfl
theorem Gr(q:Addr)(k:Nat):(cf q k).lookup ("taken":Str)=some (.int (k:Int)):=by rfl
theorem xc{m:Str}{q:Addr}{k:Nat}(h:(m==("numbers":Str))=false∧(m==("taken":Str))=false):(cf q k).lookup m=none:=by
 unfold cf;simp only [List.lookup,h.1,h.2]
theorem Jm(q:Addr)(k j:Nat):cn "taken" (.int ((k:Int)+(j:Int))) (cf q k)=cf q (k+j):=by
 have z:((k:Int)+(j:Int))=((k+j:Nat):Int):=by omega
 rw [z];rfl
theorem O6:(("take_number":Str)==("numbers":Str))=false∧(("take_number":Str)==("taken":Str))=false:=by decide +kernel
theorem UG:(("take_list":Str)==("numbers":Str))=false∧(("take_list":Str)==("taken":Str))=false:=by decide +kernel
theorem Cl.same{C:Addr}{K:PySem.W.Frag}{sb:Bool}{H H':Hp}{a dx q:Addr}{rem:List Int}(c:Cl C K sb H a dx q rem)(s:aj H H'):Cl C K sb H' a dx q rem:=by
 obtain ⟨ns,k,h1,h2,h3⟩:=c;exact ⟨ns,k,s _ _ h1,h2.same s,h3⟩
theorem Cl.take{C:Addr}{K:PySem.W.Frag}{sb:Bool}{H:Hp}{a dx q:Addr}{ns:List Int}{k:Nat}(h1:H a=some (.ins C dx (cf q k)))(h2:Src K sb H q (ns.map V.int))(j:Nat)(hk:k+j≤ns.length):Cl C K sb (upd H a (.ins C dx (cf q (k+j)))) a dx q ((ns.drop k).drop j):=
 ⟨ns,k+j,ae,h2.cR h1 bu,hk,by rw [drop_drop]⟩
section
variable {P:Program}{w:World}{K:PySem.W.Frag}{sb:Bool}{mg:Str→Option Value}{base:Heap}
def Rx(K:PySem.W.Frag)(C:Addr)(sb:Bool):Sp:=fun vs H Q _=>∃ (p dx q:Addr) (ns:List Int),vs=[.ref p,.ref q]∧H p=some (.ins C dx [])∧Src K sb H q (ns.map V.int)∧∀ H':Hp,Cl C K sb H' p dx q ns→aI p H H'→Q .non H'
theorem UH:ax ["self","numbers"] ["self","numbers"] (ao mCI):=⟨rfl,rfl,rfl,by decide +kernel,rfl,by decide +kernel,by decide +kernel⟩
theorem Ry{f C:Addr}{fd:FuncData}(F:Fun K "__init__" "Calls.__init__" mCI f fd)(T:TC K C):aF P w K mg base CX0 1 f fd ["self","numbers"] (Rx K C sb):=by
 refine F.ok UH (fun vs H Q E h=>?_) (fun cdv A outer s H vs Q E hr h=>?_)
 ·obtain ⟨p,dx,q,ns,rfl,_⟩:=h;rfl
 ·obtain ⟨p,dx,q,ns,rfl,hp,hq,k⟩:=h;refine ⟨_,ag (b9 (pv 0) (pv 1) rfl) (ai (b9 (pv 0) au rfl)),?_⟩;refine ⟨_,rfl,_,rfl,p,C,dx,[],rfl,hp,T.cl,T.nN,(by show 0<1000; decide),_,rfl,p,C,dx,_,rfl,ae,T.cl,T.nT,(by show 1<1000; decide),?_⟩;rw [bQ];exact k _ ⟨ns,0,ae,hq.cR hp bu,zero_le _,rfl⟩ bu
def RA(K:PySem.W.Frag)(C:Addr)(sb:Bool):Sp:=fun vs H Q _=>∃ (a dx q:Addr) (rem:List Int),vs=[.ref a]∧Cl C K sb H a dx q rem∧Q (.bl rem.isEmpty) H
theorem UI:ax ["self"] ["self"] (ao mCD):=⟨rfl,rfl,rfl,by decide +kernel,rfl,by decide +kernel,by decide +kernel⟩
theorem RC{f C:Addr}{fd:FuncData}(F:Fun K "done" "Calls.done" mCD f fd)(hL:mg "len"=none)(T:TC K C):aF P w K mg base CX0 1 f fd ["self"] (RA K C sb):=by
 refine F.ok UI (fun vs H Q E h=>?_) (fun cdv A outer s H vs Q E hr h=>?_)
 ·obtain ⟨a,dx,q,rem,rfl,_⟩:=h;rfl
 ·obtain ⟨a,dx,q,rem,rfl,⟨ns,k,h1,h2,h3,h4⟩,kq⟩:=h;refine ⟨_,ai (ay (eL dH (aB (pv 0) rfl) (aJ aC (by rfl) hL PySem.boot_len (aa (aB (pv 0) rfl) ah)) (aN _))),?_⟩;refine ⟨_,rfl,a,C,dx,_,_,rfl,h1,T.cl,T.nT,Gr _ _,_,rfl,a,C,dx,_,_,rfl,h1,T.cl,T.nN,O5 _ _,q,_,rfl,.inl h2.sq,rfl,?_⟩;have e:decide (V.int (k:Int)=V.int ((ns.map V.int).length:Int))=rem.isEmpty:=by
   rw [length_map,Bool.eq_iff_iff,decide_eq_true_eq,isEmpty_iff,← h4,drop_eq_nil_iff];exact ⟨fun z=>le_of_eq (b8 z).symm,fun z=>by rw [show k=ns.length by omega]⟩
  rw [e];exact kq
def Jn(K:PySem.W.Frag)(C:Addr)(sb:Bool):Sp:=fun vs H Q _=>∃ (a dx q:Addr) (x:Int) (r:List Int),vs=[.ref a]∧Cl C K sb H a dx q (x::r)∧∀ H':Hp,Cl C K sb H' a dx q r→aI a H H'→Q (.int x) H'
theorem RD:ax ["self","number"] ["self"] (ao mCN):=⟨rfl,rfl,rfl,by decide +kernel,rfl,by decide +kernel,by decide +kernel⟩
theorem RE{f C:Addr}{fd:FuncData}(F:Fun K "take_number" "Calls.take_number" mCN f fd)(T:TC K C):aF P w K mg base CX0 1 f fd ["self"] (Jn K C sb):=by
 refine F.ok RD (fun vs H Q E h=>?_) (fun cdv A outer s H vs Q E hr h=>?_)
 ·obtain ⟨a,dx,q,x,r,rfl,_⟩:=h;rfl
 ·obtain ⟨a,dx,q,x,r,rfl,⟨ns,k,h1,h2,h3,h4⟩,kq⟩:=h;have nd:=RD.nd;have hk:k<ns.length:=by
   cases lt_or_ge k ns.length with
   | inl z=>exact z
   | inr z=>
    rw [drop_eq_nil_of_le z] at h4;cases h4
  have hx:ns[k]? = some x:=by
   rw [drop_eq_getElem_cons hk] at h4;cases h4;exact getElem?_eq_getElem hk
  refine ⟨_,ag (az (i:=1) nd rfl (Or.inl rfl) (aQ aG (aB (pv 0) rfl) (aB (pv 0) rfl) (fun _ _=>rfl))) (ag (eQ (pv 0) au pZ) (ai (ay (pv 1)))),?_⟩;refine ⟨_,rfl,a,C,dx,_,_,rfl,h1,T.cl,T.nN,O5 _ _,_,rfl,a,C,dx,_,_,rfl,h1,T.cl,T.nT,Gr _ _,q,_,_,_,rfl,rfl,h2.sq,at_of (j:=k) (v:=.int x) rfl (by rw [getElem?_map,hx]; rfl),?_⟩;refine ⟨_,rfl,a,C,dx,_,_,rfl,h1,T.cl,T.nT,Gr _ _,_,_,rfl,rfl,dx,_,h1,(by show 2<1000; decide),_,rfl,?_⟩;have c:=Cl.take h1 h2 1 hk;rw [h4] at c;have e:cn "taken" (.int ((k:Int)+1)) (cf q k)=cf q (k+1):=Jm q k 1;rw [e];exact kq _ c bu
def O7(K:PySem.W.Frag)(C:Addr)(sb:Bool):Sp:=fun vs H Q _=>∃ (a dx q:Addr) (n:Nat) (r:List Int),vs=[.ref a]∧Cl C K sb H a dx q ((n:Int)::r)∧n≤r.length∧∀ (H':Hp) (p:Addr),Cl C K sb H' a dx q (r.drop n)→H' p=some (.lst ((r.take n).map V.int))→H p=none→aI a H H'→Q (.ref p) H'
theorem RF:ax ["self","size","row"] ["self"] (ao mCL):=⟨rfl,rfl,rfl,by decide +kernel,rfl,by decide +kernel,by decide +kernel⟩
theorem RG{f C fN:Addr}{fd fdN:FuncData}(F:Fun K "take_list" "Calls.take_list" mCL f fd)(T:TC K C)(GN:aF P w K mg base CX0 1 fN fdN ["self"] (Jn K C sb))(mN:Meth K C "take_number" fN)(bN:L2.Binds K fdN ["self"] []):aF P w K mg base CX0 2 f fd ["self"] (O7 K C sb):=by
 refine F.ok RF (fun vs H Q E h=>?_) (fun cdv A outer s H vs Q E hr h=>?_)
 ·obtain ⟨a,dx,q,n,r,rfl,_⟩:=h;rfl
 ·obtain ⟨a,dx,q,n,r,rfl,c,hn,kq⟩:=h;have nd:=RF.nd;obtain ⟨ns0,k0,h1,_⟩:=id c;refine ⟨_,ag (az (i:=1) nd rfl (Or.inl rfl) (bb (pv 0) T.cl mN GN hr bN .nil aE))
   (ag (az (i:=2) nd rfl (Or.inl rfl) (oI rY (aB (pv 0) rfl) (lq (aB (pv 0) rfl)) (lq (aU cz (aB (pv 0) rfl) (pv 1)))))
   (ag (eQ (pv 0) (pv 1) pZ) (ai (ay (pv 2))))),?_⟩
  refine ⟨_,rfl,a,dx,_,rfl,h1,xc O6,a,dx,q,(n:Int),r,rfl,c,fun H1 c1 u1=>?_⟩;obtain ⟨ns,k,g1,g2,g3,g4⟩:=id c1;have hlen:n≤ns.length-k:=by
   rw [← g4,length_drop] at hn;exact hn
  refine ⟨_,rfl,a,C,dx,_,_,rfl,g1,T.cl,T.nN,O5 _ _,_,rfl,a,C,dx,_,_,rfl,g1,T.cl,T.nT,Gr _ _,_,rfl,_,rfl,a,C,dx,_,_,rfl,g1,T.cl,T.nT,Gr _ _,_,rfl,_,_,rfl,rfl,_,rfl,q,_,rfl,g2.sq,fun p hp=>?_⟩;have hpa:p≠a:=Ne.symm (ak g1 hp);have e1:rC (ns.map V.int) (some (k:Int)) (some ((k:Int)+(n:Int)))=(r.take n).map V.int:=by
   rw [show ((k:Int)+(n:Int))=((k+n:Nat):Int) by omega];unfold rC;rw [HT.lp,HT.lp,length_map,min_eq_left (by omega),min_eq_left (by omega),← map_drop,← map_take,g4,show k+n-k=n by omega]
  rw [e1];have s1:aj H1 (upd H1 p (.lst ((r.take n).map V.int))):=aj.new hp;have g1':=s1 _ _ g1;refine ⟨_,rfl,a,C,dx,_,_,rfl,g1',T.cl,T.nT,Gr _ _,_,rfl,_,_,rfl,rfl,dx,_,g1',(by show 2<1000; decide),_,rfl,?_⟩;have c2:=Cl.take g1' (g2.same s1) n (by omega);rw [g4] at c2;rw [Jm];refine kq _ p c2 (bu _ _ ae hpa) ?_ ((u1.trans (aI.of s1)).trans bu);cases zz:H p with
  | none=>rfl
  | some o=>
   rw [u1 p o zz hpa] at hp;cases hp
end
inductive ck(H:Hp):List Addr→List (List Int)→Prop
 | nil:ck H [] []
 | cons {r:Addr} {rs:List Addr} {w:List Int} {ws:List (List Int)}:H r=some (.lst (w.map V.int))→ck H rs ws→ck H (r::rs) (w::ws)
theorem ck.mono{H H':Hp}(s:aj H H'):∀ {rs:List Addr} {ws:List (List Int)},ck H rs ws→ck H' rs ws
 | _,_,.nil=>.nil
 | _,_,.cons a t=>.cons (s _ _ a) (ck.mono s t)
theorem ck.snoc{H:Hp}{r:Addr}{w:List Int}(h:H r=some (.lst (w.map V.int))):∀ {rs:List Addr} {ws:List (List Int)},ck H rs ws→ck H (rs++[r]) (ws++[w])
 | _,_,.nil=>.cons h .nil
 | _,_,.cons a t=>.cons a (ck.snoc h t)
theorem ck.len{H:Hp}:∀ {rs:List Addr} {ws:List (List Int)},ck H rs ws→rs.length=ws.length
 | _,_,.nil=>rfl
 | _,_,.cons _ t=>by rw [length_cons,length_cons,ck.len t]
theorem ck.cR{H H':Hp}{a C dx:Addr}{fs:List (Str×V)}(ha:H a=some (.ins C dx fs))(u:aI a H H'):∀ {rs:List Addr} {ws:List (List Int)},ck H rs ws→ck H' rs ws
 | _,_,.nil=>.nil
 | _,_,.cons h t=>.cons (u _ _ h (aW h ha (by intro z; cases z))) (ck.cR ha u t)
theorem Jo{K:PySem.W.Frag}{a p C dx:Addr}{fs:List (Str×V)}{H H':Hp}{xs:List V}(h:SqT K H a xs)(hp:H p=some (.ins C dx fs))(u:aI p H H'):SqT K H' a xs:=by
 rcases h with (h | ⟨o,h⟩) | h
 ·exact .inl (.inl (u _ _ h (aW h hp (by intro z; cases z))))
 ·exact .inl (.inr ⟨o,u _ _ h (aW h hp (by intro z; cases z))⟩)
 ·exact .inr h
structure GB(C:Addr)(K:PySem.W.Frag)(sb:Bool)(H:Hp)(a dx q p:Addr)(rem:List Int)(xs:List Int)(ps:List Addr)(rows:List (List Int))(H':Hp):Prop where
 cl:Cl C K sb H' a dx q rem
 sq:∃ ns:List Int,Src K sb (but p H') q (ns.map V.int)
 at_:H' p=some (.lst (xs.map V.int++ps.map V.ref))
 rw_:ck (but p H') ps rows
 up:aI a H H'
theorem GB.more{C:Addr}{K:PySem.W.Frag}{sb:Bool}{H H':Hp}{a dx q p:Addr}{rem xs:List Int}{ps:List Addr}{rows:List (List Int)}{ys:List V}{xs':List Int}{ps':List Addr}{rows':List (List Int)}(g:GB C K sb H a dx q p rem xs ps rows H')(hp:H p=none)(nq:sb=true→q≠p)(e:ys=xs'.map V.int++ps'.map V.ref)(hr:ck (but p H') ps' rows') :
  GB C K sb H a dx q p rem xs' ps' rows' (upd H' p (.lst ys)):=by
 obtain ⟨ns,k,o,s,le,d⟩:=g.cl;have hpa:a≠p:=aW o g.at_ (by intro z; cases z);have s2:Src K sb (but p (upd H' p (.lst ys))) q (ns.map V.int):=by
  rw [cb];exact s.rM nq
 refine ⟨⟨ns,k,by rw [aq hpa]; exact o,s2.same dv,le,d⟩,⟨ns,s2⟩,by rw [ae,e],by rw [cb]; exact hr,fun b ob z n=>?_⟩;rw [aq (ak z hp)];exact g.up b ob z n
theorem GB.RH{C:Addr}{K:PySem.W.Frag}{sb:Bool}{H H' H2:Hp}{a dx q p:Addr}{rem rem2 xs:List Int}{ps:List Addr}{rows:List (List Int)}(g:GB C K sb H a dx q p rem xs ps rows H')(c:Cl C K sb H2 a dx q rem2)(nq:sb=true→q≠p)(u:aI a H' H2):GB C K sb H a dx q p rem2 xs ps rows H2:=by
 obtain ⟨ns0,k0,o,_⟩:=g.cl;have hpa:a≠p:=aW o g.at_ (by intro z; cases z);obtain ⟨ns,k,o2,s,le,d⟩:=id c;exact ⟨c,⟨ns,s.rM nq⟩,u _ _ g.at_ (Ne.symm hpa),ck.cR (aR hpa o) (dw u) g.rw_,g.up.trans u⟩
theorem xf{k:Nat}{l:List Int}{rows:List (List Int)}{t:List Int}(h:PyFlat.rows (k+1) l=some (rows,t)):∃ (n:Nat) (r:List Int) (more:List (List Int)),l=(n:Int)::r∧n≤r.length∧PyFlat.rows k (r.drop n)=some (more,t)∧rows=r.take n::more:=by
 unfold PyFlat.rows at h;cases l with
 | nil=>cases h
 | cons x r=>
  unfold PyFlat.row at h;dsimp only at h;by_cases hx:0≤x∧x.toNat≤r.length
  ·rw [if_pos hx] at h;dsimp only at h;cases hm:PyFlat.rows k (r.drop x.toNat) with
   | none=>
    rw [hm] at h;cases h
   | some y=>
    rw [hm] at h;obtain ⟨more,t'⟩:=y;cases h;exact ⟨x.toNat,r,more,by rw [Int.toNat_of_nonneg hx.1],hx.2,hm,rfl⟩
  ·rw [if_neg hx] at h;cases h
section
variable {P:Program}{w:World}{K:PySem.W.Frag}{sb:Bool}{mg:Str→Option Value}{base:Heap}
def RI(K:PySem.W.Frag)(C:Addr)(sb:Bool):Sp:=fun vs H Q _=>∃ (a dx q sh:Addr) (m:Nat) (xs r:List Int) (rows:List (List Int)) (t:List Int),vs=[.ref a,.ref sh]∧Cl C K sb H a dx q (xs++r)∧SqT K H sh [.int (xs.length:Int),.int (m:Int)]∧PyFlat.rows m r=some (rows,t)∧xs.length≤10∧m≤10 ∧
 ∀ (H':Hp) (p:Addr) (ps:List Addr),Cl C K sb H' a dx q t→H' p=some (.lst (xs.map V.int++ps.map V.ref))→ck H' ps rows→H p=none→aI a H H'→Q (.ref p) H'
theorem RJ:ax ["self","shape","given"] ["self","shape"] (ao mCG):=⟨rfl,rfl,rfl,by decide +kernel,rfl,by decide +kernel,by decide +kernel⟩
theorem RK{f C fN fL:Addr}{fd fdN fdL:FuncData}(F:Fun K "take_given" "Calls.take_given" mCG f fd)(T:TC K C)(hL:mg "len"=none)(GN:aF P w K mg base CX0 1 fN fdN ["self"] (Jn K C sb))(mN:Meth K C "take_number" fN)(bN:L2.Binds K fdN ["self"] [])
  (GL:aF P w K mg base CX0 2 fL fdL ["self"] (O7 K C sb)) (mL:Meth K C "take_list" fL) (bL:L2.Binds K fdL ["self"] []):aF P w K mg base CX0 3 f fd ["self","shape"] (RI K C sb):=by
 refine F.ok RJ (fun vs H Q E h=>?_) (fun cdv A outer s H vs Q E hr h=>?_)
 ·obtain ⟨a,dx,q,sh,m,xs,r,rows,t,rfl,_⟩:=h;rfl
 ·obtain ⟨a,dx,q,sh,m,xs,r,rows,t,rfl,c,hsh,hrows,hx,hm,kq⟩:=h;have nd:=RJ.nd;refine ⟨_,ag (az (i:=2) nd rfl (Or.inl rfl) (aH ah))
   (ag (cS PassesOwn.never (aK eZ (aJ aC (by rfl) hL PySem.boot_len (aa (pv 2) ah)) (aQ e7 (pv 1) au (fun _ _=>rfl)) (aN _))
    (ai (aV (c5 plainAttrs_list PySem.F.slot_list_append PySem.F.type_list_append br (pv 2) (aa (bb (pv 0) T.cl mN GN (hr.mono (by decide)) bN .nil aE) ah)))))
   (ag (cS PassesOwn.never (aK eZ (aJ aC (by rfl) hL PySem.boot_len (aa (pv 2) ah)) (aU cz (aQ e7 (pv 1) au (fun _ _=>rfl)) (aQ e7 (pv 1) au (fun _ _=>rfl))) (aN _))
    (ai (aV (c5 plainAttrs_list PySem.F.slot_list_append PySem.F.type_list_append br (pv 2) (aa (bb (pv 0) T.cl mL GL hr bL .nil aE) ah)))))
   (ai (ay (pv 2))))),?_⟩
  refine ⟨zero_le _,fun p hp=>?_⟩;have nq:sb=true→q≠p:=(let ⟨_,_,_,z,_⟩:=c; z.ne hp);have s0:aj H (upd H p (.lst [])):=aj.new hp;have g0:GB C K sb H a dx q p (xs++r) [] [] [] (upd H p (.lst [])):=by
   obtain ⟨ns,k,o,sq,le,d⟩:=c;exact ⟨⟨ns,k,s0 _ _ o,sq.same s0,le,d⟩,⟨ns,(sq.same s0).rM nq⟩,ae,.nil,aI.of s0⟩
  have shAt:∀ {rem xs0:List Int} {ps:List Addr} {rw0:List (List Int)} {H':Hp},GB C K sb H a dx q p rem xs0 ps rw0 H'→SqT K H' sh [.int (xs.length:Int),.int (m:Int)]:=fun {rem xs0 ps rw0 H'} g=>by
   obtain ⟨_,_,o,_⟩:=c;exact Jo hsh o g.up
  refine ⟨fun k σ H'=>∃ j,j≤xs.length∧k=xs.length-j∧σ=[some (.ref a),some (.ref sh),some (.ref p)]∧GB C K sb H a dx q p (xs.drop j++r) (xs.take j) [] [] H',⟨_,0,zero_le _,rfl,rfl,g0⟩,?_⟩;rintro k σ H1 ⟨j,hj,rfl,rfl,g1⟩;have hlen1:(((xs.take j).map V.int++([]:List Addr).map V.ref).length:Int)=(j:Int):=by
   rw [map_nil,append_nil,length_map,length_take,min_eq_left hj]
  refine ⟨_,rfl,p,_,rfl,.inl (SqL.of g1.at_),_,rfl,sh,_,_,_,rfl,rfl,shAt g1,at_of (j:=0) (v:=.int (xs.length:Int)) rfl rfl,_,_,rfl,rfl,_,rfl,cg (fun hlt=>?_) fun hlt=>?_⟩
  ·rw [hlen1] at hlt;have hjl:j<xs.length:=by have:(j:Int)<(xs.length:Int):=hlt; omega
   refine ⟨fun σ' H'=>∃ k',k'<xs.length-j∧∃ j',j'≤xs.length∧k'=xs.length-j'∧σ'=[some (.ref a),some (.ref sh),some (.ref p)]∧GB C K sb H a dx q p (xs.drop j'++r) (xs.take j') [] [] H',fun _ _ z=>z,?_⟩;obtain ⟨ns1,k1,o1,_⟩:=g1.cl;have hd:xs.drop j++r=xs[j]::(xs.drop (j+1)++r):=by rw [drop_eq_getElem_cons hjl]; rfl
   refine ⟨_,rfl,.inl ⟨rfl,_,SqL.of g1.at_⟩,_,rfl,a,dx,_,rfl,o1,xc O6,a,dx,q,xs[j],xs.drop (j+1)++r,rfl,by rw [← hd]; exact g1.cl,fun H2 c2 u2=>?_⟩;have g2:=g1.RH c2 nq u2;refine ⟨p,_,_,rfl,rfl,g2.at_,by rw [map_nil,append_nil,length_map,length_take,sizeLine_eq]; omega,?_⟩;refine ⟨xs.length-(j+1),by omega,j+1,hjl,rfl,rfl,g2.more hp nq ?_ g2.rw_⟩;rw [take_snoc (getElem?_eq_getElem hjl),map_append,map_nil,append_nil,append_nil];rfl
  ·rw [hlen1] at hlt;obtain rfl:j=xs.length:=by have:¬ (j:Int)<(xs.length:Int):=hlt; omega
   rw [drop_length,take_length,nil_append] at g1;refine ⟨fun k σ H'=>∃ (ps:List Addr) (dn more:List (List Int)) (rem:List Int),σ=[some (.ref a),some (.ref sh),some (.ref p)]∧GB C K sb H a dx q p rem xs ps dn H'∧dn.length+k=m∧PyFlat.rows k rem=some (more,t)∧rows=dn++more,⟨m,[],[],rows,r,rfl,g1,by rw [length_nil,zero_add],hrows,rfl⟩,?_⟩;rintro k σ H2 ⟨ps,dn,more,rem,rfl,g2,hdk,hr2,hrw⟩;have hlen2:((xs.map V.int++ps.map V.ref).length:Int)=(xs.length:Int)+(dn.length:Int):=by
    rw [length_append,length_map,length_map,g2.rw_.len];omega
   refine ⟨_,rfl,p,_,rfl,.inl (SqL.of g2.at_),_,rfl,sh,_,_,_,rfl,rfl,shAt g2,at_of (j:=0) (v:=.int (xs.length:Int)) rfl rfl,_,rfl,sh,_,_,_,rfl,rfl,shAt g2,at_of (j:=1) (v:=.int (m:Int)) rfl rfl,_,_,rfl,rfl,_,_,rfl,rfl,_,rfl,cg (fun hlt2=>?_) fun hlt2=>?_⟩
   ·rw [hlen2] at hlt2;obtain ⟨k',rfl⟩:∃ k',k=k'+1:=⟨k-1,by have:(xs.length:Int)+(dn.length:Int)<(xs.length:Int)+(m:Int):=hlt2; omega⟩;obtain ⟨n,r2,more2,rfl,hn,hr3,rfl⟩:=xf hr2;refine ⟨fun σ' H'=>∃ k2,k2<k'+1∧∃ (ps:List Addr) (dn more:List (List Int)) (rem:List Int),σ'=[some (.ref a),some (.ref sh),some (.ref p)]∧GB C K sb H a dx q p rem xs ps dn H'∧dn.length+k2=m∧PyFlat.rows k2 rem=some (more,t)∧rows=dn++more,fun _ _ z=>z,?_⟩;obtain ⟨ns1,k1,o1,_⟩:=g2.cl;refine ⟨_,rfl,.inl ⟨rfl,_,SqL.of g2.at_⟩,_,rfl,a,dx,_,rfl,o1,xc UG,a,dx,q,n,r2,rfl,g2.cl,hn,fun H3 p3 c3 hp3 hf3 u3=>?_⟩;have g3:=g2.RH c3 nq u3;have n3:p3≠p:=fun z=>by
     rw [z,g2.at_] at hf3;cases hf3
    refine ⟨p,_,_,rfl,rfl,g3.at_,by rw [length_append,length_map,length_map,g2.rw_.len,sizeLine_eq]; omega,?_⟩;refine ⟨k',lt_succ_self _,ps++[p3],dn++[r2.take n],more2,r2.drop n,rfl,g3.more hp nq ?_ (ck.snoc (aR n3 hp3) g3.rw_),by rw [length_append]; show dn.length+1+k'=m; omega,hr3,by rw [hrw,append_assoc]; rfl⟩;rw [map_append,← append_assoc];rfl
   ·rw [hlen2] at hlt2;obtain rfl:k=0:=by have:¬ (xs.length:Int)+(dn.length:Int)<(xs.length:Int)+(m:Int):=hlt2; omega
    cases hr2;rw [append_nil] at hrw;rw [hrw] at kq;exact ⟨_,rfl,kq H2 p ps g2.cl g2.at_ (g2.rw_.mono dv) hp g2.up⟩
end
abbrev yD:Stmt:=top 49
abbrev Mn:Stmt:=top 50
abbrev E5:Stmt:=top 51
def sh(n:Nat):List Nat:=(List.range n).map fun j=>3 ^ j
theorem Jp(n:Nat):(sh n).length=n:=by
 unfold sh;rw [length_map,length_range]
theorem E6{n h:Nat}(h1:1≤h)(h2:h≤n):(vzs (sh n))[h-1]? = some (.int ((3 ^ (h-1):Nat):Int)):=by
 rw [getElem?_map,getElem?_map];unfold sh;rw [getElem?_map,getElem?_range (by omega)];rfl
section
variable {P:Program}{w:World}{K:PySem.W.Frag}{mg:Str→Option Value}{base:Heap}
def um:Sp:=fun vs H Q _=>∃ n:Nat,vs=[.int (n:Int)]∧n≤8∧∀ (H':Hp) (p:Addr),aj H H'→H p=none→H' p=some (.lst (vzs (sh n)))→Q (.ref p) H'
theorem AG:ax ["holes","shares","share"] ["holes"] (ao yD):=⟨rfl,rfl,rfl,by decide +kernel,rfl,by decide +kernel,by decide +kernel⟩
theorem Gs{f:Addr}{fd:FuncData}(F:Fun K "shares_of" "shares_of" yD f fd)(hL:mg "len"=none):aF P w K mg base CX0 1 f fd ["holes"] um:=by
 refine F.ok AG (fun vs H Q E h=>?_) (fun cdv A outer s H vs Q E hr h=>?_)
 ·obtain ⟨n,rfl,_⟩:=h;rfl
 ·obtain ⟨n,rfl,hn,k⟩:=h;have nd:=AG.nd;refine ⟨_,ag (az (i:=1) nd rfl (Or.inl rfl) (aH ah)) (ag (az (i:=2) nd rfl (Or.inl rfl) au)
   (ag (cS PassesOwn.never (aK eZ (aJ aC (by rfl) hL PySem.boot_len (aa (pv 1) ah)) (pv 0) (aN _))
    (ag (aV (c5 plainAttrs_list PySem.F.slot_list_append PySem.F.type_list_append br (pv 1) (aa (pv 2) ah)))
     (ai (mj (i:=2) nd rfl (Or.inl rfl) au Lg)))) (ai (ay (pv 1))))),?_⟩
  refine ⟨zero_le _,fun p hp=>?_⟩;refine ⟨fun m σ H'=>∃ j,j+m=n∧σ=[some (.int (n:Int)),some (.ref p),some (.int ((3 ^ j:Nat):Int))]∧aj H H'∧H' p=some (.lst (vzs (sh j))),⟨n,0,by omega,rfl,aj.new hp,ae⟩,?_⟩;rintro m σ H1 ⟨j,hj,rfl,s1,h1⟩;have hlen:((vzs (sh j)).length:Int)=(j:Int):=by rw [length_map,length_map,Jp]
  refine ⟨_,rfl,p,_,rfl,.inl (SqL.of h1),_,rfl,_,_,rfl,rfl,_,rfl,cg (fun hlt=>?_) fun hlt=>?_⟩
  ·rw [hlen] at hlt;have hjn:j<n:=by have:(j:Int)<(n:Int):=hlt; omega
   refine ⟨fun σ' H'=>∃ m',m'<m∧∃ j,j+m'=n∧σ'=[some (.int (n:Int)),some (.ref p),some (.int ((3 ^ j:Nat):Int))]∧aj H H'∧H' p=some (.lst (vzs (sh j))),fun _ _ z=>z,?_⟩;have hb:3 ^ j≤3 ^ 8:=Nat.pow_le_pow_right (by decide) (by omega);have hb0:(0:Int)≤((3 ^ j:Nat):Int):=Int.natCast_nonneg _;refine ⟨_,rfl,.inl ⟨rfl,_,SqL.of h1⟩,_,rfl,p,_,_,rfl,rfl,h1,by rw [length_map,length_map,Jp,sizeLine_eq]; omega,?_⟩;refine ⟨_,rfl,_,_,rfl,rfl,.inr ⟨by decide,by decide⟩,?_⟩;refine ⟨m-1,by omega,j+1,by omega,?_,fun b o e=>by rw [aq (ak e hp)]; exact s1 b o e,?_⟩
   ·show [some (V.int (n:Int)),some (V.ref p),some (V.int (((3 ^ j:Nat):Int)*3))]=_;rw [show (((3 ^ j:Nat):Int)*3)=((3 ^ (j+1):Nat):Int) by rw [pow_succ]; omega]
   ·rw [ae];unfold sh;rw [range_succ,map_append,map_cons,map_nil,bj]
  ·rw [hlen] at hlt;obtain rfl:j=n:=by have:¬ (j:Int)<(n:Int):=hlt; omega
   exact ⟨_,rfl,k H1 p s1 hp h1⟩
def Jq:Sp:=fun vs H Q _=>∃ n:Nat,vs=[.int (n:Int)]∧n≤8∧∀ (H':Hp) (p:Addr) (rs:List Addr),aj H H'→H p=none→H' p=some (.lst (rs.map V.ref))→aL H' rs (unn n)→Q (.ref p) H'
theorem lL(n:Nat):(unn n).length=3 ^ n:=by rw [BS,length_map,length_range]
theorem yE{n i:Nat}(h:i<3 ^ n):(unn n)[i]? = some (Vbenab.freeHoles (Vbenab.known n i)):=by
 rw [BS,getElem?_map,getElem?_range h];rfl
theorem aL.app{H:Hp}:∀ {rs:List Addr} {ws:List (List Nat)} {rs2:List Addr} {ws2:List (List Nat)},aL H rs ws→aL H rs2 ws2→aL H (rs++rs2) (ws++ws2)
 | _,_,_,_,.nil,t=>t
 | _,_,_,_,.cons a b,t=>.cons a (aL.app b t)
theorem Nv:ax ["holes","found","hole","unneedled"] ["holes"] (ao Mn):=⟨rfl,rfl,rfl,by decide +kernel,rfl,by decide +kernel,by decide +kernel⟩
theorem sy{n:Nat}(hn:n≤8):3 ^ n≤6561:=le_trans (Nat.pow_le_pow_right (by decide) hn) (by decide)
theorem O8{f:Addr}{fd:FuncData}(F:Fun K "all_unneedled" "all_unneedled" Mn f fd)(hR:mg "range"=none):aF P w K mg base CX0 1 f fd ["holes"] Jq:=by
 refine F.ok Nv (fun vs H Q E h=>?_) (fun cdv A outer s H vs Q E hr h=>?_)
 ·obtain ⟨n,rfl,_⟩:=h;rfl
 ·obtain ⟨n,rfl,hn,k⟩:=h;have nd:=Nv.nd;refine ⟨_,ag (az (i:=1) nd rfl (Or.inl rfl) (aH (aa (aH ah) ah)))
   (ag (cu PassesOwn.never rfl (iG rfl hR (aa au (aa (aU cz (pv 0) au) ah))) (aM (i:=2) nd rfl (Or.inr rfl))
    (ai (az (i:=1) nd rfl (Or.inl rfl) (aU hZ (aU hZ (pv 1) (pv 1)) (lW (own:=[("unneedled",3)]) rfl nd (cI (pv 1)) (cy (by show lQ ["holes","found","hole","unneedled"] (ao Mn) _ _=true; decide +kernel)) (fun s H C cl fp=>aM (i:=3) nd rfl (Or.inl rfl)) (fun s H C cl fp=>eM)
     (fun s H C cl fp=>aU hZ (pv 3) (aH (aa (pv 2) ah))))))))
   (ai (ay (pv 1)))),?_⟩
  refine ⟨zero_le _,fun p0 hp0=>⟨by show 1≤sizeLine; decide,fun p1 hp1=>?_⟩⟩;have s0:aj H (upd H p0 (.lst [])):=aj.new hp0;have s1:aj (upd H p0 (.lst [])) (upd (upd H p0 (.lst [])) p1 (.lst [.ref p0])):=aj.new hp1;refine ⟨_,rfl,_,_,rfl,rfl,_,_,rfl,⟨by decide,by decide,by omega,by omega⟩,?_⟩;rw [show ((n:Int)+1-1).toNat=n by omega];refine dI (fun j σ H'=>∃ (af:Addr) (rs:List Addr) (v2:Option V),σ=[some (.int (n:Int)),some (.ref af),v2,none]∧aj H H'∧H af=none∧H' af=some (.lst (rs.map V.ref))∧aL H' rs (unn j)) ⟨p1,[p0],none,rfl,s0.trans s1,s0.free hp1,ae,.cons (s1 _ _ ae) .nil⟩ ?_ ?_
  ·rintro j σ H1 hj ⟨af,rs,v2,rfl,s2,hf,haf,hrs⟩;have hu:=lL j;have hb:=sy (show j≤8 by omega);have hrl:(rs.map V.ref).length=3 ^ j:=by rw [length_map,hrs.len,hu]
   refine ⟨_,rfl,_,rfl,af,af,_,_,rfl,rfl,haf,haf,by rw [hrl,sizeLine_eq]; omega,fun p2 hp2=>?_⟩;have s3:aj H1 (upd H1 p2 (.lst (rs.map V.ref++rs.map V.ref))):=aj.new hp2;refine ⟨_,rfl,af,rfl,⟨_,SqL.of (s3 _ _ haf)⟩,fun D hD=>?_⟩;have hrs3:=hrs.mono s3;refine iT (K:=K) (a:=af) (xs:=rs.map V.ref) (fun i H'=>∃ rs2,RB (upd H1 p2 (.lst (rs.map V.ref++rs.map V.ref))) D rs2 (((unn j).take i).map fun u=>u++[j+1]) H') ⟨[],aj.new hD,ae,.nil⟩ (fun i H' _ ⟨rs2,b⟩=>SqL.of (b.same _ _ (s3 _ _ haf))) (fun i x H' hx ⟨rs2,b⟩=>?_) fun H' ⟨rs2,b⟩=>?_
   ·obtain ⟨r,m,rfl,hm,hr1⟩:=aL.at_ hrs3 hx;have hi:i<3 ^ j:=by
     have:=(List.getElem?_eq_some_iff.mp hm).1;omega
    have hml:m.length≤8:=by
     rw [yE hi] at hm;cases hm;have:=EH j i;unfold rk at this;omega
    refine ⟨rfl,?_⟩;unfold vp;dsimp only;rw [if_pos rfl];refine ⟨_,rfl,_,rfl,by show 1≤sizeLine; decide,fun q hq=>?_⟩;have b2:=b.lay (o:=.lst [.int (1+(j:Int))]) hq;refine ⟨r,q,vzs m,_,rfl,rfl,b2.same _ _ hr1,ae,by rw [length_map,length_map,sizeLine_eq]; show m.length+1≤_; omega,fun q2 hq2=>?_⟩;have e1:((1:Int)+(j:Int))=((j+1:Nat):Int):=by omega
    rw [e1] at b2 hq2 ⊢;have b3:=b2.lay (o:=.lst (vzs m++[.int ((j+1:Nat):Int)])) hq2;have nD:q2≠D:=fun z=>by rw [z,b2.lst] at hq2; cases hq2
    refine ⟨_,b3.lst,by rw [length_map,b.rows.len,length_map,length_take,sizeLine_eq]; omega,rs2++[q2],?_⟩;have b4:=b3.put (r:=q2) (m:=m++[j+1]) hD (aR nD (by rw [ae,bj]));rw [take_snoc hm,map_append];exact b4
   ·rw [length_map,hrs.len,take_length] at b;have hp2':=b.same _ _ (show (upd H1 p2 (.lst (rs.map V.ref++rs.map V.ref))) p2=some (.lst (rs.map V.ref++rs.map V.ref)) from ae);have l2:(rs2.map V.ref).length=3 ^ j:=by rw [length_map,b.rows.len,length_map,hu]
    refine ⟨p2,D,_,_,rfl,rfl,hp2',b.lst,by rw [length_append,hrl,l2,sizeLine_eq]; omega,fun p4 hp4=>?_⟩;have s5:=(s3.trans b.same).trans (aj.new (o:=.lst (rs.map V.ref++rs.map V.ref++rs2.map V.ref)) hp4);refine ⟨p4,(rs++rs)++rs2,_,rfl,s2.trans s5,(s2.trans (s3.trans b.same)).free hp4,by rw [ae,map_append,map_append],?_⟩;have r1:=hrs.mono s5;exact (r1.app r1).app (b.rows.mono (dv.trans (aj.new hp4)))
  ·rintro σ H1 ⟨af,rs,v2,rfl,s2,hf,haf,hrs⟩;exact ⟨_,rfl,k H1 af rs s2 hf haf hrs⟩
end
theorem O9:bootBuiltins "sum"=some (.builtin "sum"):=by kernel_rfl
theorem set_range{N k v:Nat}{f g:Nat→Nat}(hk:k<N)(hg:∀ i,i<N→g i=if i=k then v else f i):((List.range N).map f).set k v=(List.range N).map g:=by
 refine ext_getElem? fun i=>?_;by_cases hi:i<N
 ·rw [getElem?_map,getElem?_range hi];by_cases e:k=i
  ·subst e;rw [getElem?_set_self (by rw [length_map,length_range]; exact hi)];show _=some (g k);rw [hg k hi,if_pos rfl]
  ·rw [getElem?_set_ne e,getElem?_map,getElem?_range hi];show some (f i)=some (g i);rw [hg i hi,if_neg (fun z=>e z.symm)]
 ·rw [getElem?_eq_none (by rw [length_set,length_map,length_range]; omega),getElem?_eq_none (by rw [length_map,length_range]; omega)]
theorem yF(l:List Nat)(k v:Nat):(vzs l).set k (.int (v:Int))=vzs (l.set k v):=by
 show ((l.map fun (n:Nat)=>(n:Int)).map V.int).set k (V.int (v:Int))=((l.set k v).map fun (n:Nat)=>(n:Int)).map V.int;rw [map_set,map_set]
theorem jb{l:List Nat}{i x:Nat}(h:l[i]? = some x):(vzs l)[i]? = some (.int (x:Int)):=by
 rw [getElem?_map,getElem?_map,h];rfl
theorem uo{N i:Nat}(f:Nat→Nat)(h:i<N):((List.range N).map f)[i]? = some (f i):=by
 rw [getElem?_map,getElem?_range h];rfl
theorem Jr:∀ l:List Nat,(zs l).sum=((l.sum:Nat):Int)
 | []=>rfl
 | a::l=>by
  show ((a:Int)::zs l).sum=_;rw [sum_cons,Jr l,sum_cons];omega
theorem zeros(N:Nat):(replicate N [V.int 0]).flatten=vzs ((List.range N).map fun _=>0):=by
 induction N with
 | zero=>rfl
 | succ n ih=>
  rw [List.replicate_succ',List.flatten_append,ih,range_succ,map_append,map_cons,map_nil,bj];rfl
theorem CA{n k:Nat}(h:k<n):ixN n (k:Int)=some k:=by
 unfold ixN;rw [if_pos (by omega),if_pos (by omega),toNat_natCast]
theorem E7{K:PySem.W.Frag}{a:Addr}{xs:List V}{j:Nat}{te:TE}{vs:List Nat}{σ:L2.St}{H1:Hp}{D:Addr}{Qd:Hp→Prop}(f:V→V)(ha:SqL K H1 a xs)(hD:H1 D=none)(hz:xs.length<sizeLine)
  (hw:∀ x,wipe ((wipe σ vs).set j (some x)) vs=wipe σ vs) (ht:∀ (x:V) (H:Hp) (Q:VK),x∈xs→aj H1 H→Q (f x) H→te ((wipe σ vs).set j (some x)) H Q) (hq:Qd (upd H1 D (.lst (xs.map f)))) :
  ∃ W:Nat→Nat→Hp→Prop,(∃ m,W 0 m (upd H1 D (.lst [])))∧∀ i m H,W i m H →
   ((Itl K a).stop i H∧Qd H)∨((Itl K a).go i H∧∃ Nx:Hp→Prop,(∀ H',Nx H'→∃ m',m'<m∧W (i+1) m' H')∧∀ x H',(Itl K a).yld i H x H'→sI j x (wipe σ vs) H' fun σ2 H2=>wipe σ2 vs=wipe σ vs∧vp σ2 H2 fun b H3=>
    if b=true then te σ2 H3 fun y H4=>∃ acc,H4 D=some (.lst acc)∧acc.length<sizeLine∧Nx (upd H4 D (.lst (acc++[y]))) else Nx H3):=by
 refine iT (xs:=xs) (fun i H'=>H'=upd H1 D (.lst ((xs.take i).map f))) _root_.rfl (fun i H' _ e=>?_) (fun i x H' hx e=>?_) fun H' e=>?_
 ·rw [e];exact aj.seq (aj.new hD) ha
 ·subst e;refine ⟨hw x,?_⟩;unfold vp;dsimp only;rw [if_pos _root_.rfl];refine ht x _ _ (mem_of_getElem? hx) (aj.new hD) ⟨_,ae,?_,?_⟩
  ·rw [length_map,length_take];omega
  ·rw [bQ,take_snoc hx,map_append];rfl
 ·rw [e,take_length];exact hq
def shV:V→V
 | .int z=>.int ((3 ^ (z.toNat-1):Nat):Int)
 | x=>x
theorem E8(h:Nat):shV (V.int (h:Int))=V.int ((3 ^ (h-1):Nat):Int):=by
 show V.int ((3 ^ ((h:Int).toNat-1):Nat):Int)=_;rw [toNat_natCast]
theorem Mo(m:List Nat):(vzs m).map shV=(zs (m.map fun h=>3 ^ (h-1))).map V.int:=by
 show ((m.map fun (n:Nat)=>(n:Int)).map V.int).map shV=((m.map fun h=>3 ^ (h-1)).map fun (n:Nat)=>(n:Int)).map V.int;rw [map_map,map_map,map_map,map_map];refine map_congr_left fun h _=>?_;exact E8 h
def lfs(n:Nat)(ws:List (List Nat))(s:List Nat):List Nat:=(List.range (3 ^ n)).map fun i=>lf ws s (Vbenab.known n i)
section
variable {P:Program}{w:World}{K:PySem.W.Frag}{mg:Str→Option Value}{base:Heap}
structure TPt(mg:Str→Option Value):Prop where
 ln:mg "len"=none
 en:mg "enumerate"=none
 sm:mg "sum"=none
 no:GI mg "NONE_LEFT" 0
 wa:GI mg "WANTED_LEFT" 1
 ot:GI mg "OTHERS_LEFT" 2
 bo:GI mg "BOTH_LEFT" 3
def CB(CK:Addr):Sp:=fun vs H Q _=>∃ (a pt wa sa ua:Addr) (c:Vbenab.Code) (s:List Nat) (rs:List Addr),vs=[.ref a,.ref wa,.ref sa,.ref ua]∧l8 CK H a pt c∧GoodC c∧H wa=some (.lst (vzs s))∧H sa=some (.lst (vzs (sh c.holes)))∧H ua=some (.lst (rs.map V.ref))∧aL H rs (unn c.holes) ∧
 ∀ (H':Hp) (p:Addr),aj H H'→H p=none→H' p=some (.lst (vzs (lfs c.holes (codeWords c) s)))→Q (.ref p) H'
theorem Js:ax ["code","wanted","shares","unneedled","left","value","notches","known","holes","share","hole"] ["code","wanted","shares","unneedled"] (ao E5):=⟨rfl,rfl,rfl,by decide +kernel,rfl,by decide +kernel,by decide +kernel⟩
theorem Mp{f CK:Addr}{fd:FuncData}(F:Fun K "all_left" "all_left" E5 f fd)(T:TPt mg)(TKc:TK K CK)(DM:Dn P w K mg base CX0 2 "marks_of" ["notches","holes"] lG):aF P w K mg base CX0 3 f fd ["code","wanted","shares","unneedled"] (CB CK):=by
 obtain ⟨fm,fdm,gM,hM,kM,bM⟩:=DM;refine F.ok Js (fun vs H Q E h=>?_) (fun cdv A outer s H vs Q E hr h=>?_)
 ·obtain ⟨a,pt,wa,sa,ua,c,sv,rs,rfl,_⟩:=h;rfl
 ·obtain ⟨a,pt,wa,sa,ua,c,sv,rs,rfl,hc,gc,hwa,hsa,hua,hrs,k⟩:=h;have nd:=Js.nd;refine ⟨_,ag (az (i:=4) nd rfl (Or.inl rfl) (aU Ol (aH (aa (aY T.no) ah)) (aJ aC (by rfl) T.ln PySem.boot_len (aa (pv 3) ah))))
   (ag (cu PassesOwn.never rfl (dt (by rfl) T.en (aa (aB (pv 0) rfl) ah)) (d7 rfl (ba (aM (i:=5) nd rfl (Or.inl rfl)) (ba (aM (i:=6) nd rfl (Or.inl rfl)) da)))
    (ag (az (i:=7) nd rfl (Or.inl rfl) (aJ (Oo rfl) (by rfl) T.sm O9 (aa (lW (own:=[("hole",10)]) rfl nd (cI (aD gM hr rfl hM kM bM .nil aE (aa (pv 6) (aa (aB (pv 0) rfl) ah))))
      (cy (by show lQ ["code","wanted","shares","unneedled","left","value","notches","known","holes","share","hole"] (ao E5) _ _=true; decide +kernel)) (fun s H C cl fp=>aM (i:=10) nd rfl (Or.inl rfl)) (fun s H C cl fp=>eM)
      (fun s H C cl fp=>aQ (aG:IxR _ (rD K)) (pv 2) (aU cX (pv 10) au) (fun _ _=>rfl))) ah)))
     (ai (HH (iF (aK p8 (pv 5) (pv 1) (by with_unfolding_all rfl)) (aY T.wa) (aY T.ot)) (HG (pv 4) (pv 7) set_list)))))
   (ag (cu PassesOwn.never rfl (dt (by rfl) T.en (aa (pv 3) ah)) (d7 rfl (ba (aM (i:=7) nd rfl (Or.inl rfl)) (ba (aM (i:=8) nd rfl (Or.inl rfl)) da)))
    (ai (a0 (aK eJ (aJ aC (by rfl) T.ln PySem.boot_len (aa (pv 8) ah)) au (aN _))
     (ag (az (i:=9) nd rfl (Or.inl rfl) (aQ aG (pv 2) (aU cX (aQ aG (pv 8) au (fun _ _=>rfl)) au) (fun _ _=>rfl)))
      (ai (HH (aU Nk (aQ aG (pv 4) (aU cX (pv 7) (aU xT au (pv 9))) (fun _ _=>rfl)) (aQ aG (pv 4) (aU cX (pv 7) (pv 9)) (fun _ _=>rfl))) (HG (pv 4) (pv 7) set_list)))) aO)))
   (ai (ay (pv 4))))),?_⟩
  obtain ⟨dx,pn,pq,pd,rn,o1,o2,o3,o4,o5⟩:=hc.ex;have hN:=sy gc.gw.hn;have hrl:(rs.map V.ref).length=3 ^ c.holes:=by rw [length_map,hrs.len,lL]
  have hs8:c.holes≤8:=gc.gw.hn;refine ⟨by show 1≤sizeLine; decide,fun p0 hp0=>?_⟩;have s0:aj H (upd H p0 (.lst [.int 0])):=aj.new hp0;refine ⟨_,rfl,ua,_,rfl,.inl (SqL.of (s0 _ _ hua)),p0,_,[.int 0],rfl,rfl,ae,by rw [hrl]; omega,by rw [hrl]; omega,by rw [hrl,toNat_natCast,sizeLine_eq]; show 1*3 ^ c.holes≤_; omega,fun pl hpl=>?_⟩;rw [hrl,toNat_natCast,zeros];have s1:aj H (upd (upd H p0 (.lst [.int 0])) pl (.lst (vzs ((List.range (3 ^ c.holes)).map fun _=>0)))):=s0.trans (aj.new hpl);have fpl:H pl=none:=s0.free hpl;have e0:((List.range (3 ^ c.holes)).map fun _=>0)=(List.range (3 ^ c.holes)).map (f1 c.holes (codeWords c) sv 0):=map_congr_left fun i _=>(LL _ _ _ _).symm;rw [e0] at s1 ⊢;refine ⟨_,rfl,a,CK,dx,_,_,rfl,s1 _ _ o1,TKc.cl,TKc.nQ,pH _ _ _ _ _ _,pq,_,rfl,SqL.of (s1 _ _ o4),c6 (K:=K) (a:=pq) (xs:=vzs ((codeWords c).map mask)) (fun i σ H'=>∃ v5 v6 v7:Option V,σ=[some (.ref a),some (.ref wa),some (.ref sa),some (.ref ua),some (.ref pl),v5,v6,v7,none,none,none]∧aj H H' ∧
   H' pl=some (.lst (vzs ((List.range (3 ^ c.holes)).map (f1 c.holes (codeWords c) sv i))))) ⟨none,none,none,rfl,s1,ae⟩ (fun i σ H' _ ⟨_,_,_,_,s2,_⟩=>SqL.of (s2 _ _ o4)) ?_ ?_⟩
  ·rintro i x σ H' T' hi hT ⟨v5,v6,v7,rfl,s2,hpl2⟩;obtain ⟨cm,hcm,rfl⟩:=de hi;obtain ⟨m,hm,rfl⟩:∃ m,(codeWords c)[i]? = some m∧cm=mask m:=by
    rw [getElem?_map] at hcm;cases e:(codeWords c)[i]? with
    | none=>
     rw [e] at hcm;cases hcm
    | some m=>
     rw [e] at hcm;exact ⟨m,rfl,(Option.some.inj hcm).symm⟩
   have rm:=gc.gw.ri m (mem_of_getElem? hm);obtain ⟨tm1,tm2⟩:=yi rm hs8;have s3:aj H' (upd H' T' (.tup [.int (i:Nat),.int (mask m:Int)])):=aj.new hT;have s23:=s2.trans s3;refine ⟨T',_,rfl,SqT.of ae,rfl,_,_,rfl,_,_,rfl,rfl,?_⟩;refine ⟨_,rfl,_,rfl,a,CK,dx,_,_,rfl,s23 _ _ o1,TKc.cl,TKc.nH,rL _ _ _ _ _ _,mask m,c.holes,rfl,by omega,fun pm hpm=>?_⟩;rw [i3 rm hs8];have s4:=s23.trans (aj.new (o:=.lst (vzs m)) hpm);refine ⟨pm,rfl,⟨_,SqL.of ae⟩,fun D hD=>E7 shV (SqL.of ae) hD (by rw [length_map,length_map,sizeLine_eq]; have:=rm.len; omega) (fun _=>rfl) (fun x H2 Q2 hx sx hq=>?_) ?_⟩
   ·obtain ⟨h,hh,rfl⟩:=sr hx;obtain ⟨h1,h2⟩:=rm.mem hh;refine ⟨_,rfl,_,rfl,_,_,rfl,rfl,sa,_,_,_,rfl,rfl,SqL.of (sx _ _ (s4 _ _ hsa)),at_of (j:=h-1) (v:=.int ((3 ^ (h-1):Nat):Int)) (by show (h:Int)-1=((h-1:Nat):Int); omega) (E6 h1 h2),?_⟩;rw [E8] at hq;exact hq
   ·rw [Mo];refine ⟨D,zs (m.map fun h=>3 ^ (h-1)),rfl,SqL.of ae,?_⟩;rw [Jr];have s5:=s4.trans (aj.new (o:=.lst ((zs (m.map fun h=>3 ^ (h-1))).map V.int)) hD);have hpl5:(upd (upd (upd H' T' (.tup [.int (i:Nat),.int (mask m:Int)])) pm (.lst (vzs m))) D (.lst ((zs (m.map fun h=>3 ^ (h-1))).map V.int))) pl=some (.lst (vzs ((List.range (3 ^ c.holes)).map (f1 c.holes (codeWords c) sv i)))):=by
     rw [aq (ak (aj.new hpm _ _ (s3 _ _ hpl2)) hD),aq (ak (s3 _ _ hpl2) hpm)];exact s3 _ _ hpl2
    have set1:∀ v,v=(if sv.contains i=true then 1 else 2)→((List.range (3 ^ c.holes)).map (f1 c.holes (codeWords c) sv i)).set (jQ m) v=(List.range (3 ^ c.holes)).map (f1 c.holes (codeWords c) sv (i+1)):=fun v ev=>by
     subst ev;exact set_range tm1 fun j hj=>LM gc.gw hm hj
    refine ⟨_,rfl,_,rfl,wa,_,rfl,.inl (SqL.of (s5 _ _ hwa)),rfl,tZ _,_,rfl,?_⟩;show if inV (.int (i:Int)) (vzs sv)=true then _ else _
    rw [yy];cases hc2:sv.contains i with
    | true=>
     refine bz ⟨_,rfl,_,rfl,pl,_,_,jQ m,rfl,rfl,hpl5,?_,?_⟩
     ·rw [length_map,length_map,length_map,length_range];exact CA tm1
     ·refine ⟨_,_,_,rfl,fun b o e=>by rw [aq (ak e fpl)]; exact s5 b o e,?_⟩;rw [ae];have z:=yF ((List.range (3 ^ c.holes)).map (f1 c.holes (codeWords c) sv i)) (jQ m) 1;rw [set1 1 (by rw [hc2]; rfl)] at z;exact congrArg (fun q=>some (HO.lst q)) z
    | false=>
     refine b0 ⟨_,rfl,_,rfl,pl,_,_,jQ m,rfl,rfl,hpl5,?_,?_⟩
     ·rw [length_map,length_map,length_map,length_range];exact CA tm1
     ·refine ⟨_,_,_,rfl,fun b o e=>by rw [aq (ak e fpl)]; exact s5 b o e,?_⟩;rw [ae];have z:=yF ((List.range (3 ^ c.holes)).map (f1 c.holes (codeWords c) sv i)) (jQ m) 2;rw [set1 2 (by rw [hc2]; rfl)] at z;exact congrArg (fun q=>some (HO.lst q)) z
  ·rintro σ H' ⟨v5,v6,v7,rfl,s2,hpl2⟩;rw [length_map,length_map,length_map] at hpl2;have e2:(List.range (3 ^ c.holes)).map (f1 c.holes (codeWords c) sv (codeWords c).length)=(List.range (3 ^ c.holes)).map (f2 c.holes (codeWords c) sv 0):=map_congr_left fun i _=>(LN _ _ _ _).symm;rw [e2] at hpl2;refine ⟨_,rfl,ua,_,rfl,SqL.of (s2 _ _ hua),c6 (K:=K) (a:=ua) (xs:=rs.map V.ref) (fun i σ H'=>∃ v7 v8 v9:Option V,σ=[some (.ref a),some (.ref wa),some (.ref sa),some (.ref ua),some (.ref pl),v5,v6,v7,v8,v9,none]∧aj H H' ∧
    H' pl=some (.lst (vzs ((List.range (3 ^ c.holes)).map (f2 c.holes (codeWords c) sv i))))) ⟨v7,none,none,rfl,s2,hpl2⟩ (fun i σ H' _ ⟨_,_,_,_,s2,_⟩=>SqL.of (s2 _ _ hua)) ?_ ?_⟩
   ·rintro i x σ H3 T' hi hT ⟨v7,v8,v9,rfl,s3,hpl3⟩;obtain ⟨r,m,rfl,hm,hr1⟩:=aL.at_ (hrs.mono s3) hi;have hi3:i<3 ^ c.holes:=by
     have:=(List.getElem?_eq_some_iff.mp hi).1;rw [hrl] at this;exact this
    rw [yE hi3] at hm;cases hm;have s4:aj H3 (upd H3 T' (.tup [.int (i:Nat),.ref r])):=aj.new hT;have s34:=s3.trans s4;refine ⟨T',_,rfl,SqT.of ae,rfl,_,_,rfl,_,_,rfl,rfl,?_⟩;refine ⟨_,rfl,r,_,rfl,.inl (SqL.of (s4 _ _ hr1)),_,_,rfl,rfl,_,rfl,?_⟩;cases hf:Vbenab.freeHoles (Vbenab.known c.holes i) with
    | nil=>
     refine cg (fun z=>absurd z (by decide)) fun _=>⟨_,_,_,rfl,s34,?_⟩;rw [s4 _ _ hpl3];exact congrArg (fun q=>some (HO.lst (vzs q))) (map_congr_left fun j _=>(LO hf j).symm)
    | cons h0 hr0=>
     have hh:h0∈Vbenab.freeHoles (Vbenab.known c.holes i):=by rw [hf]; exact mem_cons_self
     obtain ⟨b1,b2,_⟩:=jP hh;obtain ⟨b3,_⟩:=dJ hh;obtain ⟨b4,b5⟩:=eN hh;have hlt:(0:Int)<((vzs (h0::hr0)).length:Int):=by
      rw [length_map,length_map,length_cons];omega
     refine cg (fun _=>?_) fun z=>absurd hlt z;refine ⟨_,rfl,_,rfl,r,_,_,_,rfl,rfl,SqL.of (s4 _ _ hr1),at_of (j:=0) (v:=.int (h0:Int)) rfl (by rw [hf]; rfl),_,_,rfl,rfl,sa,_,_,_,rfl,rfl,SqL.of (s34 _ _ hsa),at_of (j:=h0-1) (v:=.int ((3 ^ (h0-1):Nat):Int)) (by show (h0:Int)-1=((h0-1:Nat):Int); omega) (E6 b1 b2),?_⟩;have hpl4:=s4 _ _ hpl3;have g1:(vzs ((List.range (3 ^ c.holes)).map (f2 c.holes (codeWords c) sv i)))[Vbenab.stayedAt i h0]? = some (.int ((f2 c.holes (codeWords c) sv i (Vbenab.stayedAt i h0):Nat):Int)):=jb (uo _ (by omega));have g2:(vzs ((List.range (3 ^ c.holes)).map (f2 c.holes (codeWords c) sv i)))[Vbenab.fellAt i h0]? = some (.int ((f2 c.holes (codeWords c) sv i (Vbenab.fellAt i h0):Nat):Int)):=jb (uo _ (by omega));have x1:(i:Int)-2*((3 ^ (h0-1):Nat):Int)=((Vbenab.stayedAt i h0:Nat):Int):=by
      unfold Vbenab.stayedAt;omega
     have x2:(i:Int)-((3 ^ (h0-1):Nat):Int)=((Vbenab.fellAt i h0:Nat):Int):=by
      unfold Vbenab.fellAt;omega
     refine ⟨_,rfl,_,rfl,_,rfl,_,_,rfl,rfl,.inl ⟨by decide,by decide⟩,_,_,rfl,rfl,pl,_,_,_,rfl,rfl,SqL.of hpl4,at_of x1 g1,_,rfl,_,rfl,_,rfl,_,_,rfl,rfl,pl,_,_,_,rfl,rfl,SqL.of hpl4,at_of x2 g2,_,_,rfl,rfl,_,rfl,_,rfl,pl,_,_,i,rfl,rfl,hpl4,?_,?_⟩
     ·rw [length_map,length_map,length_map,length_range];exact CA hi3
     ·refine ⟨_,_,_,rfl,fun b o e=>by rw [aq (ak e fpl)]; exact s34 b o e,?_⟩;rw [ae];dsimp only;rw [yu,yF,set_range hi3 fun j _=>LP hh j]
   ·rintro σ H3 ⟨v7,v8,v9,rfl,s3,hpl3⟩;rw [hrl] at hpl3;refine ⟨_,rfl,k H3 pl s3 fpl ?_⟩;rw [hpl3];refine congrArg (fun q=>some (HO.lst (vzs q))) (map_congr_left fun i hi=>?_);unfold f2;rw [if_pos (mem_range.mp hi)]
end
abbrev E9:Stmt:=top 52
abbrev mPI:Stmt:=inClass E9 0
abbrev mPS:Stmt:=inClass E9 1
abbrev mPF:Stmt:=inClass E9 2
abbrev mPA:Stmt:=inClass E9 3
abbrev CD:Stmt:=top 55
abbrev yG:Stmt:=top 56
def pf(sa ua la:Addr):List (Str×V):=[("shares",.ref sa),("unneedled",.ref ua),("left",.ref la)]
structure TPc(K:PySem.W.Frag)(C:Addr):Prop where
 cl:Cls K C
 nS:aP K C "shares"
 nU:aP K C "unneedled"
 nL:aP K C "left"
theorem RL(sa ua la:Addr):(pf sa ua la).lookup ("shares":Str)=some (.ref sa):=by rfl
theorem Mq(sa ua la:Addr):(pf sa ua la).lookup ("unneedled":Str)=some (.ref ua):=by rfl
theorem RM(sa ua la:Addr):(pf sa ua la).lookup ("left":Str)=some (.ref la):=by rfl
theorem pM{m:Str}{sa ua la:Addr}(h:(m==("shares":Str))=false∧(m==("unneedled":Str))=false∧(m==("left":Str))=false):(pf sa ua la).lookup m=none:=by
 unfold pf;simp only [List.lookup,h.1,h.2.1,h.2.2]
theorem Pa:(("stayed":Str)==("shares":Str))=false∧(("stayed":Str)==("unneedled":Str))=false∧(("stayed":Str)==("left":Str))=false:=by decide +kernel
theorem Pb:(("fallen":Str)==("shares":Str))=false∧(("fallen":Str)==("unneedled":Str))=false∧(("fallen":Str)==("left":Str))=false:=by decide +kernel
theorem Pc:(("alike":Str)==("shares":Str))=false∧(("alike":Str)==("unneedled":Str))=false∧(("alike":Str)==("left":Str))=false:=by decide +kernel
structure gJ(C:Addr)(H:Hp)(a:Addr)(n:Nat)(ws:List (List Nat))(s:List Nat):Prop where
 gw:GoodW n ws
 ex:∃ (dx sa ua la:Addr) (rs:List Addr),H a=some (.ins C dx (pf sa ua la))∧H sa=some (.lst (vzs (sh n)))∧H ua=some (.lst (rs.map V.ref))∧aL H rs (unn n)∧H la=some (.lst (vzs (lfs n ws s)))
theorem gJ.same{C:Addr}{H H':Hp}{a:Addr}{n:Nat}{ws:List (List Nat)}{s:List Nat}(p:gJ C H a n ws s)(sm:aj H H'):gJ C H' a n ws s:=by
 obtain ⟨g,dx,sa,ua,la,rs,h1,h2,h3,h4,h5⟩:=p;exact ⟨g,dx,sa,ua,la,rs,sm _ _ h1,sm _ _ h2,sm _ _ h3,h4.mono sm,sm _ _ h5⟩
section
variable {P:Program}{w:World}{K:PySem.W.Frag}{mg:Str→Option Value}{base:Heap}
def yH(CK C:Addr):Sp:=fun vs H Q _=>∃ (p dx a pt wa:Addr) (c:Vbenab.Code) (s:List Nat),vs=[.ref p,.ref a,.ref wa]∧H p=some (.ins C dx [])∧l8 CK H a pt c∧GoodC c∧H wa=some (.lst (vzs s)) ∧
 ∀ H':Hp,gJ C H' p c.holes (codeWords c) s→aI p H H'→Q .non H'
theorem UJ:ax ["self","code","wanted"] ["self","code","wanted"] (ao mPI):=⟨rfl,rfl,rfl,by decide +kernel,rfl,by decide +kernel,by decide +kernel⟩
theorem cO.cR{CK:Addr}{H H':Hp}{a pt:Addr}{h k:Nat}{nm:List (List Nat)}{ns:List Nat}{p C dx:Addr}{fs:List (Str×V)}(c:cO CK H a pt h k nm ns)(hp:H p=some (.ins C dx fs))(n:a≠p)(u:aI p H H'):cO CK H' a pt h k nm ns:=by
 obtain ⟨dx2,pn,pq,pd,rs,h1,h2,h3,h4,h5⟩:=c.ex;exact ⟨dx2,pn,pq,pd,rs,u _ _ h1 n,u _ _ h2 (aW h2 hp (by intro z; cases z)),aL.cR hp u h3,u _ _ h4 (aW h4 hp (by intro z; cases z)),u _ _ h5 (aW h5 hp (by intro z; cases z))⟩
theorem RN{f CK C:Addr}{fd:FuncData}(F:Fun K "__init__" "Parting.__init__" mPI f fd)(T:TPc K C)(TKc:TK K CK)(DS:Dn P w K mg base CX0 1 "shares_of" ["holes"] um)(DU:Dn P w K mg base CX0 1 "all_unneedled" ["holes"] Jq)
  (DL:Dn P w K mg base CX0 3 "all_left" ["code","wanted","shares","unneedled"] (CB CK)):aF P w K mg base CX0 4 f fd ["self","code","wanted"] (yH CK C):=by
 obtain ⟨f1,fd1,gS,hS,kS,bS⟩:=DS;obtain ⟨f2,fd2,gU,hU,kU,bU⟩:=DU;obtain ⟨f3,fd3,gL,hL,kL,bL⟩:=DL;refine F.ok UJ (fun vs H Q E h=>?_) (fun cdv A outer s H vs Q E hr h=>?_)
 ·obtain ⟨p,dx,a,pt,wa,c,sv,rfl,_⟩:=h;rfl
 ·obtain ⟨p,dx,a,pt,wa,c,sv,rfl,hp,hc,gc,hwa,k⟩:=h;refine ⟨_,ag (b9 (pv 0) (aD gS (hr.mono (by decide)) rfl hS kS bS .nil aE (aa (aB (pv 1) rfl) ah)) rfl) (ag (b9 (pv 0) (aD gU (hr.mono (by decide)) rfl hU kU bU .nil aE (aa (aB (pv 1) rfl) ah)) rfl)
   (ai (b9 (pv 0) (aD gL hr rfl hL kL bL .nil aE (aa (pv 1) (aa (pv 2) (aa (aB (pv 0) rfl) (aa (aB (pv 0) rfl) ah))))) rfl))),?_⟩
  obtain ⟨dxc,pn,pq,pd,rn,o1,_⟩:=hc.ex;have nap:a≠p:=fun z=>by
   rw [z,hp] at o1;injection o1 with o1;injection o1 with _ _ e;unfold kf at e;cases e
  have nwp:wa≠p:=aW hwa hp (by intro z; cases z);refine ⟨_,rfl,a,CK,dxc,_,_,rfl,o1,TKc.cl,TKc.nH,rL _ _ _ _ _ _,c.holes,rfl,gc.gw.hn,fun H1 sa s1 fsa hsa=>?_⟩;have hp1:=s1 _ _ hp;refine ⟨_,rfl,p,C,dx,_,rfl,hp1,T.cl,T.nS,(by show 0<1000; decide),?_⟩;generalize hH2:upd H1 p (.ins C dx (cn "shares" (.ref sa) []))=H2;have u2:aI p H1 H2:=by rw [← hH2]; exact bu
  have hp2:H2 p=some (.ins C dx [("shares",.ref sa)]):=by rw [← hH2]; exact ae
  have hc1:=cO.same hc s1;have hc2:=cO.cR hc1 hp1 nap u2;obtain ⟨dxc2,pn2,pq2,pd2,rn2,o2,_⟩:=hc2.ex;have hsa2:=u2 _ _ hsa (aW hsa hp1 (by intro z; cases z));have hwa2:=u2 _ _ (s1 _ _ hwa) nwp;refine ⟨_,rfl,a,CK,dxc2,_,_,rfl,o2,TKc.cl,TKc.nH,rL _ _ _ _ _ _,c.holes,rfl,gc.gw.hn,fun H3 ua rs s3 fua hua hrs=>?_⟩;have hp3:=s3 _ _ hp2;refine ⟨_,rfl,p,C,dx,_,rfl,hp3,T.cl,T.nU,(by show 1<1000; decide),?_⟩;generalize hH4:upd H3 p (.ins C dx (cn "unneedled" (.ref ua) [("shares",.ref sa)]))=H4;have u4:aI p H3 H4:=by rw [← hH4]; exact bu
  have hp4:H4 p=some (.ins C dx [("shares",.ref sa),("unneedled",.ref ua)]):=by rw [← hH4]; exact ae
  have hc4:=cO.cR (cO.same hc2 s3) hp3 nap u4;have hsa4:=u4 _ _ (s3 _ _ hsa2) (aW (s3 _ _ hsa2) hp3 (by intro z; cases z));have hua4:=u4 _ _ hua (aW hua hp3 (by intro z; cases z));have hrs4:=aL.cR hp3 u4 hrs;have hwa4:=u4 _ _ (s3 _ _ hwa2) nwp;refine ⟨_,rfl,_,rfl,_,rfl,p,C,dx,_,_,rfl,hp4,T.cl,T.nS,rfl,_,rfl,p,C,dx,_,_,rfl,hp4,T.cl,T.nU,rfl,a,pt,wa,sa,ua,c,sv,rs,rfl,hc4,gc,hwa4,hsa4,hua4,hrs4,fun H5 la s5 fla hla=>?_⟩;have hp5:=s5 _ _ hp4;refine ⟨_,rfl,p,C,dx,_,rfl,hp5,T.cl,T.nL,(by show 2<1000; decide),?_⟩;have u6:aI p H5 (upd H5 p (.ins C dx (cn "left" (.ref la) [("shares",.ref sa),("unneedled",.ref ua)]))):=bu;refine k _ ⟨gc.gw,dx,sa,ua,la,rs,ae,u6 _ _ (s5 _ _ hsa4) (aW (s5 _ _ hsa4) hp5 (by intro z; cases z)),u6 _ _ (s5 _ _ hua4) (aW (s5 _ _ hua4) hp5 (by intro z; cases z)),aL.cR hp5 u6 (hrs4.mono s5),u6 _ _ hla (aW hla hp5 (by intro z; cases z))⟩ ?_;exact ((((aI.of s1).trans u2).trans (aI.of s3)).trans u4).trans ((aI.of s5).trans u6)
def RO(C:Addr):Sp:=fun vs H Q _=>∃ (a:Addr) (i h n:Nat) (ws:List (List Nat)) (s:List Nat),vs=[.ref a,.int (i:Int),.int (h:Int)]∧gJ C H a n ws s∧h∈Vbenab.freeHoles (Vbenab.known n i)∧Q (.int ((Vbenab.stayedAt i h:Nat):Int)) H
def RP(C:Addr):Sp:=fun vs H Q _=>∃ (a:Addr) (i h n:Nat) (ws:List (List Nat)) (s:List Nat),vs=[.ref a,.int (i:Int),.int (h:Int)]∧gJ C H a n ws s∧h∈Vbenab.freeHoles (Vbenab.known n i)∧Q (.int ((Vbenab.fellAt i h:Nat):Int)) H
def RQ(C:Addr):Sp:=fun vs H Q _=>∃ (a:Addr) (i n:Nat) (ws:List (List Nat)) (s:List Nat),vs=[.ref a,.int (i:Int)]∧gJ C H a n ws s∧i<3 ^ n∧Q (.bl (!decide (lf ws s (Vbenab.known n i)=3))) H
theorem UK:ax ["self","known","hole"] ["self","known","hole"] (ao mPS):=⟨rfl,rfl,rfl,by decide +kernel,rfl,by decide +kernel,by decide +kernel⟩
theorem UL:ax ["self","known","hole"] ["self","known","hole"] (ao mPF):=⟨rfl,rfl,rfl,by decide +kernel,rfl,by decide +kernel,by decide +kernel⟩
theorem UM:ax ["self","known"] ["self","known"] (ao mPA):=⟨rfl,rfl,rfl,by decide +kernel,rfl,by decide +kernel,by decide +kernel⟩
theorem RR{f C:Addr}{fd:FuncData}(F:Fun K "stayed" "Parting.stayed" mPS f fd)(T:TPc K C):aF P w K mg base CX0 1 f fd ["self","known","hole"] (RO C):=by
 refine F.ok UK (fun vs H Q E h=>?_) (fun cdv A outer s H vs Q E hr h=>?_)
 ·obtain ⟨a,i,h,n,ws,sv,rfl,_⟩:=h;rfl
 ·obtain ⟨a,i,h,n,ws,sv,rfl,⟨gw,dx,sa,ua,la,rs,h1,h2,h3,h4,h5⟩,hh,q⟩:=h;obtain ⟨b1,b2,_⟩:=jP hh;obtain ⟨b3,_⟩:=dJ hh;refine ⟨_,ai (ay (aU cX (pv 1) (aU xT au (aQ aG (aB (pv 0) rfl) (aU cX (pv 2) au) (fun _ _=>rfl))))),?_⟩;refine ⟨_,rfl,_,rfl,a,C,dx,_,_,rfl,h1,T.cl,T.nS,RL _ _ _,_,rfl,_,_,rfl,rfl,sa,_,_,_,rfl,rfl,SqL.of h2,at_of (j:=h-1) (v:=.int ((3 ^ (h-1):Nat):Int)) (by show (h:Int)-1=((h-1:Nat):Int); omega) (E6 b1 b2),_,_,rfl,rfl,.inl ⟨by decide,by decide⟩,_,_,rfl,rfl,?_⟩;have x1:(i:Int)-2*((3 ^ (h-1):Nat):Int)=((Vbenab.stayedAt i h:Nat):Int):=by
   unfold Vbenab.stayedAt;omega
  show Q (V.int ((i:Int)-2*((3 ^ (h-1):Nat):Int))) H;rw [x1];exact q
theorem RS{f C:Addr}{fd:FuncData}(F:Fun K "fallen" "Parting.fallen" mPF f fd)(T:TPc K C):aF P w K mg base CX0 1 f fd ["self","known","hole"] (RP C):=by
 refine F.ok UL (fun vs H Q E h=>?_) (fun cdv A outer s H vs Q E hr h=>?_)
 ·obtain ⟨a,i,h,n,ws,sv,rfl,_⟩:=h;rfl
 ·obtain ⟨a,i,h,n,ws,sv,rfl,⟨gw,dx,sa,ua,la,rs,h1,h2,h3,h4,h5⟩,hh,q⟩:=h;obtain ⟨b1,b2,_⟩:=jP hh;obtain ⟨b3,_⟩:=dJ hh;refine ⟨_,ai (ay (aU cX (pv 1) (aQ aG (aB (pv 0) rfl) (aU cX (pv 2) au) (fun _ _=>rfl)))),?_⟩;refine ⟨_,rfl,_,rfl,a,C,dx,_,_,rfl,h1,T.cl,T.nS,RL _ _ _,_,rfl,_,_,rfl,rfl,sa,_,_,_,rfl,rfl,SqL.of h2,at_of (j:=h-1) (v:=.int ((3 ^ (h-1):Nat):Int)) (by show (h:Int)-1=((h-1:Nat):Int); omega) (E6 b1 b2),_,_,rfl,rfl,?_⟩;have x1:(i:Int)-((3 ^ (h-1):Nat):Int)=((Vbenab.fellAt i h:Nat):Int):=by
   unfold Vbenab.fellAt;omega
  show Q (V.int ((i:Int)-((3 ^ (h-1):Nat):Int))) H;rw [x1];exact q
theorem RT{f C:Addr}{fd:FuncData}(F:Fun K "alike" "Parting.alike" mPA f fd)(T:TPc K C)(Tp:TPt mg):aF P w K mg base CX0 1 f fd ["self","known"] (RQ C):=by
 refine F.ok UM (fun vs H Q E h=>?_) (fun cdv A outer s H vs Q E hr h=>?_)
 ·obtain ⟨a,i,n,ws,sv,rfl,_⟩:=h;rfl
 ·obtain ⟨a,i,n,ws,sv,rfl,⟨gw,dx,sa,ua,la,rs,h1,h2,h3,h4,h5⟩,hi,q⟩:=h;refine ⟨_,ai (ay (eL sM (aQ aG (aB (pv 0) rfl) (pv 1) (fun _ _=>rfl)) (aY Tp.bo) (aN _))),?_⟩;refine ⟨_,rfl,a,C,dx,_,_,rfl,h1,T.cl,T.nL,RM _ _ _,_,rfl,la,_,_,_,rfl,rfl,SqL.of h5,at_of (j:=i) (v:=.int ((lf ws sv (Vbenab.known n i):Nat):Int)) rfl (jb (uo _ hi)),rfl,?_⟩;have e:decide (V.int ((lf ws sv (Vbenab.known n i):Nat):Int)=V.int 3)=decide (lf ws sv (Vbenab.known n i)=3):=by
   rw [decide_eq_decide];exact ⟨fun z=>b8 (b:=3) z,fun z=>by rw [z]; rfl⟩
  show Q (V.bl (!decide (V.int ((lf ws sv (Vbenab.known n i):Nat):Int)=V.int 3))) H;rw [e];exact q
def rb(g:Int→Int→Int):Sp:=fun vs H Q _=>∃ a b:Int,vs=[.int a,.int b]∧Q (.int (g a b)) H
theorem Mr:ax ["stay","fall"] ["stay","fall"] (ao CD):=⟨rfl,rfl,rfl,by decide +kernel,rfl,by decide +kernel,by decide +kernel⟩
theorem Jt:ax ["stay","fall"] ["stay","fall"] (ao yG):=⟨rfl,rfl,rfl,by decide +kernel,rfl,by decide +kernel,by decide +kernel⟩
theorem Ju{f:Addr}{fd:FuncData}(F:Fun K "added" "added" CD f fd):aF P w K mg base CX0 1 f fd ["stay","fall"] (rb fun a b=>a+b):=by
 refine F.ok Mr (fun vs H Q E h=>?_) (fun cdv A outer s H vs Q E hr h=>?_)
 ·obtain ⟨a,b,rfl,_⟩:=h;rfl
 ·obtain ⟨a,b,rfl,q⟩:=h;refine ⟨_,ai (ay (aU cz (pv 0) (pv 1))),?_⟩;exact ⟨_,rfl,_,rfl,_,_,rfl,rfl,q⟩
theorem Jv:bootBuiltins "max"=some (.builtin "max"):=by kernel_rfl
theorem Pe:bootBuiltins "min"=some (.builtin "min"):=by kernel_rfl
theorem Gu{f:Addr}{fd:FuncData}(F:Fun K "deeper" "deeper" yG f fd)(hX:mg "max"=none):aF P w K mg base CX0 1 f fd ["stay","fall"] (rb fun a b=>if b > a then b else a):=by
 refine F.ok Jt (fun vs H Q E h=>?_) (fun cdv A outer s H vs Q E hr h=>?_)
 ·obtain ⟨a,b,rfl,_⟩:=h;rfl
 ·obtain ⟨a,b,rfl,q⟩:=h;refine ⟨_,ai (ay (aJ (wk rfl) (by rfl) hX Jv (aa (pv 0) (aa (pv 1) ah)))),?_⟩;exact ⟨_,rfl,_,rfl,_,_,rfl,q⟩
end
abbrev Ms:Stmt:=top 53
abbrev dLT:Stmt:=top 54
abbrev dFN:Stmt:=top 57
abbrev dLD:Stmt:=top 58
def Jw(P:Program)(w:World)(K:PySem.W.Frag)(mg:Str→Option Value)(base:Heap)(ps:List Str)(j:Nat)(t:TA):TE:=fun σ H Q=>∃ (f:Addr) (fd:FuncData) (sp:Sp),σ[j]? = some (some (.ref f))∧keepIn K (.ref f)=true ∧
 aF P w K mg base CX0 1 f fd ps sp∧L2.Binds K fd ps []∧t σ H fun vs H1=>sp vs H1 Q E0
theorem Jx{X:Cx}{ps:List Str}{j:Nat}{x:Str}{p pos:Pos}{e:Expr}{es:List Expr}{t:TA}(hr:cM 1 X.A)(hN:X.N[j]? = some x)(hv:Vis X.env.scope x)(ha:PA X (e::es) t)(hdb:(x==("__debug__":Str))=false:=by decide)(hcd:(x==("__classdict__":Str))=false:=by decide)
  (he:starEach (e::es) X.env=(false,eval e X.env)::starEach es X.env:=by rfl) (hpl:(backTo pos (starEach es X.env)).any (·.1)=false:=by rfl):PE X (.Call (.Name x p) (e::es) [] pos) (Jw X.prog X.w X.K X.mg X.base ps j t):=by
 intro pins s σ H Q I hq__; obtain ⟨f,fd,sp,ej,kp,F,hb,h⟩:=hq__;exact zW hN hv ha hdb hcd he hpl pins s σ H Q I ⟨CX0,1,f,fd,ps,sp,E0,ej,kp,F,hr,hb,aE,h⟩
def Nw(P:Program)(w:World)(K:PySem.W.Frag)(mg:Str→Option Value)(base:Heap)(f:Addr)(g:Int→Int→Int):Prop:=∃ fd,keepIn K (.ref f)=true∧aF P w K mg base CX0 1 f fd ["stay","fall"] (rb g)∧L2.Binds K fd ["stay","fall"] []
def fg(g:Int→Int→Int)(n i:Nat)(T:List Int):List Int:=(Vbenab.freeHoles (Vbenab.known n i)).map fun h=>g (T.getD (Vbenab.stayedAt i h) 0) (T.getD (Vbenab.fellAt i h) 0)
def Fb(g:Int→Int→Int)(i:Nat)(T:List Int):V→V
 | .int z=>.int (g (T.getD (Vbenab.stayedAt i z.toNat) 0) (T.getD (Vbenab.fellAt i z.toNat) 0))
 | x=>x
theorem xg(g:Int→Int→Int)(i:Nat)(T:List Int)(h:Nat):Fb g i T (.int (h:Int)) = .int (g (T.getD (Vbenab.stayedAt i h) 0) (T.getD (Vbenab.fellAt i h) 0)):=by
 show V.int (g (T.getD (Vbenab.stayedAt i (h:Int).toNat) 0) (T.getD (Vbenab.fellAt i (h:Int).toNat) 0))=_;rw [toNat_natCast]
theorem Gv(g:Int→Int→Int)(n i:Nat)(T:List Int):(vzs (Vbenab.freeHoles (Vbenab.known n i))).map (Fb g i T)=(fg g n i T).map V.int:=by
 unfold fg;show (((Vbenab.freeHoles (Vbenab.known n i)).map fun (n:Nat)=>(n:Int)).map V.int).map (Fb g i T)=_;rw [map_map,map_map,map_map];refine map_congr_left fun h _=>?_;exact xg g i T h
theorem getD_at{T:List Int}{k:Nat}(h:k<T.length):(T.map V.int)[k]? = some (.int (T.getD k 0)):=by
 rw [getElem?_map,getElem?_eq_getElem h,getD_eq_getElem?_getD,getElem?_eq_getElem h];rfl
section
variable {P:Program}{w:World}{K:PySem.W.Frag}{mg:Str→Option Value}{base:Heap}
structure GP(P:Program)(w:World)(K:PySem.W.Frag)(mg:Str→Option Value)(base:Heap)(C:Addr):Prop where
 cl:TPc K C
 st:∃ f fd,aF P w K mg base CX0 1 f fd ["self","known","hole"] (RO C)∧Meth K C "stayed" f∧L2.Binds K fd ["self","known","hole"] []
 fl:∃ f fd,aF P w K mg base CX0 1 f fd ["self","known","hole"] (RP C)∧Meth K C "fallen" f∧L2.Binds K fd ["self","known","hole"] []
 al:∃ f fd,aF P w K mg base CX0 1 f fd ["self","known"] (RQ C)∧Meth K C "alike" f∧L2.Binds K fd ["self","known"] []
def Fc(P:Program)(w:World)(K:PySem.W.Frag)(mg:Str→Option Value)(base:Heap)(C:Addr):Sp:=fun vs H Q _=>∃ (a ta f:Addr) (i n:Nat) (ws:List (List Nat)) (s:List Nat) (T:List Int) (g:Int→Int→Int),vs=[.ref a,.int (i:Int),.ref ta,.ref f]∧gJ C H a n ws s∧i<3 ^ n∧Nw P w K mg base f g ∧
 H ta=some (.lst (T.map V.int))∧Vbenab.freeHoles (Vbenab.known n i)≠[]∧(∀ h∈Vbenab.freeHoles (Vbenab.known n i),Vbenab.stayedAt i h<T.length∧Vbenab.fellAt i h<T.length) ∧
 ∀ (H':Hp) (m:Int),aj H H'→m∈fg g n i T→(∀ y∈fg g n i T,m≤y)→Q (.int (1+m)) H'
theorem Ny:ax ["parting","known","table","together","sides","hole"] ["parting","known","table","together"] (ao Ms):=⟨rfl,rfl,rfl,by decide +kernel,rfl,by decide +kernel,by decide +kernel⟩
theorem Pf{f C:Addr}{fd:FuncData}(F:Fun K "least_by_needling" "least_by_needling" Ms f fd)(G:GP P w K mg base C)(hMn:mg "min"=none):aF P w K mg base CX0 2 f fd ["parting","known","table","together"] (Fc P w K mg base C):=by
 obtain ⟨T,⟨fs,fds,gS,mS,bS⟩,⟨ff,fdf,gF,mF,bF⟩,_⟩:=G;refine F.ok Ny (fun vs H Q E h=>?_) (fun cdv A outer s H vs Q E hr h=>?_)
 ·obtain ⟨a,ta,f,i,n,ws,sv,Tb,g,rfl,_⟩:=h;rfl
 ·obtain ⟨a,ta,ft,i,n,ws,sv,Tb,g,rfl,hp,hi,⟨fdt,kt,gT,bT⟩,hta,hne,hin,k⟩:=h;have nd:=Ny.nd;obtain ⟨gw,dx,sa,ua,la,rs,h1,h2,h3,h4,h5⟩:=id hp;refine ⟨_,ag (oN (i:=4) (own:=[("hole",5)]) rfl nd rfl rfl (rZ rfl rfl rfl rfl) (cI (aQ aG (aB (pv 0) rfl) (pv 1) (fun _ _=>rfl)))
   (cy (by show lQ ["parting","known","table","together","sides","hole"] (ao Ms) _ _=true; decide +kernel)) (fun s H C cl fp=>aM (i:=5) nd rfl (Or.inl rfl)) (fun s H C cl fp=>eM)
   (fun s H C cl fp=>(Jx (ps:=["stay","fall"]) (j:=3) hr rfl (by first | exact Or.inl rfl | exact Or.inr (Or.inl rfl) | exact Or.inr (Or.inr rfl)) (aa (aQ (aG:IxR _ (rD K)) (pv 2) (aZ (pv 0) T.cl mS gS hr bS .nil aE (aa (pv 1) (aa (pv 5) ah))) (fun _ _=>rfl))
    (aa (aQ (aG:IxR _ (rD K)) (pv 2) (aZ (pv 0) T.cl mF gF hr bF .nil aE (aa (pv 1) (aa (pv 5) ah))) (fun _ _=>rfl)) ah)):PE _ _ (Jw P w K mg base ["stay","fall"] 3 _))))
   (ai (ay (aU cz au (aJ (Oq rfl) (by rfl) hMn Pe (aa (pv 4) ah))))),?_⟩
  obtain ⟨r,m,er,hm,hr1⟩:=aL.at_ (i:=i) (v:=(rs.map V.ref)[i]'(by rw [length_map,h4.len,lL]; exact hi)) h4 (getElem?_eq_getElem _);rw [yE hi] at hm;cases hm;have hir:(rs.map V.ref)[i]? = some (.ref r):=by rw [← er]; exact getElem?_eq_getElem _
  refine ⟨_,rfl,a,C,dx,_,_,rfl,h1,T.cl,T.nU,Mq _ _ _,_,rfl,ua,_,_,_,rfl,rfl,SqL.of h3,at_of (j:=i) rfl hir,r,rfl,⟨_,SqL.of hr1⟩,fun D hD=>E7 (Fb g i Tb) (SqL.of hr1) hD ?_ (fun _=>rfl) (fun x H2 Q2 hx sx hq=>?_) ?_⟩
  ·rw [length_map,length_map,sizeLine_eq];have:=EH n i;unfold rk at this;have:=gw.hn;omega
  ·obtain ⟨h,hh,rfl⟩:=sr hx;obtain ⟨l1,l2⟩:=hin h hh;rw [xg] at hq;refine ⟨ft,fdt,_,rfl,kt,gT,bT,_,rfl,_,rfl,a,dx,_,rfl,sx _ _ h1,pM Pa,_,rfl,_,rfl,a,i,h,n,ws,sv,rfl,hp.same sx,hh,ta,_,_,_,rfl,rfl,SqL.of (sx _ _ hta),at_of rfl (getD_at l1),_,rfl,_,rfl,a,dx,_,rfl,sx _ _ h1,pM Pb,_,rfl,_,rfl,a,i,h,n,ws,sv,rfl,hp.same sx,hh,ta,_,_,_,rfl,rfl,SqL.of (sx _ _ hta),at_of rfl (getD_at l2),_,_,rfl,hq⟩
  ·rw [Gv];refine ⟨_,rfl,D,fg g n i Tb,rfl,SqL.of ae,?_,fun m hm hmin=>⟨_,_,rfl,rfl,k _ m (aj.new hD) hm hmin⟩⟩;unfold fg;rw [length_map];exact List.length_pos_iff.mpr hne
end
abbrev dFH:Stmt:=top 59
theorem Fd(l:List Nat)(k:Nat):(zs l).getD k 0=((l.getD k 0:Nat):Int):=by
 rw [getD_eq_getElem?_getD,getD_eq_getElem?_getD,getElem?_map];cases l[k]? with
 | none=>rfl
 | some x=>rfl
theorem Gw{g:Int→Int→Int}{gN:Nat→Nat→Nat}(hg:∀ x y:Nat,g (x:Int) (y:Int)=((gN x y:Nat):Int))(n i:Nat)(T:List Nat):fg g n i (zs T)=zs ((Vbenab.freeHoles (Vbenab.known n i)).map fun h=>gN (T.getD (Vbenab.stayedAt i h) 0) (T.getD (Vbenab.fellAt i h) 0)):=by
 unfold fg;show _=((Vbenab.freeHoles (Vbenab.known n i)).map _).map fun (n:Nat)=>(n:Int);rw [map_map];refine map_congr_left fun h _=>?_;show g ((zs T).getD _ 0) ((zs T).getD _ 0)=((gN _ _:Nat):Int);rw [Fd,Fd,hg]
theorem Mt{l:List Nat}{m:Int}(h:m∈zs l)(hm:∀ y∈zs l,m≤y):m=((Vbenab.least l:Nat):Int):=by
 obtain ⟨k,hk,rfl⟩:=mem_map.mp h;rw [Ij hk fun x hx=>by have:=hm (x:Int) (mem_map.mpr ⟨x,hx,rfl⟩); omega]
section
variable {P:Program}{w:World}{K:PySem.W.Frag}{mg:Str→Option Value}{base:Heap}
def Mu(P:Program)(w:World)(K:PySem.W.Frag)(mg:Str→Option Value)(base:Heap)(C:Addr):Sp:=fun vs H Q _=>∃ (a f:Addr) (n:Nat) (ws:List (List Nat)) (s:List Nat) (g:Int→Int→Int) (gN:Nat→Nat→Nat),vs=[.ref a,.ref f]∧gJ C H a n ws s∧Nw P w K mg base f g∧(∀ x y:Nat,g (x:Int) (y:Int)=((gN x y:Nat):Int)) ∧
 ∀ (H':Hp) (p:Addr),aj H H'→H p=none→H' p=some (.lst (vzs (tab gN n ws s (3 ^ n))))→Q (.ref p) H'
theorem RU:ax ["parting","together","table","known","least"] ["parting","together"] (ao dLT):=⟨rfl,rfl,rfl,by decide +kernel,rfl,by decide +kernel,by decide +kernel⟩
theorem RV{f C:Addr}{fd:FuncData}(F:Fun K "least_table" "least_table" dLT f fd)(G:GP P w K mg base C)(hL:mg "len"=none)(hR:mg "range"=none)(DB:Dn P w K mg base CX0 2 "least_by_needling" ["parting","known","table","together"] (Fc P w K mg base C)):aF P w K mg base CX0 3 f fd ["parting","together"] (Mu P w K mg base C):=by
 obtain ⟨T,_,_,⟨fa,fda,gA,mA,bA⟩⟩:=G;obtain ⟨fb,fdb,gB,hB,kB,bB⟩:=DB;refine F.ok RU (fun vs H Q E h=>?_) (fun cdv A outer s H vs Q E hr h=>?_)
 ·obtain ⟨a,f,n,ws,sv,g,gN,rfl,_⟩:=h;rfl
 ·obtain ⟨a,ft,n,ws,sv,g,gN,rfl,hp,tg,hg,k⟩:=h;have nd:=RU.nd;obtain ⟨gw,dx,sa,ua,la,rs,h1,h2,h3,h4,h5⟩:=id hp;have hN:=sy gw.hn;have hrl:(rs.map V.ref).length=3 ^ n:=by rw [length_map,h4.len,lL]
  refine ⟨_,ag (az (i:=2) nd rfl (Or.inl rfl) (aH ah)) (ag (cu PassesOwn.never rfl (lj rfl hR (aa (aJ aC (by rfl) hL PySem.boot_len (aa (aB (pv 0) rfl) ah)) ah)) (aM (i:=3) nd rfl (Or.inl rfl))
   (ag (az (i:=4) nd rfl (Or.inl rfl) (iF (bf (aZ (pv 0) T.cl mA gA (hr.mono (by decide)) bA .nil aE (aa (pv 3) ah))) au (aD gB hr rfl hB kB bB .nil aE (aa (pv 0) (aa (pv 3) (aa (pv 2) (aa (pv 1) ah)))))))
    (ai (aV (c5 plainAttrs_list PySem.F.slot_list_append PySem.F.type_list_append br (pv 2) (aa (pv 4) ah))))))
   (ai (ay (pv 2)))),?_⟩
  refine ⟨zero_le _,fun p hq=>?_⟩;have s0:aj H (upd H p (.lst [])):=aj.new hq;refine ⟨_,rfl,a,C,dx,_,_,rfl,s0 _ _ h1,T.cl,T.nU,Mq _ _ _,ua,_,rfl,.inl (SqL.of (s0 _ _ h3)),_,rfl,by rw [hrl]; omega,by rw [hrl]; omega,?_⟩;rw [hrl,toNat_natCast];refine dI (fun j σ H'=>∃ v3 v4:Option V,σ=[some (.ref a),some (.ref ft),some (.ref p),v3,v4]∧aj H H'∧H' p=some (.lst (vzs (tab gN n ws sv j)))) ⟨none,none,rfl,s0,ae⟩ ?_ ?_
  ·rintro j σ H1 hj ⟨v3,v4,rfl,s1,h1p⟩;rw [Int.zero_add];have fin:∀ (H2:Hp) (v:Nat),aj H1 H2→v=oV gN n ws sv (tab gN n ws sv j) j→H2 p=some (.lst (vzs (tab gN n ws sv j)))→aj H (upd H2 p (.lst (vzs (tab gN n ws sv j)++[.int (v:Int)])))∧(upd H2 p (.lst (vzs (tab gN n ws sv j)++[.int (v:Int)]))) p=some (.lst (vzs (tab gN n ws sv (j+1)))):=fun H2 v s2 ev h2p=>by
    refine ⟨fun b o e=>by rw [aq (ak e hq)]; exact s2 _ _ (s1 b o e),?_⟩;rw [ae,tab,bj,ev]
   refine ⟨_,rfl,a,dx,_,rfl,s1 _ _ h1,pM Pc,_,rfl,a,j,n,ws,sv,rfl,hp.same s1,hj,_,rfl,?_⟩;by_cases h3f:lf ws sv (Vbenab.known n j)=3
   ·rw [decide_eq_true h3f];refine b0 ⟨_,rfl,_,rfl,_,rfl,_,rfl,a,p,ft,j,n,ws,sv,zs (tab gN n ws sv j),g,rfl,hp.same s1,hj,tg,h1p,qi gw hj h3f,fun h hh=>?_,fun H2 m s2 hm hmin=>?_⟩
    ·obtain ⟨l1,l2⟩:=eN hh;rw [length_map,lz];exact ⟨l1,l2⟩
    ·rw [Gw hg] at hm hmin;have em:=Mt hm hmin;have h2p:=s2 _ _ h1p;obtain ⟨f1,f2⟩:=fin H2 (1+Vbenab.least ((Vbenab.freeHoles (Vbenab.known n j)).map fun h=>gN ((tab gN n ws sv j).getD (Vbenab.stayedAt j h) 0) ((tab gN n ws sv j).getD (Vbenab.fellAt j h) 0))) s2 (by unfold oV; rw [if_pos h3f]) h2p;have ev:(1:Int)+m=((1+Vbenab.least ((Vbenab.freeHoles (Vbenab.known n j)).map fun h=>gN ((tab gN n ws sv j).getD (Vbenab.stayedAt j h) 0) ((tab gN n ws sv j).getD (Vbenab.fellAt j h) 0)):Nat):Int):=by omega
     rw [ev];exact ⟨_,rfl,.inl ⟨rfl,_,SqL.of h2p⟩,_,rfl,p,_,_,rfl,rfl,h2p,by rw [length_map,length_map,lz,sizeLine_eq]; omega,_,_,rfl,f1,f2⟩
   ·rw [decide_eq_false h3f];obtain ⟨f1,f2⟩:=fin H1 0 aj.rfl (by unfold oV; rw [if_neg h3f]) h1p;exact bz ⟨_,rfl,.inl ⟨rfl,_,SqL.of h1p⟩,_,rfl,p,_,_,rfl,rfl,h1p,by rw [length_map,length_map,lz,sizeLine_eq]; omega,_,_,rfl,f1,f2⟩
  ·rintro σ H1 ⟨v3,v4,rfl,s1,h1p⟩;exact ⟨_,rfl,k H1 p s1 hq h1p⟩
def vC(C:Addr)(gN:Nat→Nat→Nat):Sp:=fun vs H Q _=>∃ (a:Addr) (n:Nat) (ws:List (List Nat)) (s:List Nat),vs=[.ref a]∧gJ C H a n ws s∧∀ (H':Hp) (p:Addr),aj H H'→H p=none→H' p=some (.lst (vzs (tab gN n ws s (3 ^ n))))→Q (.ref p) H'
theorem UN:ax ["parting"] ["parting"] (ao dFN):=⟨rfl,rfl,rfl,by decide +kernel,rfl,by decide +kernel,by decide +kernel⟩
theorem UO:ax ["parting"] ["parting"] (ao dLD):=⟨rfl,rfl,rfl,by decide +kernel,rfl,by decide +kernel,by decide +kernel⟩
theorem RW{f C:Addr}{fd:FuncData}(F:Fun K "fewest_needlings" "fewest_needlings" dFN f fd)(DT:Dn P w K mg base CX0 3 "least_table" ["parting","together"] (Mu P w K mg base C))(DA:Dn P w K mg base CX0 1 "added" ["stay","fall"] (rb fun a b=>a+b)):aF P w K mg base CX0 4 f fd ["parting"] (vC C (· + ·)):=by
 obtain ⟨ft,fdt,gT,hT,kT,bT⟩:=DT;obtain ⟨fa,fda,gA,hA,kA,bA⟩:=DA;refine F.ok UN (fun vs H Q E h=>?_) (fun cdv A outer s H vs Q E hr h=>?_)
 ·obtain ⟨a,n,ws,sv,rfl,_⟩:=h;rfl
 ·obtain ⟨a,n,ws,sv,rfl,hp,k⟩:=h;refine ⟨_,ai (ay (aD gT hr rfl hT kT bT .nil aE (aa (pv 0) (aa (iS (v:=.ref fa) (by rfl) hA rfl (by decide)) ah)))),?_⟩;exact ⟨_,rfl,a,fa,n,ws,sv,_,(· + ·),rfl,hp,⟨fda,kA,gA,bA⟩,fun x y=>by show (x:Int)+(y:Int)=((x+y:Nat):Int); omega,k⟩
theorem RX{f C:Addr}{fd:FuncData}(F:Fun K "least_depths" "least_depths" dLD f fd)(DT:Dn P w K mg base CX0 3 "least_table" ["parting","together"] (Mu P w K mg base C))(DA:Dn P w K mg base CX0 1 "deeper" ["stay","fall"] (rb fun a b=>if b > a then b else a)):aF P w K mg base CX0 4 f fd ["parting"] (vC C max):=by
 obtain ⟨ft,fdt,gT,hT,kT,bT⟩:=DT;obtain ⟨fa,fda,gA,hA,kA,bA⟩:=DA;refine F.ok UO (fun vs H Q E h=>?_) (fun cdv A outer s H vs Q E hr h=>?_)
 ·obtain ⟨a,n,ws,sv,rfl,_⟩:=h;rfl
 ·obtain ⟨a,n,ws,sv,rfl,hp,k⟩:=h;refine ⟨_,ai (ay (aD gT hr rfl hT kT bT .nil aE (aa (pv 0) (aa (iS (v:=.ref fa) (by rfl) hA rfl (by decide)) ah)))),?_⟩;exact ⟨_,rfl,a,fa,n,ws,sv,_,max,rfl,hp,⟨fda,kA,gA,bA⟩,fun x y=>by split <;> omega,k⟩
def Pg(C:Addr):Sp:=fun vs H Q _=>∃ (a ta:Addr) (i n:Nat) (ws:List (List Nat)) (s:List Nat) (h:Nat) (r:List Nat),vs=[.ref a,.int (i:Int),.ref ta]∧gJ C H a n ws s∧i<3 ^ n∧H ta=some (.lst (vzs (tab (· + ·) n ws s (3 ^ n))))∧eK n ws s i=h::r∧∀ H':Hp,aj H H'→Q (.int (h:Int)) H'
theorem RY:ax ["parting","known","fewest","met","hole"] ["parting","known","fewest"] (ao dFH):=⟨rfl,rfl,rfl,by decide +kernel,rfl,by decide +kernel,by decide +kernel⟩
theorem RZ{f C:Addr}{fd:FuncData}(F:Fun K "first_hole_met" "first_hole_met" dFH f fd)(G:GP P w K mg base C):aF P w K mg base CX0 2 f fd ["parting","known","fewest"] (Pg C):=by
 obtain ⟨T,⟨fs,fds,gS,mS,bS⟩,⟨ff,fdf,gF,mF,bF⟩,_⟩:=G;refine F.ok RY (fun vs H Q E h=>?_) (fun cdv A outer s H vs Q E hr h=>?_)
 ·obtain ⟨a,ta,i,n,ws,sv,h,r,rfl,_⟩:=h;rfl
 ·obtain ⟨a,ta,i,n,ws,sv,h0,r0,rfl,hp,hi,hta,hmet,k⟩:=h;have nd:=RY.nd;obtain ⟨gw,dx,sa,ua,la,rs,h1,h2,h3,h4,h5⟩:=id hp;refine ⟨_,ag (oN (i:=3) (own:=[("hole",4)]) rfl nd rfl rfl (rZ rfl rfl rfl rfl) (cI (aQ aG (aB (pv 0) rfl) (pv 1) (fun _ _=>rfl)))
   (cy (by show lQ ["parting","known","fewest","met","hole"] (ao dFH) _ _=true; decide +kernel)) (fun s H C cl fp=>aM (i:=4) nd rfl (Or.inl rfl))
   (fun s H C cl fp=>oM (aK dH (aQ (aG:IxR _ (rD K)) (pv 2) (pv 1) (fun _ _=>rfl)) (aU cz (aU cz au (aQ (aG:IxR _ (rD K)) (pv 2) (aZ (pv 0) T.cl mS gS hr bS .nil aE (aa (pv 1) (aa (pv 4) ah))) (fun _ _=>rfl)))
    (aQ (aG:IxR _ (rD K)) (pv 2) (aZ (pv 0) T.cl mF gF hr bF .nil aE (aa (pv 1) (aa (pv 4) ah))) (fun _ _=>rfl))) (aN _)))
   (fun s H C cl fp=>pv 4))
   (ai (ay (aQ aG (pv 3) au (fun _ _=>rfl)))),?_⟩
  obtain ⟨r,m,er,hm,hr1⟩:=aL.at_ (i:=i) (v:=(rs.map V.ref)[i]'(by rw [length_map,h4.len,lL]; exact hi)) h4 (getElem?_eq_getElem _);rw [yE hi] at hm;cases hm;have hir:(rs.map V.ref)[i]? = some (.ref r):=by rw [← er]; exact getElem?_eq_getElem _
  have cell:∀ {j:Nat} {H2:Hp},j<3 ^ n→aj H H2→(vzs (tab (· + ·) n ws sv (3 ^ n)))[j]? = some (.int ((cs n ws sv j:Nat):Int)):=fun {j H2} hj _=>by
   refine jb ?_;rw [BU];exact uo _ hj
  refine ⟨_,rfl,a,C,dx,_,_,rfl,h1,T.cl,T.nU,Mq _ _ _,_,rfl,ua,_,_,_,rfl,rfl,SqL.of h3,at_of (j:=i) rfl hir,r,rfl,⟨_,SqL.of hr1⟩,fun D hD=>?_⟩;refine iT (K:=K) (a:=r) (xs:=vzs (Vbenab.freeHoles (Vbenab.known n i))) (fun j H'=>H'=upd H D (.lst (vzs (((Vbenab.freeHoles (Vbenab.known n i)).take j).filter fun h=>cs n ws sv i==1+cs n ws sv (Vbenab.stayedAt i h)+cs n ws sv (Vbenab.fellAt i h))))) rfl (fun j H' _ e=>?_) (fun j x H' hx e=>?_) fun H' e=>?_
  ·rw [e];exact SqL.of (aj.new hD _ _ hr1)
  ·obtain ⟨h,hh,rfl⟩:=de hx;have hmem:=mem_of_getElem? hh;obtain ⟨l1,l2⟩:=eN hmem;have sx:aj H H':=by rw [e]; exact aj.new hD
   refine ⟨rfl,?_⟩;refine ⟨_,rfl,_,rfl,ta,_,_,_,rfl,rfl,SqL.of (sx _ _ hta),at_of rfl (cell hi sx),_,rfl,_,rfl,a,dx,_,rfl,sx _ _ h1,pM Pa,_,rfl,_,rfl,a,i,h,n,ws,sv,rfl,hp.same sx,hmem,ta,_,_,_,rfl,rfl,SqL.of (sx _ _ hta),at_of rfl (cell (lt_trans l1 hi) sx),_,_,rfl,rfl,_,rfl,_,rfl,a,dx,_,rfl,sx _ _ h1,pM Pb,_,rfl,_,rfl,a,i,h,n,ws,sv,rfl,hp.same sx,hmem,ta,_,_,_,rfl,rfl,SqL.of (sx _ _ hta),at_of rfl (cell (lt_trans l2 hi) sx),_,_,rfl,rfl,rfl,_,rfl,?_⟩;have ed:decide (V.int ((cs n ws sv i:Nat):Int)=V.int ((1:Int)+((cs n ws sv (Vbenab.stayedAt i h):Nat):Int)+((cs n ws sv (Vbenab.fellAt i h):Nat):Int)))=(cs n ws sv i==1+cs n ws sv (Vbenab.stayedAt i h)+cs n ws sv (Vbenab.fellAt i h)):=by
    rw [show (1:Int)+((cs n ws sv (Vbenab.stayedAt i h):Nat):Int)+((cs n ws sv (Vbenab.fellAt i h):Nat):Int)=((1+cs n ws sv (Vbenab.stayedAt i h)+cs n ws sv (Vbenab.fellAt i h):Nat):Int) by omega,Bool.eq_iff_iff,decide_eq_true_eq,beq_iff_eq];exact ⟨b8,fun z=>by rw [z]⟩
   show if decide (V.int ((cs n ws sv i:Nat):Int)=V.int ((1:Int)+((cs n ws sv (Vbenab.stayedAt i h):Nat):Int)+((cs n ws sv (Vbenab.fellAt i h):Nat):Int)))=true then _ else _
   rw [ed,take_snoc hh,filter_append];cases hb:(cs n ws sv i==1+cs n ws sv (Vbenab.stayedAt i h)+cs n ws sv (Vbenab.fellAt i h)) with
   | true=>
    refine bz ⟨_,rfl,_,(by rw [e]; exact ae),?_,?_⟩
    ·rw [length_map,length_map,sizeLine_eq];have a1:=length_filter_le (fun h=>cs n ws sv i==1+cs n ws sv (Vbenab.stayedAt i h)+cs n ws sv (Vbenab.fellAt i h)) ((Vbenab.freeHoles (Vbenab.known n i)).take j);rw [length_take] at a1;have a2:=EH n i;unfold rk at a2;have:=gw.hn;omega
    ·rw [e,bQ,filter_cons_of_pos (p:=fun h=>cs n ws sv i==1+cs n ws sv (Vbenab.stayedAt i h)+cs n ws sv (Vbenab.fellAt i h)) (a:=h) hb,filter_nil,bj]
   | false=>
    refine b0 ?_;rw [filter_cons_of_neg (p:=fun h=>cs n ws sv i==1+cs n ws sv (Vbenab.stayedAt i h)+cs n ws sv (Vbenab.fellAt i h)) (a:=h) (by show ¬ (cs n ws sv i==1+cs n ws sv (Vbenab.stayedAt i h)+cs n ws sv (Vbenab.fellAt i h))=true; rw [hb]; exact Bool.false_ne_true),filter_nil,append_nil];exact e
  ·rw [length_map,length_map,take_length] at e;have em:((Vbenab.freeHoles (Vbenab.known n i)).filter fun h=>cs n ws sv i==1+cs n ws sv (Vbenab.stayedAt i h)+cs n ws sv (Vbenab.fellAt i h))=h0::r0:=hmet;rw [em] at e;have sx:aj H H':=by rw [e]; exact aj.new hD
   refine ⟨_,rfl,D,_,_,_,rfl,rfl,SqL.of (by rw [e]; exact ae),at_of (j:=0) (v:=.int (h0:Int)) rfl rfl,k H' sx⟩
end
abbrev dTT:Stmt:=top 60
abbrev dAA:Stmt:=top 61
def cF(n:Nat)(ws:List (List Nat))(s st:List Nat):List Int:=st.flatMap fun i=>Vbenab.treeRow (cP n ws s i)
theorem uq(n:Nat)(ws:List (List Nat))(s:List Nat):∀ st:List Nat,st.length≤(cF n ws s st).length
 | []=>zero_le _
 | i::st=>by
  have a:=LR (cP n ws s i);have b:=uq n ws s st;show st.length+1≤(Vbenab.treeRow (cP n ws s i)++cF n ws s st).length;rw [length_append];omega
theorem Gx{n:Nat}{ws:List (List Nat)}{s st:List Nat}{i:Nat}(h:lf ws s (Vbenab.known n i)≠3):cF n ws s (i::st)=(if lf ws s (Vbenab.known n i)=1 then 1 else 0)::cF n ws s st:=by
 show Vbenab.treeRow (cP n ws s i)++cF n ws s st=_;rw [Ae h];split <;> rfl
theorem Gy{n:Nat}{ws:List (List Nat)}{s st:List Nat}{i h:Nat}{r:List Nat}(h3:lf ws s (Vbenab.known n i)=3)(hm:eK n ws s i=h::r):cF n ws s (i::st)=[2,(h:Int)]++cF n ws s (Vbenab.stayedAt i h::Vbenab.fellAt i h::st):=by
 show Vbenab.treeRow (cP n ws s i)++cF n ws s st=[2,(h:Int)]++(Vbenab.treeRow _++(Vbenab.treeRow _++cF n ws s st));rw [Af h3 hm,Vbenab.treeRow,append_assoc,append_assoc]
section
variable {P:Program}{w:World}{K:PySem.W.Frag}{mg:Str→Option Value}{base:Heap}
structure TTr(mg:Str→Option Value):Prop where
 no:GI mg "NO" 0
 ye:GI mg "YES" 1
 ne:GI mg "NEEDLING" 2
def Ph(C:Addr):Sp:=fun vs H Q _=>∃ (a:Addr) (n:Nat) (ws:List (List Nat)) (s:List Nat),vs=[.ref a]∧gJ C H a n ws s∧∀ (H':Hp) (p:Addr),aj H H'→H p=none→H' p=some (.lst ((Vbenab.treeRow (cP n ws s (3 ^ n-1))).map V.int))→Q (.ref p) H'
theorem R1:ax ["parting","fewest","row","ahead","known","hole"] ["parting"] (ao dTT):=⟨rfl,rfl,rfl,by decide +kernel,rfl,by decide +kernel,by decide +kernel⟩
theorem R3{f C:Addr}{fd:FuncData}(F:Fun K "tree_told" "tree_told" dTT f fd)(G:GP P w K mg base C)(Tp:TPt mg)(Tt:TTr mg)(DF:Dn P w K mg base CX0 4 "fewest_needlings" ["parting"] (vC C (· + ·)))(DH:Dn P w K mg base CX0 2 "first_hole_met" ["parting","known","fewest"] (Pg C)):aF P w K mg base CX0 5 f fd ["parting"] (Ph C):=by
 obtain ⟨T,⟨fs,fds,gS,mS,bS⟩,⟨ff,fdf,gF,mF,bF⟩,⟨fa,fda,gA,mA,bA⟩⟩:=G;obtain ⟨fn,fdn,gN,hN,kN,bN⟩:=DF;obtain ⟨fh,fdh,gH,hH,kH,bH⟩:=DH;refine F.ok R1 (fun vs H Q E h=>?_) (fun cdv A outer s H vs Q E hr h=>?_)
 ·obtain ⟨a,n,ws,sv,rfl,_⟩:=h;rfl
 ·obtain ⟨a,n,ws,sv,rfl,hp,k⟩:=h;have nd:=R1.nd;obtain ⟨gw,dx,sa,ua,la,rs,h1,h2,h3,h4,h5⟩:=id hp;have hr1:cM 1 _:=hr.mono (by decide);refine ⟨_,ag (az (i:=1) nd rfl (Or.inl rfl) (aD gN hr rfl hN kN bN .nil aE (aa (pv 0) ah))) (ag (az (i:=2) nd rfl (Or.inl rfl) (aH ah))
   (ag (az (i:=3) nd rfl (Or.inl rfl) (aH (aa (aU cX (aJ aC (by rfl) Tp.ln PySem.boot_len (aa (pv 1) ah)) au) ah)))
   (ag (cS PassesOwn.never (aK eJ (aJ aC (by rfl) Tp.ln PySem.boot_len (aa (pv 3) ah)) au (aN _))
    (ag (az (i:=4) nd rfl (Or.inl rfl) (BI plainAttrs_list slot_list_pop type_list_pop BL (pv 3)))
    (ai (a0 (bf (aZ (pv 0) T.cl mA gA hr1 bA .nil aE (aa (pv 4) ah)))
     (ai (aV (c5 plainAttrs_list PySem.F.slot_list_append PySem.F.type_list_append br (pv 2) (aa (iF (aK dH (aQ aG (aB (pv 0) rfl) (pv 4) (fun _ _=>rfl)) (aY Tp.wa) (aN _)) (aY Tt.ye) (aY Tt.no)) ah))))
     (ag (az (i:=5) nd rfl (Or.inl rfl) (aD gH (hr.mono (by decide)) rfl hH kH bH .nil aE (aa (pv 0) (aa (pv 4) (aa (pv 1) ah)))))
     (ag (aV (c5 plainAttrs_list slot_list_extend type_list_extend lr (pv 2) (aa (aH (aa (aY Tt.ne) (aa (pv 5) ah))) ah)))
     (ai (aV (c5 plainAttrs_list slot_list_extend type_list_extend lr (pv 3) (aa (aH (aa (aZ (pv 0) T.cl mF gF hr1 bF .nil aE (aa (pv 4) (aa (pv 5) ah))) (aa (aZ (pv 0) T.cl mS gS hr1 bS .nil aE (aa (pv 4) (aa (pv 5) ah))) ah))) ah))))))))))
   (ai (ay (pv 2)))))),?_⟩
  refine ⟨_,rfl,a,n,ws,sv,rfl,hp,fun H1 pt s1 fpt hpt=>⟨zero_le _,fun pr hpr=>?_⟩⟩;have s2:aj H1 (upd H1 pr (.lst [])):=aj.new hpr;have hlen:((vzs (tab (· + ·) n ws sv (3 ^ n))).length:Int)-1=((3 ^ n-1:Nat):Int):=by
   rw [length_map,length_map,lz];have:=p3 n;omega
  refine ⟨_,rfl,pt,_,rfl,.inl (SqL.of (s2 _ _ hpt)),_,_,rfl,rfl,by show 1≤sizeLine; decide,fun ph hph=>?_⟩;have s3:aj (upd H1 pr (.lst [])) (upd (upd H1 pr (.lst [])) ph (.lst [.int (((vzs (tab (· + ·) n ws sv (3 ^ n))).length:Int)-1)])):=aj.new hph;have nrh:pr≠ph:=ak (show (upd H1 pr (.lst [])) pr=some (.lst []) from ae) hph;have fr:H pr=none:=s1.free hpr;have fh':H ph=none:=(s1.trans s2).free hph;have s13:=(s1.trans s2).trans s3;obtain ⟨full,hfull⟩:∃ full,full=Vbenab.treeRow (cP n ws sv (3 ^ n-1)):=⟨_,rfl⟩;have hfl:full.length≤2048:=by rw [hfull]; exact tG gw.hn ws sv _
  have ntr:pt≠pr:=ak hpt hpr;have nth:pt≠ph:=ak (s2 _ _ hpt) hph;rw [← hfull] at k;refine ⟨fun m σ H'=>∃ (st:List Nat) (row:List Int) (v4 v5:Option V),σ=[some (.ref a),some (.ref pt),some (.ref pr),some (.ref ph),v4,v5]∧aj H H'∧H' pt=some (.lst (vzs (tab (· + ·) n ws sv (3 ^ n))))∧H' pr=some (.lst (row.map V.int))∧H' ph=some (.lst (vzs st.reverse))∧(∀ x∈st,x<3 ^ n)∧row++cF n ws sv st=full∧m=(cF n ws sv st).length,
   ⟨_,[3 ^ n-1],[],none,none,rfl,s13,s3 _ _ (s2 _ _ hpt),s3 _ _ ae,?_,fun x hx=>by rw [mem_singleton.mp hx]; exact oW n,?_,rfl⟩,?_⟩
  ·rw [ae];show some (HO.lst [V.int (((vzs (tab (· + ·) n ws sv (3 ^ n))).length:Int)-1)])=_;rw [hlen];rfl
  ·rw [hfull];show []++(Vbenab.treeRow _++[])=_;rw [append_nil,nil_append]
  rintro m σ H4 ⟨st,row,v4,v5,rfl,s4,hpt4,hpr4,hph4,hst,hrow,rfl⟩;have hl4:((vzs st.reverse).length:Int)=(st.length:Int):=by rw [length_map,length_map,length_reverse]
  refine ⟨_,rfl,ph,_,rfl,.inl (SqL.of hph4),_,_,rfl,rfl,_,rfl,cg (fun hlt=>?_) fun hlt=>?_⟩
  ·rw [hl4] at hlt;cases st with
   | nil=>exact absurd hlt (by decide)
   | cons i st=>
   have hi:=hst i mem_cons_self;refine ⟨fun σ' H'=>∃ m',m'<(cF n ws sv (i::st)).length∧∃ (st:List Nat) (row:List Int) (v4 v5:Option V),σ'=[some (.ref a),some (.ref pt),some (.ref pr),some (.ref ph),v4,v5]∧aj H H'∧H' pt=some (.lst (vzs (tab (· + ·) n ws sv (3 ^ n))))∧H' pr=some (.lst (row.map V.int))∧H' ph=some (.lst (vzs st.reverse))∧(∀ x∈st,x<3 ^ n)∧row++cF n ws sv st=full∧m'=(cF n ws sv st).length,fun _ _ z=>z,?_⟩;have erev:vzs (i::st).reverse=vzs st.reverse++[.int (i:Int)]:=by rw [reverse_cons,bj]
   rw [erev] at hph4;have hlast:(vzs st.reverse++[V.int (i:Int)])[(vzs st.reverse++[V.int (i:Int)]).length-1]? = some (.int (i:Int)):=by
    rw [length_append];show (vzs st.reverse++[V.int (i:Int)])[(vzs st.reverse).length+1-1]? = _;rw [add_sub_cancel,List.getElem?_concat_length]
   refine ⟨_,rfl,.inl ⟨rfl,_,SqL.of hph4⟩,ph,_,_,rfl,rfl,hph4,hlast,?_⟩;rw [List.dropLast_concat];generalize hH5:upd H4 ph (.lst (vzs st.reverse))=H5;have s5:aj H H5:=fun b o e=>by rw [← hH5,aq (ak e fh')]; exact s4 b o e
   have hpt5:H5 pt=some (.lst (vzs (tab (· + ·) n ws sv (3 ^ n)))):=by rw [← hH5,aq nth]; exact hpt4
   have hpr5:H5 pr=some (.lst (row.map V.int)):=by rw [← hH5,aq nrh]; exact hpr4
   have hph5:H5 ph=some (.lst (vzs st.reverse)):=by rw [← hH5]; exact ae
   have tl:=uq n ws sv (i::st);have fl:row.length+(cF n ws sv (i::st)).length=full.length:=by rw [← hrow,length_append]
   refine ⟨_,rfl,a,dx,_,rfl,s5 _ _ h1,pM Pc,_,rfl,a,i,n,ws,sv,rfl,hp.same s5,hi,_,rfl,?_⟩;by_cases h3f:lf ws sv (Vbenab.known n i)=3
   ·rw [decide_eq_true h3f];obtain ⟨h0,r0,hmet⟩:∃ h0 r0,eK n ws sv i=h0::r0:=by
     cases hm:eK n ws sv i with
     | nil=>exact absurd hm (Ik gw hi h3f)
     | cons h0 r0=>exact ⟨h0,r0,rfl⟩
    have hh:h0∈Vbenab.freeHoles (Vbenab.known n i):=(mem_filter.mp (by show h0∈eK n ws sv i; rw [hmet]; exact mem_cons_self)).1;obtain ⟨l1,l2⟩:=eN hh;have et:=Gy (st:=st) h3f hmet;rw [et] at hrow fl;rw [length_append] at fl;have fl:row.length+(2+(cF n ws sv (Vbenab.stayedAt i h0::Vbenab.fellAt i h0::st)).length)=full.length:=fl;have tl2:=uq n ws sv (Vbenab.stayedAt i h0::Vbenab.fellAt i h0::st);rw [length_cons,length_cons] at tl2;refine b0 ⟨_,rfl,_,rfl,_,rfl,a,pt,i,n,ws,sv,h0,r0,rfl,hp.same s5,hi,hpt5,hmet,fun H6 s6=>?_⟩;have hpr6:=s6 _ _ hpr5;have hph6:=s6 _ _ hph5;have s56:=s5.trans s6;refine ⟨_,rfl,.inl ⟨rfl,_,SqL.of hpr6⟩,_,rfl,by show 2≤sizeLine; decide,fun q hq=>?_⟩;have s7:aj H6 (upd H6 q (.lst [.int 2,.int (h0:Int)])):=aj.new hq;refine ⟨pr,q,_,_,rfl,rfl,s7 _ _ hpr6,ae,by rw [length_map,sizeLine_eq]; show row.length+2≤_; omega,?_⟩;generalize hH8:upd (upd H6 q (.lst [.int 2,.int (h0:Int)])) pr (.lst (row.map V.int++[.int 2,.int (h0:Int)]))=H8;have s8:aj H H8:=fun b o e=>by rw [← hH8,aq (ak e fr)]; exact s7 _ _ (s56 b o e)
    have hpr8:H8 pr=some (.lst ((row++[2,(h0:Int)]).map V.int)):=by
     rw [← hH8,ae,map_append];rfl
    have hph8:H8 ph=some (.lst (vzs st.reverse)):=by rw [← hH8,aq (Ne.symm nrh)]; exact s7 _ _ hph6
    have hpt8:H8 pt=some (.lst (vzs (tab (· + ·) n ws sv (3 ^ n)))):=by rw [← hH8,aq ntr]; exact s7 _ _ (s6 _ _ hpt5)
    have o8:=s8 _ _ h1;refine ⟨_,rfl,.inl ⟨rfl,_,SqL.of hph8⟩,_,rfl,a,dx,_,rfl,o8,pM Pb,_,rfl,_,rfl,a,i,h0,n,ws,sv,rfl,hp.same s8,hh,_,rfl,a,dx,_,rfl,o8,pM Pa,_,rfl,_,rfl,a,i,h0,n,ws,sv,rfl,hp.same s8,hh,by show 2≤sizeLine; decide,fun q2 hq2=>?_⟩;have s9:aj H8 (upd H8 q2 (.lst [.int ((Vbenab.fellAt i h0:Nat):Int),.int ((Vbenab.stayedAt i h0:Nat):Int)])):=aj.new hq2;refine ⟨ph,q2,_,_,rfl,rfl,s9 _ _ hph8,ae,by rw [length_map,length_map,length_reverse,sizeLine_eq]; show st.length+2≤_; omega,?_⟩;refine ⟨_,?_,Vbenab.stayedAt i h0::Vbenab.fellAt i h0::st,row++[2,(h0:Int)],_,_,rfl,fun b o e=>?_,?_,?_,?_,fun x hx=>?_,?_,rfl⟩
    ·rw [et,length_append];show _<2+_;omega
    ·rw [aq (ak e fh')];exact s9 _ _ (s8 b o e)
    ·rw [aq nth];exact s9 _ _ hpt8
    ·rw [aq nrh];exact s9 _ _ hpr8
    ·rw [ae,reverse_cons,reverse_cons,bj,bj,append_assoc];rfl
    ·rcases mem_cons.mp hx with e | e
     ·omega
     ·rcases mem_cons.mp e with e | e
      ·omega
      ·exact hst x (mem_cons_of_mem _ e)
    ·rw [append_assoc];exact hrow
   ·rw [decide_eq_false h3f];have et:=Gx (st:=st) h3f;rw [et] at hrow fl;have fl:row.length+((cF n ws sv st).length+1)=full.length:=fl;refine bz ⟨_,rfl,.inl ⟨rfl,_,SqL.of hpr5⟩,_,rfl,a,C,dx,_,_,rfl,s5 _ _ h1,T.cl,T.nL,RM _ _ _,_,rfl,la,_,_,_,rfl,rfl,SqL.of (s5 _ _ h5),at_of (j:=i) (v:=.int ((lf ws sv (Vbenab.known n i):Nat):Int)) rfl (jb (uo _ hi)),rfl,_,rfl,?_⟩;have fin:∀ (x:Int),x=(if lf ws sv (Vbenab.known n i)=1 then 1 else 0)→∃ m',m'<(cF n ws sv (i::st)).length∧∃ (st2:List Nat) (row2:List Int) (v4 v5':Option V),[some (V.ref a),some (V.ref pt),some (V.ref pr),some (V.ref ph),some (V.int (i:Int)),v5]=[some (.ref a),some (.ref pt),some (.ref pr),some (.ref ph),v4,v5']∧aj H (upd H5 pr (.lst (row.map V.int++[.int x])))∧(upd H5 pr (.lst (row.map V.int++[.int x]))) pt=some (.lst (vzs (tab (· + ·) n ws sv (3 ^ n))))∧(upd H5 pr (.lst (row.map V.int++[.int x]))) pr=some (.lst (row2.map V.int))∧(upd H5 pr (.lst (row.map V.int++[.int x]))) ph=some (.lst (vzs st2.reverse))∧(∀ x∈st2,x<3 ^ n)∧row2++cF n ws sv st2=full∧m'=(cF n ws sv st2).length:=fun x ex=>by
     refine ⟨_,?_,st,row++[x],_,_,rfl,fun b o e=>?_,?_,?_,?_,fun y hy=>hst y (mem_cons_of_mem _ hy),?_,rfl⟩
     ·rw [et];exact lt_succ_self _
     ·rw [aq (ak e fr)];exact s5 b o e
     ·rw [aq ntr];exact hpt5
     ·rw [ae,map_append];rfl
     ·rw [aq (Ne.symm nrh)];exact hph5
     ·rw [append_assoc,ex];exact hrow
    have hz:(row.map V.int).length<sizeLine:=by
     rw [length_map,sizeLine_eq];omega
    by_cases h1f:lf ws sv (Vbenab.known n i)=1
    ·refine cg (fun _=>?_) fun z=>absurd (by rw [h1f]; rfl) z;exact ⟨pr,_,_,rfl,rfl,hpr5,hz,fin 1 (by rw [if_pos h1f])⟩
    ·refine cg (fun z=>absurd (b8 (b:=1) z) h1f) fun _=>?_;exact ⟨pr,_,_,rfl,rfl,hpr5,hz,fin 0 (by rw [if_neg h1f])⟩
  ·rw [hl4] at hlt;obtain rfl:st=[]:=by
    cases st with
    | nil=>rfl
    | cons i st=>exact absurd (show (0:Int)<((i::st).length:Int) by rw [length_cons]; omega) hlt
   have hrow:row=full:=by rw [← hrow]; exact (append_nil _).symm
   rw [hrow] at hpr4;exact ⟨_,rfl,k H4 pr s4 fr hpr4⟩
end
theorem Gz{n:Nat}{ws:List (List Nat)}{s:List Nat}{D:List Int}{i:Nat}{m:Int}(h3:lf ws s (Vbenab.known n i)=3)(h1:m∈fg (fun a b=>a+b) n i D)(h2:∀ y∈fg (fun a b=>a+b) n i D,m≤y):tF n ws s D i=decide (D.getD i 0≤1+m):=by
 unfold tF;rw [if_pos h3,BW h1 h2];unfold fg;rw [all_map];rfl
theorem all_false{N i:Nat}{p:Nat→Bool}(h:i<N)(hp:p i=false):(List.range N).all p=false:=by
 rw [List.all_eq_false];exact ⟨i,mem_range.mpr h,by rw [hp]; decide⟩
section
variable {P:Program}{w:World}{K:PySem.W.Frag}{mg:Str→Option Value}{base:Heap}
def Pj(C:Addr):Sp:=fun vs H Q _=>∃ (a d:Addr) (n:Nat) (ws:List (List Nat)) (s:List Nat) (D:List Int),vs=[.ref a,.ref d]∧gJ C H a n ws s∧H d=some (.lst (D.map V.int))∧∀ H':Hp,aj H H'→Q (.bl (decide (D.length=3 ^ n)&&(List.range (3 ^ n)).all (tF n ws s D))) H'
theorem R4:ax ["parting","labels","known","label","most"] ["parting","labels"] (ao dAA):=⟨rfl,rfl,rfl,by decide +kernel,rfl,by decide +kernel,by decide +kernel⟩
theorem R5{f C:Addr}{fd:FuncData}(F:Fun K "all_accepted" "all_accepted" dAA f fd)(G:GP P w K mg base C)(Tp:TPt mg)(DB:Dn P w K mg base CX0 2 "least_by_needling" ["parting","known","table","together"] (Fc P w K mg base C))(DA:Dn P w K mg base CX0 1 "added" ["stay","fall"] (rb fun a b=>a+b)):aF P w K mg base CX0 3 f fd ["parting","labels"] (Pj C):=by
 obtain ⟨T,_,_,⟨fa,fda,gA,mA,bA⟩⟩:=G;obtain ⟨fb,fdb,gB,hB,kB,bB⟩:=DB;obtain ⟨fx,fdx,gX,hX,kX,bX⟩:=DA;refine F.ok R4 (fun vs H Q E h=>?_) (fun cdv A outer s H vs Q E hr h=>?_)
 ·obtain ⟨a,d,n,ws,sv,D,rfl,_⟩:=h;rfl
 ·obtain ⟨a,d,n,ws,sv,D,rfl,hp,hd,k⟩:=h;have nd:=R4.nd;obtain ⟨gw,dx,sa,ua,la,rs,h1,h2,h3,h4,h5⟩:=id hp;have hrl:(rs.map V.ref).length=3 ^ n:=by rw [length_map,h4.len,lL]
  refine ⟨_,ag (a0 (aK sM (aJ aC (by rfl) Tp.ln PySem.boot_len (aa (pv 1) ah)) (aJ aC (by rfl) Tp.ln PySem.boot_len (aa (aB (pv 0) rfl) ah)) (aN _)) (ai (ay oC)) aO)
   (ag (cu PassesOwn.never rfl (dt (by rfl) Tp.en (aa (pv 1) ah)) (d7 rfl (ba (aM (i:=2) nd rfl (Or.inl rfl)) (ba (aM (i:=3) nd rfl (Or.inl rfl)) da)))
    (ag (az (i:=4) nd rfl (Or.inl rfl) (iF (bf (aZ (pv 0) T.cl mA gA (hr.mono (by decide)) bA .nil aE (aa (pv 2) ah))) au (aD gB hr rfl hB kB bB .nil aE (aa (pv 0) (aa (pv 2) (aa (pv 1) (aa (iS (v:=.ref fx) (by rfl) hX rfl (by decide)) ah)))))))
     (ai (a0 (aK eJ (pv 3) (pv 4) (aN _)) (ai (ay oC)) aO))))
   (ai (ay oC))),?_⟩
  refine ⟨_,rfl,d,_,rfl,.inl (SqL.of hd),_,rfl,a,C,dx,_,_,rfl,h1,T.cl,T.nU,Mq _ _ _,ua,_,rfl,.inl (SqL.of h3),rfl,_,rfl,?_⟩;have el:decide (V.int ((D.map V.int).length:Int)=V.int ((rs.map V.ref).length:Int))=decide (D.length=3 ^ n):=by
   rw [hrl,length_map,decide_eq_decide];exact ⟨b8,fun z=>by rw [z]⟩
  show if (!decide (V.int ((D.map V.int).length:Int)=V.int ((rs.map V.ref).length:Int)))=true then _ else _
  rw [el];by_cases hl:D.length=3 ^ n
  ·rw [decide_eq_true hl] at k ⊢;refine b0 ?_;refine ⟨_,rfl,d,_,rfl,SqL.of hd,c6 (K:=K) (a:=d) (xs:=D.map V.int) (fun i σ H'=>∃ v2 v3 v4:Option V,σ=[some (.ref a),some (.ref d),v2,v3,v4]∧aj H H'∧∀ j,j<i→tF n ws sv D j=true) ⟨none,none,none,rfl,aj.rfl,fun j hj=>absurd hj (not_lt_zero _)⟩ (fun i σ H' _ ⟨_,_,_,_,s2,_⟩=>SqL.of (s2 _ _ hd)) ?_ ?_⟩
   ·rintro i x σ H1 T' hi hT ⟨v2,v3,v4,rfl,s1,hacc⟩;obtain ⟨lb,hlb,rfl⟩:=E3 hi;have hiD:i<3 ^ n:=by
     have:=(List.getElem?_eq_some_iff.mp hlb).1;omega
    have eD:D.getD i 0=lb:=by rw [getD_eq_getElem?_getD,hlb]; rfl
    have s2:aj H1 (upd H1 T' (.tup [.int (i:Nat),.int lb])):=aj.new hT;have s12:=s1.trans s2;have fin:∀ (H2:Hp) (m:Int),aj H H2→tF n ws sv D i=decide (D.getD i 0≤m)→(if decide (m<lb)=true then Q (.bl false) H2 else ∃ v2 v3 v4:Option V,[some (V.ref a),some (V.ref d),some (V.int (i:Int)),some (V.int lb),some (V.int m)]=[some (.ref a),some (.ref d),v2,v3,v4]∧aj H H2∧∀ j,j<i+1→tF n ws sv D j=true):=fun H2 m s3 ea=>by
     rw [eD] at ea;refine cg (fun hgt=>?_) fun hgt=>⟨_,_,_,rfl,s3,fun j hj=>?_⟩
     ·rw [decide_eq_false (by omega)] at ea;rw [all_false hiD ea,Bool.and_false] at k;exact k H2 s3
     ·by_cases e:j=i
      ·rw [e,ea];exact decide_eq_true (by omega)
      ·exact hacc j (by omega)
    refine ⟨T',_,rfl,SqT.of ae,rfl,_,_,rfl,_,_,rfl,rfl,?_⟩;refine ⟨_,rfl,a,dx,_,rfl,s12 _ _ h1,pM Pc,_,rfl,a,i,n,ws,sv,rfl,hp.same s12,hiD,_,rfl,?_⟩;by_cases h3f:lf ws sv (Vbenab.known n i)=3
    ·rw [decide_eq_true h3f];refine b0 ⟨_,rfl,_,rfl,_,rfl,a,d,fx,i,n,ws,sv,D,_,rfl,hp.same s12,hiD,⟨fdx,kX,gX,bX⟩,s12 _ _ hd,qi gw hiD h3f,fun h hh=>?_,fun H2 m s3 hm hmin=>?_⟩
     ·obtain ⟨l1,l2⟩:=eN hh;omega
     ·exact ⟨_,rfl,_,rfl,_,_,rfl,rfl,_,rfl,fin H2 (1+m) (s12.trans s3) (Gz h3f hm hmin)⟩
    ·rw [decide_eq_false h3f];exact bz ⟨_,rfl,_,rfl,_,_,rfl,rfl,_,rfl,fin _ 0 s12 (by unfold tF; rw [if_neg h3f])⟩
   ·rintro σ H1 ⟨v2,v3,v4,rfl,s1,hacc⟩;rw [length_map,hl] at hacc;rw [show (List.range (3 ^ n)).all (tF n ws sv D)=true from all_eq_true.mpr fun j hj=>hacc j (mem_range.mp hj)] at k;exact k H1 s1
  ·rw [decide_eq_false hl] at k ⊢;exact bz (k H aj.rfl)
end
abbrev UP:Stmt:=top 41
abbrev mNI:Stmt:=inClass UP 0
abbrev Fe:Stmt:=top 42
abbrev mWI:Stmt:=inClass Fe 0
abbrev mWO:Stmt:=inClass Fe 1
abbrev mWC:Stmt:=inClass Fe 2
abbrev mWN:Stmt:=inClass Fe 3
theorem Ff:bootBuiltins "list"=some (.type "list"):=by kernel_rfl
theorem AH:bootBuiltins "range"=some (.type "range"):=by kernel_rfl
structure TN(K:PySem.W.Frag)(mg:Str→Option Value)(CN fI:Addr):Prop where
 xm:XMk K CN fI
 nv:mg "ValueError"=none
 at_:mg "NotATree"=some (.ref CN)
def wf(ca wa pa:Addr)(p:Bool)(nd dp:Nat):List (Str×V):=[("code",.ref ca),("wanted",.ref wa),("ahead",.ref pa),("parts",.bl p),("needlings",.int (nd:Int)),("depth",.int (dp:Int))]
structure TWk(K:PySem.W.Frag)(C:Addr):Prop where
 cl:Cls K C
 nC:aP K C "code"
 nW:aP K C "wanted"
 nA:aP K C "ahead"
 nP:aP K C "parts"
 nN:aP K C "needlings"
 nD:aP K C "depth"
theorem R6(ca wa pa:Addr)(p:Bool)(nd dp:Nat):(wf ca wa pa p nd dp).lookup ("code":Str)=some (.ref ca):=by rfl
theorem UQ(ca wa pa:Addr)(p:Bool)(nd dp:Nat):(wf ca wa pa p nd dp).lookup ("wanted":Str)=some (.ref wa):=by rfl
theorem Jy(ca wa pa:Addr)(p:Bool)(nd dp:Nat):(wf ca wa pa p nd dp).lookup ("ahead":Str)=some (.ref pa):=by rfl
theorem UR(ca wa pa:Addr)(p:Bool)(nd dp:Nat):(wf ca wa pa p nd dp).lookup ("parts":Str)=some (.bl p):=by rfl
theorem Pk(ca wa pa:Addr)(p:Bool)(nd dp:Nat):(wf ca wa pa p nd dp).lookup ("needlings":Str)=some (.int (nd:Int)):=by rfl
theorem Pl(ca wa pa:Addr)(p:Bool)(nd dp:Nat):(wf ca wa pa p nd dp).lookup ("depth":Str)=some (.int (dp:Int)):=by rfl
theorem Fg{m:Str}{ca wa pa:Addr}{p:Bool}{nd dp:Nat}(h:(m==("code":Str))=false∧(m==("wanted":Str))=false∧(m==("ahead":Str))=false∧(m==("parts":Str))=false∧(m==("needlings":Str))=false∧(m==("depth":Str))=false):(wf ca wa pa p nd dp).lookup m=none:=by
 unfold wf;simp only [List.lookup,h.1,h.2.1,h.2.2.1,h.2.2.2.1,h.2.2.2.2.1,h.2.2.2.2.2]
structure WkO(CW CK:Addr)(H:Hp)(a ca pt wa pa:Addr)(c:Vbenab.Code)(s:List Nat)(st:List (Nat×List Nat))(p:Bool)(nd dp:Nat):Prop where
 ex:∃ (dx:Addr) (ts:List Addr),H a=some (.ins CW dx (wf ca wa pa p nd dp))∧H pa=some (.lst (ts.reverse.map V.ref))∧aT (but pa H) ts st
 co:l8 CK (but pa H) ca pt c
 wa_:but pa H wa=some (.lst (vzs s))
 nca:ca≠a
theorem WkO.same{CW CK:Addr}{H H':Hp}{a ca pt wa pa:Addr}{c:Vbenab.Code}{s:List Nat}{st:List (Nat×List Nat)}{p:Bool}{nd dp:Nat}(x:WkO CW CK H a ca pt wa pa c s st p nd dp)(sm:aj H H'):WkO CW CK H' a ca pt wa pa c s st p nd dp:=by
 obtain ⟨⟨dx,ts,h1,h2,h3⟩,h4,h5,h6⟩:=x;exact ⟨⟨dx,ts,sm _ _ h1,sm _ _ h2,h3.mono (cD sm)⟩,h4.same (cD sm),cD sm _ _ h5,h6⟩
theorem WkO.fields{CW CK:Addr}{H:Hp}{a ca pt wa pa:Addr}{c:Vbenab.Code}{s:List Nat}{st:List (Nat×List Nat)}{p p':Bool}{nd dp nd' dp':Nat}{dx:Addr}(x:WkO CW CK H a ca pt wa pa c s st p nd dp)(h:H a=some (.ins CW dx (wf ca wa pa p nd dp))):WkO CW CK (upd H a (.ins CW dx (wf ca wa pa p' nd' dp'))) a ca pt wa pa c s st p' nd' dp':=by
 obtain ⟨⟨dx2,ts,h1,h2,h3⟩,h4,h5,h6⟩:=x;have na:a≠pa:=aW h1 h2 (by intro z; cases z);have hb:but pa H a=some (.ins CW dx (wf ca wa pa p nd dp)):=aR na h;have u:aI a (but pa H) (but pa (upd H a (.ins CW dx (wf ca wa pa p' nd' dp')))):=dw bu;exact ⟨⟨dx,ts,ae,by rw [aq (Ne.symm na)]; exact h2,aT.cR hb (fun _ z=>nomatch z) (fun _ z=>nomatch z) u h3⟩,cO.cR h4 hb h6 u,u _ _ h5 (aW h5 hb (by intro z; cases z)),h6⟩
theorem WkO.ahead{CW CK:Addr}{H:Hp}{a ca pt wa pa:Addr}{c:Vbenab.Code}{s:List Nat}{st st':List (Nat×List Nat)}{p:Bool}{nd dp:Nat}{ts':List Addr}(x:WkO CW CK H a ca pt wa pa c s st p nd dp)(hw:aT (but pa H) ts' st'):WkO CW CK (upd H pa (.lst (ts'.reverse.map V.ref))) a ca pt wa pa c s st' p nd dp:=by
 obtain ⟨⟨dx2,ts,h1,h2,h3⟩,h4,h5,h6⟩:=x;have na:a≠pa:=aW h1 h2 (by intro z; cases z);exact ⟨⟨dx2,ts',by rw [aq na]; exact h1,ae,by rw [cb]; exact hw⟩,by rw [cb]; exact h4,by rw [cb]; exact h5,h6⟩
section
variable {P:Program}{w:World}{K:PySem.W.Frag}{mg:Str→Option Value}{base:Heap}
def Mv(CN:Addr):Sp:=fun vs H Q _=>∃ a:Addr,vs=[.ref a]∧H a=some (ExN CN a none)∧Q .non H
theorem US:ax ["self"] ["self"] (ao mNI):=⟨rfl,rfl,rfl,by decide +kernel,rfl,by decide +kernel,by decide +kernel⟩
theorem R7{CN fI:Addr}{fd:FuncData}(F:Fun K "__init__" "NotATree.__init__" mNI fI fd)(T:TN K mg CN fI):aF P w K mg base CX0 1 fI fd ["self"] (Mv CN):=by
 refine F.ok US (fun vs H Q E h=>?_) (fun cdv A outer s H vs Q E hr h=>?_)
 ·obtain ⟨a,rfl,_⟩:=h;rfl
 ·obtain ⟨a,rfl,ha,k⟩:=h;refine ⟨_,ai (aV (zV (sX T.xm.cls) (by rfl) T.nv (aa (pv 0) (aa dq ah)))),?_⟩;exact ⟨_,rfl,a,none,_,rfl,ha,(by show 1≤sizeLine; decide),k⟩
theorem Fh{CN:Addr}{E:XK}{H1:Hp}(hE:∀ (H':Hp) (ea:Addr) (d:Option Addr),aj H1 H'→E (.ref ea) d H'):∀ a,H1 a=none →
  Mv CN [.ref a] (upd H1 a (ExN CN a none)) (fun v H2=>v = .non∧∃ d:Option Addr,H2 a=some (ExN CN a d)∧E (.ref a) d (upd H2 a (ExO CN a d))) E0:=by
 intro a ha;refine ⟨a,rfl,ae,rfl,none,ae,?_⟩;rw [bQ];exact hE _ a none (aj.new ha)
def Pn(CW CK:Addr):Sp:=fun vs H Q _=>∃ (a dx ca pt wa:Addr) (c:Vbenab.Code) (s:List Nat),vs=[.ref a,.ref ca,.ref wa]∧H a=some (.ins CW dx [])∧l8 CK H ca pt c∧GoodC c∧H wa=some (.lst (vzs s)) ∧
 ∀ (H':Hp) (pa:Addr),WkO CW CK H' a ca pt wa pa c s [(0,List.range (codeWords c).length)] true 0 0→H pa=none→aI a H H'→Q .non H'
theorem UT:ax ["self","code","wanted"] ["self","code","wanted"] (ao mWI):=⟨rfl,rfl,rfl,by decide +kernel,rfl,by decide +kernel,by decide +kernel⟩
theorem R8{f CW CK:Addr}{fd:FuncData}(F:Fun K "__init__" "Walk.__init__" mWI f fd)(T:TWk K CW)(TKc:TK K CK)(hL:mg "len"=none)(hR:mg "range"=none)(hLi:mg "list"=none):aF P w K mg base CX0 1 f fd ["self","code","wanted"] (Pn CW CK):=by
 refine F.ok UT (fun vs H Q E h=>?_) (fun cdv A outer s H vs Q E hr h=>?_)
 ·obtain ⟨a,dx,ca,pt,wa,c,sv,rfl,_⟩:=h;rfl
 ·obtain ⟨a,dx,ca,pt,wa,c,sv,rfl,ha,hc,gc,hwa,k⟩:=h;refine ⟨_,ag (b9 (pv 0) (pv 1) rfl) (ag (b9 (pv 0) (pv 2) rfl)
   (ag (b9 (pv 0) (aH (aa (p7 (aa au (aa (iH (lY rfl) (by rfl) hLi Ff (aa (iH FV (by rfl) hR AH (aa (aJ aC (by rfl) hL PySem.boot_len (aa (aB (pv 1) rfl) ah)) ah)) ah)) ah))) ah)) rfl)
   (ag (b9 (pv 0) oC rfl) (ag (b9 (pv 0) au rfl) (ai (b9 (pv 0) au rfl)))))),?_⟩
  obtain ⟨dxc,pn,pq,pd,rn,o1,o2,o3,o4,o5⟩:=hc.ex;have nca:ca≠a:=fun z=>by
   rw [z,ha] at o1;injection o1 with o1;injection o1 with _ _ e;unfold kf at e;cases e
  refine ⟨_,rfl,_,rfl,a,CW,dx,[],rfl,ha,T.cl,T.nC,(by show 0<1000; decide),_,rfl,_,rfl,a,CW,dx,_,rfl,ae,T.cl,T.nW,(by show 1<1000; decide),?_⟩;rw [bQ];generalize hH1:upd H a (.ins CW dx (cn "wanted" (.ref wa) (cn "code" (.ref ca) [])))=H1;have u1:aI a H H1:=by rw [← hH1]; exact bu
  have ha1:H1 a=some (.ins CW dx [("code",.ref ca),("wanted",.ref wa)]):=by rw [← hH1]; exact ae
  have hlen:((vzs ((codeWords c).map mask)).length:Int)=((codeWords c).length:Int):=by rw [length_map,length_map,length_map]
  have hc2:=gc.c2;have npa:pq≠a:=aW o4 ha (by intro z; cases z);refine ⟨_,rfl,ca,CK,dxc,_,_,rfl,u1 _ _ o1 nca,TKc.cl,TKc.nQ,pH _ _ _ _ _ _,pq,_,rfl,.inl (SqL.of (u1 _ _ o4 npa)),_,rfl,fun pg hpg=>?_⟩;rw [hlen];refine ⟨pg,0,_,rfl,ae,⟨by omega,by omega,by omega,by omega⟩,by omega,fun pl hpl=>?_⟩;rw [show (((codeWords c).length:Int)-0).toNat=(codeWords c).length by omega];have er:((List.range (codeWords c).length).map fun (i:Nat)=>V.int ((0:Int)+(i:Int)))=vzs (List.range (codeWords c).length):=by
   show _=((List.range (codeWords c).length).map fun (n:Nat)=>(n:Int)).map V.int;rw [map_map];refine map_congr_left fun i _=>?_;show V.int ((0:Int)+(i:Int))=V.int (i:Int);rw [Int.zero_add]
  rw [er];have s2:aj H1 (upd H1 pg (.rng 0 ((codeWords c).length:Int))):=aj.new hpg;have s3:aj H1 (upd (upd H1 pg (.rng 0 ((codeWords c).length:Int))) pl (.lst (vzs (List.range (codeWords c).length)))):=s2.trans (aj.new hpl);have hpl3:(upd (upd H1 pg (.rng 0 ((codeWords c).length:Int))) pl (.lst (vzs (List.range (codeWords c).length)))) pl=some (.lst (vzs (List.range (codeWords c).length))):=ae;generalize hH3:upd (upd H1 pg (.rng 0 ((codeWords c).length:Int))) pl (.lst (vzs (List.range (codeWords c).length)))=H3 at s3 hpl3;refine ⟨by show 2≤sizeLine; decide,fun t ht=>?_⟩;have s4:aj H3 (upd H3 t (.tup [.int 0,.ref pl])):=aj.new ht;refine ⟨by show 1≤sizeLine; decide,fun pa hpa=>?_⟩;have s5:aj (upd H3 t (.tup [.int 0,.ref pl])) (upd (upd H3 t (.tup [.int 0,.ref pl])) pa (.lst [.ref t])):=aj.new hpa;have s15:=s3.trans (s4.trans s5);have ht5:(upd (upd H3 t (.tup [.int 0,.ref pl])) pa (.lst [.ref t])) t=some (.tup [.int 0,.ref pl]):=s5 _ _ ae;have hpl5:=s5 _ _ (s4 _ _ hpl3);have hpa5:(upd (upd H3 t (.tup [.int 0,.ref pl])) pa (.lst [.ref t])) pa=some (.lst [.ref t]):=ae;have npl:pl≠pa:=ak (s4 _ _ hpl3) hpa;have fpa1:H1 pa=none:=(s3.trans s4).free hpa;generalize upd (upd H3 t (.tup [.int 0,.ref pl])) pa (.lst [.ref t])=H5 at s15 ht5 hpl5 hpa5;have ha5:=s15 _ _ ha1;have nap:a≠pa:=aW ha5 hpa5 (by intro z; cases z);have fpa:H pa=none:=by
   cases zz:H pa with
   | none=>rfl
   | some o=>
    rw [u1 pa o zz (Ne.symm nap)] at fpa1;cases fpa1
  refine ⟨_,rfl,a,CW,dx,_,rfl,ha5,T.cl,T.nA,(by show 2<1000; decide),?_⟩;refine ⟨_,rfl,a,CW,dx,_,rfl,ae,T.cl,T.nP,(by show 3<1000; decide),?_⟩;rw [bQ];refine ⟨_,rfl,a,CW,dx,_,rfl,ae,T.cl,T.nN,(by show 4<1000; decide),?_⟩;rw [bQ];refine ⟨_,rfl,a,CW,dx,_,rfl,ae,T.cl,T.nD,(by show 5<1000; decide),?_⟩;rw [bQ];have u6:aI a H5 (upd H5 a (.ins CW dx (wf ca wa pa true 0 0))):=bu;have uH:aI a H (upd H5 a (.ins CW dx (wf ca wa pa true 0 0))):=(u1.trans (aI.of s15)).trans u6;have uB:aI a H (but pa (upd H5 a (.ins CW dx (wf ca wa pa true 0 0)))):=fun b o e n=>aR (ak e fpa) (uH b o e n);refine k (upd H5 a (.ins CW dx (wf ca wa pa true 0 0))) pa ⟨⟨dx,[t],ae,?_,?_⟩,cO.cR hc ha nca uB,uB _ _ hwa (aW hwa ha (by intro z; cases z)),nca⟩ fpa uH
  ·rw [aq (Ne.symm nap)];exact hpa5
  ·refine .cons (q:=pl) (aR (aW ht5 hpa5 (by intro z; cases z)) ?_) (aR npl ?_) .nil
   ·rw [aq (aW ht5 ha5 (by intro z; cases z))];exact ht5
   ·rw [aq (aW hpl5 ha5 (by intro z; cases z))];exact hpl5
def R9(CW CK:Addr):Sp:=fun vs H Q _=>∃ (a ca pt wa pa:Addr) (c:Vbenab.Code) (s:List Nat) (st:List (Nat×List Nat)) (p:Bool) (nd dp:Nat),vs=[.ref a]∧WkO CW CK H a ca pt wa pa c s st p nd dp∧Q (.bl st.isEmpty) H
theorem UU:ax ["self"] ["self"] (ao mWO):=⟨rfl,rfl,rfl,by decide +kernel,rfl,by decide +kernel,by decide +kernel⟩
theorem Sa{f CW CK:Addr}{fd:FuncData}(F:Fun K "over" "Walk.over" mWO f fd)(T:TWk K CW)(hL:mg "len"=none):aF P w K mg base CX0 1 f fd ["self"] (R9 CW CK):=by
 refine F.ok UU (fun vs H Q E h=>?_) (fun cdv A outer s H vs Q E hr h=>?_)
 ·obtain ⟨a,ca,pt,wa,pa,c,sv,st,p,n1,dp,rfl,_⟩:=h;rfl
 ·obtain ⟨a,ca,pt,wa,pa,c,sv,st,p,n1,dp,rfl,⟨⟨dx,ts,h1,h2,h3⟩,h4,h5,h6⟩,k⟩:=h;refine ⟨_,ai (ay (eL dH (aJ aC (by rfl) hL PySem.boot_len (aa (aB (pv 0) rfl) ah)) au (aN _))),?_⟩;refine ⟨_,rfl,a,CW,dx,_,_,rfl,h1,T.cl,T.nA,Jy _ _ _ _ _ _,pa,_,rfl,.inl (SqL.of h2),rfl,?_⟩;have e:decide (V.int ((ts.reverse.map V.ref).length:Int)=V.int 0)=st.isEmpty:=by
   rw [length_map,length_reverse,h3.len,Bool.eq_iff_iff,decide_eq_true_eq,isEmpty_iff,← length_eq_zero_iff];exact ⟨fun z=>b8 (b:=0) z,fun z=>by rw [z]; rfl⟩
  rw [e];exact k
end
def Up2(a p:Addr)(H H':Hp):Prop:=∀ b o,H b=some o→b≠a→b≠p→H' b=some o
theorem Up2.of{a p:Addr}{H H':Hp}(s:aj H H'):Up2 a p H H':=fun b o e _ _=>s b o e
theorem Up2.trans{a p:Addr}{H H1 H2:Hp}(u:Up2 a p H H1)(v:Up2 a p H1 H2):Up2 a p H H2:=fun b o e n1 n2=>v b o (u b o e n1 n2) n1 n2
theorem Up2.a{a p:Addr}{H:Hp}{o:HO}:Up2 a p H (upd H a o):=fun b u e n1 _=>by rw [aq n1]; exact e
theorem Up2.p{a p:Addr}{H:Hp}{o:HO}:Up2 a p H (upd H p o):=fun b u e _ n2=>by rw [aq n2]; exact e
theorem pN(t:Addr)(ts:List Addr):((t::ts).reverse).map V.ref=ts.reverse.map V.ref++[V.ref t]:=by rw [reverse_cons,map_append]; rfl
theorem Fi{xs:List V}{y:V}:(xs++[y])[(xs++[y]).length-1]? = some y:=by
 rw [length_append];show (xs++[y])[xs.length+1-1]? = _;rw [add_sub_cancel,List.getElem?_concat_length]
theorem Jz(ca wa pa:Addr)(p q:Bool)(nd dp:Nat):cn "parts" (.bl q) (wf ca wa pa p nd dp)=wf ca wa pa q nd dp:=rfl
theorem JA(ca wa pa:Addr)(p:Bool)(nd dp d:Nat):cn "depth" (.int (d:Int)) (wf ca wa pa p nd dp)=wf ca wa pa p nd d:=rfl
theorem Mw(ca wa pa:Addr)(p:Bool)(nd dp:Nat):cn "needlings" (.int ((nd:Int)+1)) (wf ca wa pa p nd dp)=wf ca wa pa p (nd+1) dp:=by
 rw [show ((nd:Int)+1)=((nd+1:Nat):Int) by omega];rfl
section
variable {P:Program}{w:World}{K:PySem.W.Frag}{mg:Str→Option Value}{base:Heap}
def Po(CW CK:Addr):Sp:=fun vs H Q _=>∃ (a ca pt wa pa:Addr) (c:Vbenab.Code) (s:List Nat) (d:Nat) (vl:List Nat) (st:List (Nat×List Nat)) (p:Bool) (nd dp:Nat) (y:Bool),vs=[.ref a,.bl y]∧WkO CW CK H a ca pt wa pa c s ((d,vl)::st) p nd dp ∧
 ∀ H':Hp,WkO CW CK H' a ca pt wa pa c s st (p&&vl.all fun v=>y==s.contains v) nd (max dp d)→Up2 a pa H H'→Q .non H'
theorem Sb:ax ["self","yes","here","value"] ["self","yes"] (ao mWC):=⟨rfl,rfl,rfl,by decide +kernel,rfl,by decide +kernel,by decide +kernel⟩
theorem Se{f CW CK:Addr}{fd:FuncData}(F:Fun K "come_to" "Walk.come_to" mWC f fd)(T:TWk K CW)(hX:mg "max"=none):aF P w K mg base CX0 1 f fd ["self","yes"] (Po CW CK):=by
 refine F.ok Sb (fun vs H Q E h=>?_) (fun cdv A outer s H vs Q E hr h=>?_)
 ·obtain ⟨a,ca,pt,wa,pa,c,sv,d,vl,st,p,n1,dp,y,rfl,_⟩:=h;rfl
 ·obtain ⟨a,ca,pt,wa,pa,c,sv,d,vl,st,p,n1,dp,y,rfl,x,k⟩:=h;have nd:=Sb.nd;obtain ⟨⟨dx,ts,h1,h2,h3⟩,h4,h5,h6⟩:=id x;refine ⟨_,ag (az (i:=2) nd rfl (Or.inl rfl) (BI plainAttrs_list slot_list_pop type_list_pop BL (aB (pv 0) rfl)))
   (ag (b9 (pv 0) (aJ (wk rfl) (by rfl) hX Jv (aa (aB (pv 0) rfl) (aa (aQ e7 (pv 2) au (fun _ _=>rfl)) ah))) rfl)
   (ai (cu PassesOwn.never rfl (cI (aQ e7 (pv 2) au (fun _ _=>rfl))) (aM (i:=3) nd rfl (Or.inl rfl))
    (ai (a0 (aK sM (eL p8 (pv 3) (aB (pv 0) rfl) (by with_unfolding_all rfl)) (pv 1) (aN _)) (ai (b9 (pv 0) oC rfl)) aO))))),?_⟩
  cases h3 with
  | cons ht hq hr3=>
  rename_i t q ts'
  rw [pN] at h2;have nta:t≠pa:=(cC ht).1;have nqa:q≠pa:=(cC hq).1;refine ⟨_,rfl,a,CW,dx,_,_,rfl,h1,T.cl,T.nA,Jy _ _ _ _ _ _,.inl ⟨rfl,_,SqL.of h2⟩,pa,_,_,rfl,rfl,h2,Fi,?_⟩;rw [List.dropLast_concat];have x1:=x.ahead hr3;have u1:Up2 a pa H (upd H pa (.lst (ts'.reverse.map V.ref))):=Up2.p;have ht1:(upd H pa (.lst (ts'.reverse.map V.ref))) t=some (.tup [.int (d:Int),.ref q]):=by rw [aq nta]; exact (cC ht).2
  have hq1:(upd H pa (.lst (ts'.reverse.map V.ref))) q=some (.lst (vzs vl)):=by rw [aq nqa]; exact (cC hq).2
  have na:a≠pa:=aW h1 h2 (by intro z; cases z);have h11:(upd H pa (.lst (ts'.reverse.map V.ref))) a=some (.ins CW dx (wf ca wa pa p n1 dp)):=by rw [aq na]; exact h1
  generalize upd H pa (.lst (ts'.reverse.map V.ref))=H1 at x1 u1 ht1 hq1 h11;refine ⟨_,rfl,a,CW,dx,_,_,rfl,h11,T.cl,T.nD,Pl _ _ _ _ _ _,_,rfl,t,_,_,_,rfl,rfl,SqT.of ht1,at_of (j:=0) (v:=.int (d:Int)) rfl rfl,_,_,rfl,_,rfl,a,CW,dx,_,rfl,h11,T.cl,T.nD,(by show 6<1000; decide),?_⟩;rw [show (if (d:Int) > (dp:Int) then (d:Int) else (dp:Int))=((max dp d:Nat):Int) by split <;> omega,JA];have x2:=x1.fields (p':=p) (nd':=n1) (dp':=max dp d) h11;have u2:Up2 a pa H (upd H1 a (.ins CW dx (wf ca wa pa p n1 (max dp d)))):=u1.trans Up2.a;have ht2:(upd H1 a (.ins CW dx (wf ca wa pa p n1 (max dp d)))) t=some (.tup [.int (d:Int),.ref q]):=by rw [aq (aW ht1 h11 (by intro z; cases z))]; exact ht1
  have nqa2:q≠a:=aW hq1 h11 (by intro z; cases z);have hq2:(upd H1 a (.ins CW dx (wf ca wa pa p n1 (max dp d)))) q=some (.lst (vzs vl)):=by rw [aq nqa2]; exact hq1
  generalize upd H1 a (.ins CW dx (wf ca wa pa p n1 (max dp d)))=H2 at x2 u2 ht2 hq2;refine ⟨_,rfl,t,_,_,_,rfl,rfl,SqT.of ht2,at_of (j:=1) (v:=.ref q) rfl rfl,q,rfl,⟨_,SqL.of hq2⟩,jI (K:=K) (a:=q) (xs:=vzs vl) (fun i σ H'=>∃ v3:Option V,σ=[some (.ref a),some (.bl y),some (.ref t),v3]∧WkO CW CK H' a ca pt wa pa c sv st (p&&(vl.take i).all fun v=>y==sv.contains v) n1 (max dp d)∧Up2 a pa H H'∧H' q=some (.lst (vzs vl)))
   ⟨none,rfl,by rw [take_zero,all_nil,Bool.and_true]; exact x2,u2,hq2⟩ (fun i σ H' _ ⟨_,_,_,_,z⟩=>SqL.of z) ?_ ?_⟩
  ·rintro i xv σ H3 hi ⟨v3,rfl,x3,u3,hq3⟩;obtain ⟨v,hv,rfl⟩:=de hi;obtain ⟨⟨dx3,ts3,g1,g2,g3⟩,g4,g5,g6⟩:=id x3;have hwa:=(cC g5).2;refine ⟨_,rfl,_,rfl,a,CW,dx3,_,_,rfl,g1,T.cl,T.nW,UQ _ _ _ _ _ _,wa,_,rfl,.inl (SqL.of hwa),rfl,tZ _,_,rfl,rfl,_,rfl,?_⟩;have eall:(p&&(vl.take (i+1)).all fun v=>y==sv.contains v)=((p&&(vl.take i).all fun v=>y==sv.contains v)&&(y==sv.contains v)):=by
    rw [take_snoc hv,List.all_append,all_cons,all_nil,Bool.and_true,Bool.and_assoc]
   have ed:(!decide (V.bl (inV (.int (v:Int)) (vzs sv))=V.bl y)) = !(y==sv.contains v):=by
    rw [yy];congr 1;rw [Bool.eq_iff_iff,decide_eq_true_eq,beq_iff_eq];exact ⟨fun z=>by injection z with z; exact z.symm,fun z=>by rw [z]⟩
   show if (!decide (V.bl (inV (.int (v:Int)) (vzs sv))=V.bl y))=true then _ else _
   rw [ed,eall];cases hy:(y==sv.contains v) with
   | true=>
    refine b0 ⟨_,rfl,?_,u3,hq3⟩;rw [Bool.and_true];exact x3
   | false=>
    refine bz ⟨_,rfl,a,CW,dx3,_,rfl,g1,T.cl,T.nP,(by show 6<1000; decide),?_⟩;rw [Jz];refine ⟨_,rfl,?_,u3.trans Up2.a,by rw [aq nqa2]; exact hq3⟩;rw [Bool.and_false];exact x3.fields g1
  ·rintro σ H3 ⟨v3,rfl,x3,u3,hq3⟩;rw [length_map,length_map,take_length] at x3;exact k H3 x3 u3
end
theorem qv{c:Vbenab.Code}{v:Nat}(h:v<(codeWords c).length):(vzs ((codeWords c).map mask))[v]? = some (.int ((mask (wd (codeWords c) v):Nat):Int)):=by
 refine jb ?_;rw [getElem?_map,getElem?_eq_getElem h];unfold wd;rw [getD_eq_getElem?_getD,getElem?_eq_getElem h];rfl
theorem JB{c:Vbenab.Code}(g:GoodC c){v:Nat}(h:v<(codeWords c).length):aX c.holes 1 (wd (codeWords c) v):=dc g.gw h
section
variable {P:Program}{w:World}{K:PySem.W.Frag}{mg:Str→Option Value}{base:Heap}
def Sf(CW CK:Addr):Sp:=fun vs H Q _=>∃ (a ca pt wa pa:Addr) (c:Vbenab.Code) (s:List Nat) (d:Nat) (vl:List Nat) (st:List (Nat×List Nat)) (p:Bool) (nd dp h:Nat),vs=[.ref a,.int (h:Int)]∧1≤h∧h≤c.holes∧GoodC c∧WkO CW CK H a ca pt wa pa c s ((d,vl)::st) p nd dp∧(∀ v∈vl,v<(codeWords c).length)∧vl.length≤70∧st.length≤1000 ∧
 ∀ H':Hp,WkO CW CK H' a ca pt wa pa c s ((d+1,oY (codeWords c) h vl)::(d+1,oZ (codeWords c) h vl)::st) p (nd+1) dp→Up2 a pa H H'→Q .non H'
theorem Sg:ax ["self","hole","here","notch","staying","falling","value"] ["self","hole"] (ao mWN):=⟨rfl,rfl,rfl,by decide +kernel,rfl,by decide +kernel,by decide +kernel⟩
theorem Sh{f CW CK:Addr}{fd:FuncData}(F:Fun K "needle" "Walk.needle" mWN f fd)(T:TWk K CW)(TKc:TK K CK)(DA:Dn P w K mg base CX0 1 "notch_at" ["hole"] eV):aF P w K mg base CX0 2 f fd ["self","hole"] (Sf CW CK):=by
 obtain ⟨fn,fdn,gN,hN,kN,bN⟩:=DA;refine F.ok Sg (fun vs H Q E h=>?_) (fun cdv A outer s H vs Q E hr h=>?_)
 ·obtain ⟨a,ca,pt,wa,pa,c,sv,d,vl,st,p,n1,dp,h,rfl,_⟩:=h;rfl
 ·obtain ⟨a,ca,pt,wa,pa,c,sv,d,vl,st,p,n1,dp,h,rfl,hh1,hh2,gc,x,hvl,hlen,hst,k⟩:=h;have nd:=Sg.nd;obtain ⟨⟨dx,ts,h1,h2,h3⟩,h4,h5,h6⟩:=id x;refine ⟨_,ag (az (i:=2) nd rfl (Or.inl rfl) (BI plainAttrs_list slot_list_pop type_list_pop BL (aB (pv 0) rfl)))
   (ag (eQ (pv 0) au pZ)
   (ag (az (i:=3) nd rfl (by first | exact Or.inl rfl | exact Or.inr rfl) (aD gN hr rfl hN kN bN .nil aE (aa (pv 1) ah)))
   (ag (oN (i:=4) (own:=[("value",6)]) rfl nd rfl rfl (rZ rfl rfl rfl rfl) (cI (aQ e7 (pv 2) au (fun _ _=>rfl))) (cy (by show lQ ["self","hole","here","notch","staying","falling","value"] (ao mWN) _ _=true; decide +kernel)) (fun s H C cl fp=>aM (i:=6) nd rfl (Or.inl rfl))
    (fun s H C cl fp=>oM (aK dH (aU pW (aQ (aG:IxR _ (rD K)) (aB (aB (pv 0) rfl:PE _ _ (FH K _ _)) rfl:PE _ _ (FH K _ _)) (pv 6) (fun _ _=>rfl)) (pv 3)) au (aN _))) (fun s H C cl fp=>pv 6))
   (ag (oN (i:=5) (own:=[("value",6)]) rfl nd rfl rfl (rZ rfl rfl rfl rfl) (cI (aQ e7 (pv 2) au (fun _ _=>rfl))) (cy (by show lQ ["self","hole","here","notch","staying","falling","value"] (ao mWN) _ _=true; decide +kernel)) (fun s H C cl fp=>aM (i:=6) nd rfl (Or.inl rfl))
    (fun s H C cl fp=>oM (aK sM (aU pW (aQ (aG:IxR _ (rD K)) (aB (aB (pv 0) rfl:PE _ _ (FH K _ _)) rfl:PE _ _ (FH K _ _)) (pv 6) (fun _ _=>rfl)) (pv 3)) au (aN _))) (fun s H C cl fp=>pv 6))
   (ag (aV (c5 plainAttrs_list PySem.F.slot_list_append PySem.F.type_list_append br (aB (pv 0) rfl) (aa (p7 (aa (aU cz (aQ e7 (pv 2) au (fun _ _=>rfl)) au) (aa (pv 5) ah))) ah)))
   (ai (aV (c5 plainAttrs_list PySem.F.slot_list_append PySem.F.type_list_append br (aB (pv 0) rfl) (aa (p7 (aa (aU cz (aQ e7 (pv 2) au (fun _ _=>rfl)) au) (aa (pv 4) ah))) ah))))))))),?_⟩
  cases h3 with
  | cons ht hq hr3=>
  rename_i t q ts'
  have htl:=hr3.len;rw [pN] at h2;have nta:t≠pa:=(cC ht).1;have nqa:q≠pa:=(cC hq).1;refine ⟨_,rfl,a,CW,dx,_,_,rfl,h1,T.cl,T.nA,Jy _ _ _ _ _ _,.inl ⟨rfl,_,SqL.of h2⟩,pa,_,_,rfl,rfl,h2,Fi,?_⟩;rw [List.dropLast_concat];have x1:=x.ahead hr3;have u1:Up2 a pa H (upd H pa (.lst (ts'.reverse.map V.ref))):=Up2.p;have ht1:(upd H pa (.lst (ts'.reverse.map V.ref))) t=some (.tup [.int (d:Int),.ref q]):=by rw [aq nta]; exact (cC ht).2
  have hq1:(upd H pa (.lst (ts'.reverse.map V.ref))) q=some (.lst (vzs vl)):=by rw [aq nqa]; exact (cC hq).2
  have na:a≠pa:=aW h1 h2 (by intro z; cases z);have h11:(upd H pa (.lst (ts'.reverse.map V.ref))) a=some (.ins CW dx (wf ca wa pa p n1 dp)):=by rw [aq na]; exact h1
  have hr31:aT (but pa (upd H pa (.lst (ts'.reverse.map V.ref)))) ts' st:=by rw [cb]; exact hr3
  have hpa1:(upd H pa (.lst (ts'.reverse.map V.ref))) pa=some (.lst (ts'.reverse.map V.ref)):=ae;generalize upd H pa (.lst (ts'.reverse.map V.ref))=H1 at x1 u1 ht1 hq1 h11 hr31 hpa1;refine ⟨_,rfl,a,CW,dx,_,_,rfl,h11,T.cl,T.nN,Pk _ _ _ _ _ _,_,_,rfl,rfl,dx,_,h11,(by show 6<1000; decide),?_⟩;rw [Mw];have x2:=x1.fields (p':=p) (nd':=n1+1) (dp':=dp) h11;have u2:Up2 a pa H (upd H1 a (.ins CW dx (wf ca wa pa p (n1+1) dp))):=u1.trans Up2.a;have ht2:(upd H1 a (.ins CW dx (wf ca wa pa p (n1+1) dp))) t=some (.tup [.int (d:Int),.ref q]):=by rw [aq (aW ht1 h11 (by intro z; cases z))]; exact ht1
  have hq2:(upd H1 a (.ins CW dx (wf ca wa pa p (n1+1) dp))) q=some (.lst (vzs vl)):=by rw [aq (aW hq1 h11 (by intro z; cases z))]; exact hq1
  have h12:(upd H1 a (.ins CW dx (wf ca wa pa p (n1+1) dp))) a=some (.ins CW dx (wf ca wa pa p (n1+1) dp)):=ae;have hpa2:(upd H1 a (.ins CW dx (wf ca wa pa p (n1+1) dp))) pa=some (.lst (ts'.reverse.map V.ref)):=by rw [aq (Ne.symm na)]; exact hpa1
  have hr32:aT (but pa (upd H1 a (.ins CW dx (wf ca wa pa p (n1+1) dp)))) ts' st:=aT.cR (aR na h11) (fun _ z=>nomatch z) (fun _ z=>nomatch z) (dw bu) hr31;generalize upd H1 a (.ins CW dx (wf ca wa pa p (n1+1) dp))=H2 at x2 u2 ht2 hq2 h12 hr32 hpa2;obtain ⟨dxc,pn,pq,pd,rn,o1,o2,o3,o4,o5⟩:=x2.co.ex;have o1':=(cC o1).2;have o4':=(cC o4).2;have hc8:=gc.gw.hn;refine ⟨_,rfl,h,rfl,hh1,by omega,?_⟩;have tst:∀ {v:Nat},v<(codeWords c).length→Builtin.bitAnd ((mask (wd (codeWords c) v):Nat):Int) ((bit h:Nat):Int)=((mask (wd (codeWords c) v) &&& bit h:Nat):Int):=fun _=>lF _ _;have tz:∀ {v:Nat},v<(codeWords c).length→decide (V.int ((mask (wd (codeWords c) v) &&& bit h:Nat):Int)=V.int 0) = !(wd (codeWords c) v).contains h:=fun {v} hv=>by
   have m2:=(EJ (JB gc hv) hc8 hh1 hh2).2.1;rw [← m2,Bool.eq_iff_iff,decide_eq_true_eq];cases hz:(mask (wd (codeWords c) v) &&& bit h != 0) with
   | true=>
    refine ⟨fun z=>?_,fun z=>absurd z (by decide)⟩;have:=b8 (b:=0) z;rw [this] at hz;exact absurd hz (by decide)
   | false=>
    refine ⟨fun _=>rfl,fun _=>?_⟩;have:mask (wd (codeWords c) v) &&& bit h=0:=by simpa using hz
    rw [this];rfl
  refine ⟨_,rfl,t,_,_,_,rfl,rfl,SqT.of ht2,at_of (j:=1) (v:=.ref q) rfl rfl,q,rfl,⟨_,SqL.of hq2⟩,fun D1 hD1=>?_⟩;refine iT (K:=K) (a:=q) (xs:=vzs vl) (fun i H'=>H'=upd H2 D1 (.lst (vzs ((vl.take i).filter fun v=>!(wd (codeWords c) v).contains h)))) rfl (fun i H' _ e=>by rw [e]; exact SqL.of (aj.new hD1 _ _ hq2)) (fun i xv H' hx e=>?_) fun H' e=>?_
  ·obtain ⟨v,hv,rfl⟩:=de hx;have hvc:=hvl v (mem_of_getElem? hv);have sx:aj H2 H':=by rw [e]; exact aj.new hD1
   refine ⟨rfl,?_⟩;refine ⟨_,rfl,a,CW,dx,_,_,rfl,sx _ _ h12,T.cl,T.nC,R6 _ _ _ _ _ _,ca,CK,dxc,_,_,rfl,sx _ _ o1',TKc.cl,TKc.nQ,pH _ _ _ _ _ _,_,rfl,pq,_,_,_,rfl,rfl,SqL.of (sx _ _ o4'),at_of rfl (qv hvc),_,rfl,_,_,rfl,rfl,rfl,_,rfl,?_⟩;show if decide (V.int (Builtin.bitAnd ((mask (wd (codeWords c) v):Nat):Int) ((bit h:Nat):Int))=V.int 0)=true then _ else _
   rw [tst hvc,tz hvc,take_snoc hv,filter_append];cases hb:(wd (codeWords c) v).contains h with
   | false=>
    refine bz ⟨_,rfl,_,by rw [e]; exact ae,?_,?_⟩
    ·rw [length_map,length_map,sizeLine_eq];have a1:=length_filter_le (fun v=>!(wd (codeWords c) v).contains h) (vl.take i);rw [length_take] at a1;omega
    ·rw [e,bQ,filter_cons_of_pos (p:=fun v=>!(wd (codeWords c) v).contains h) (a:=v) (by show (!(wd (codeWords c) v).contains h)=true; rw [hb]; rfl),filter_nil,bj]
   | true=>
    refine b0 ?_;rw [filter_cons_of_neg (p:=fun v=>!(wd (codeWords c) v).contains h) (a:=v) (by show ¬ (!(wd (codeWords c) v).contains h)=true; rw [hb]; decide),filter_nil,append_nil];exact e
  rw [length_map,length_map,take_length] at e;have s3:aj H2 H':=by rw [e]; exact aj.new hD1
  have hD1':H' D1=some (.lst (vzs (oY (codeWords c) h vl))):=by rw [e]; exact ae
  refine ⟨_,rfl,t,_,_,_,rfl,rfl,SqT.of (s3 _ _ ht2),at_of (j:=1) (v:=.ref q) rfl rfl,q,rfl,⟨_,SqL.of (s3 _ _ hq2)⟩,fun D2 hD2=>?_⟩;refine iT (K:=K) (a:=q) (xs:=vzs vl) (fun i H4=>H4=upd H' D2 (.lst (vzs ((vl.take i).filter fun v=>(wd (codeWords c) v).contains h)))) rfl (fun i H4 _ e=>by rw [e]; exact SqL.of (aj.new hD2 _ _ (s3 _ _ hq2))) (fun i xv H4 hx e=>?_) fun H4 e=>?_
  ·obtain ⟨v,hv,rfl⟩:=de hx;have hvc:=hvl v (mem_of_getElem? hv);have sx:aj H2 H4:=s3.trans (by rw [e]; exact aj.new hD2);refine ⟨rfl,?_⟩;refine ⟨_,rfl,a,CW,dx,_,_,rfl,sx _ _ h12,T.cl,T.nC,R6 _ _ _ _ _ _,ca,CK,dxc,_,_,rfl,sx _ _ o1',TKc.cl,TKc.nQ,pH _ _ _ _ _ _,_,rfl,pq,_,_,_,rfl,rfl,SqL.of (sx _ _ o4'),at_of rfl (qv hvc),_,rfl,_,_,rfl,rfl,rfl,_,rfl,?_⟩;show if (!decide (V.int (Builtin.bitAnd ((mask (wd (codeWords c) v):Nat):Int) ((bit h:Nat):Int))=V.int 0))=true then _ else _
   rw [tst hvc,tz hvc,Bool.not_not,take_snoc hv,filter_append];cases hb:(wd (codeWords c) v).contains h with
   | true=>
    refine bz ⟨_,rfl,_,by rw [e]; exact ae,?_,?_⟩
    ·rw [length_map,length_map,sizeLine_eq];have a1:=length_filter_le (fun v=>(wd (codeWords c) v).contains h) (vl.take i);rw [length_take] at a1;omega
    ·rw [e,bQ,filter_cons_of_pos (p:=fun v=>(wd (codeWords c) v).contains h) (a:=v) hb,filter_nil,bj]
   | false=>
    refine b0 ?_;rw [filter_cons_of_neg (p:=fun v=>(wd (codeWords c) v).contains h) (a:=v) (by show ¬ ((wd (codeWords c) v).contains h)=true; rw [hb]; decide),filter_nil,append_nil];exact e
  rw [length_map,length_map,take_length] at e;have s4:aj H2 H4:=s3.trans (by rw [e]; exact aj.new hD2);have hD1'':H4 D1=some (.lst (vzs (oY (codeWords c) h vl))):=by rw [e,aq (ak hD1' hD2)]; exact hD1'
  have hD2':H4 D2=some (.lst (vzs (oZ (codeWords c) h vl))):=by rw [e]; exact ae
  have x4:=x2.same s4;have hpa4:=s4 _ _ hpa2;have nD1:D1≠pa:=fun z=>by rw [z,hpa2] at hD1; cases hD1
  have nD2:D2≠pa:=fun z=>by rw [z,s3 _ _ hpa2] at hD2; cases hD2
  have u4:=u2.trans (Up2.of s4);have hr34:=hr32.mono (cD s4);have ht4:=s4 _ _ ht2;have h14:=s4 _ _ h12;have ed:((d:Int)+1)=((d+1:Nat):Int):=by omega
  refine ⟨_,rfl,a,CW,dx,_,_,rfl,h14,T.cl,T.nA,Jy _ _ _ _ _ _,.inl ⟨rfl,_,SqL.of hpa4⟩,_,rfl,t,_,_,_,rfl,rfl,SqT.of ht4,at_of (j:=0) (v:=.int (d:Int)) rfl rfl,_,_,rfl,rfl,_,rfl,by show 2≤sizeLine; decide,fun t1 ht1n=>?_⟩;have s5:aj H4 (upd H4 t1 (.tup [.int ((d:Int)+1),.ref D2])):=aj.new ht1n;refine ⟨pa,ts'.reverse.map V.ref,_,rfl,rfl,aj.new ht1n _ _ hpa4,by rw [length_map,length_reverse,htl,sizeLine_eq]; omega,?_⟩;have nt1:t1≠pa:=fun z=>by rw [z,hpa4] at ht1n; cases ht1n
  have w5:aT (but pa (upd H4 t1 (.tup [.int ((d:Int)+1),.ref D2]))) (t1::ts') ((d+1,oZ (codeWords c) h vl)::st):=.cons (q:=D2) (by rw [← ed]; exact aR nt1 ae) (aR nD2 (s5 _ _ hD2')) (hr34.mono (cD s5));have x5:=(x4.same s5).ahead w5;rw [pN] at x5;have u5:Up2 a pa H (upd (upd H4 t1 (.tup [.int ((d:Int)+1),.ref D2])) pa (.lst (ts'.reverse.map V.ref++[V.ref t1]))):=(u4.trans (Up2.of s5)).trans Up2.p;have hpa5:(upd (upd H4 t1 (.tup [.int ((d:Int)+1),.ref D2])) pa (.lst (ts'.reverse.map V.ref++[V.ref t1]))) pa=some (.lst (ts'.reverse.map V.ref++[V.ref t1])):=ae;have h15:(upd (upd H4 t1 (.tup [.int ((d:Int)+1),.ref D2])) pa (.lst (ts'.reverse.map V.ref++[V.ref t1]))) a=some (.ins CW dx (wf ca wa pa p (n1+1) dp)):=by rw [aq na]; exact s5 _ _ h14
  have ht5:(upd (upd H4 t1 (.tup [.int ((d:Int)+1),.ref D2])) pa (.lst (ts'.reverse.map V.ref++[V.ref t1]))) t=some (.tup [.int (d:Int),.ref q]):=by rw [aq nta]; exact s5 _ _ ht4
  have hD15:(upd (upd H4 t1 (.tup [.int ((d:Int)+1),.ref D2])) pa (.lst (ts'.reverse.map V.ref++[V.ref t1]))) D1=some (.lst (vzs (oY (codeWords c) h vl))):=by rw [aq nD1]; exact s5 _ _ hD1''
  have w5':aT (but pa (upd (upd H4 t1 (.tup [.int ((d:Int)+1),.ref D2])) pa (.lst (ts'.reverse.map V.ref++[V.ref t1])))) (t1::ts') ((d+1,oZ (codeWords c) h vl)::st):=by rw [cb]; exact w5
  generalize upd (upd H4 t1 (.tup [.int ((d:Int)+1),.ref D2])) pa (.lst (ts'.reverse.map V.ref++[V.ref t1]))=H5 at x5 u5 hpa5 h15 ht5 hD15 w5';refine ⟨_,rfl,a,CW,dx,_,_,rfl,h15,T.cl,T.nA,Jy _ _ _ _ _ _,.inl ⟨rfl,_,SqL.of hpa5⟩,_,rfl,t,_,_,_,rfl,rfl,SqT.of ht5,at_of (j:=0) (v:=.int (d:Int)) rfl rfl,_,_,rfl,rfl,_,rfl,by show 2≤sizeLine; decide,fun t2 ht2n=>?_⟩;have s6:aj H5 (upd H5 t2 (.tup [.int ((d:Int)+1),.ref D1])):=aj.new ht2n;refine ⟨pa,ts'.reverse.map V.ref++[V.ref t1],_,rfl,rfl,aj.new ht2n _ _ hpa5,by rw [length_append,length_map,length_reverse,htl,sizeLine_eq]; show st.length+1<_; omega,?_⟩;have nt2:t2≠pa:=fun z=>by rw [z,hpa5] at ht2n; cases ht2n
  have w6:aT (but pa (upd H5 t2 (.tup [.int ((d:Int)+1),.ref D1]))) (t2::t1::ts') ((d+1,oY (codeWords c) h vl)::(d+1,oZ (codeWords c) h vl)::st):=.cons (q:=D1) (by rw [← ed]; exact aR nt2 ae) (aR nD1 (s6 _ _ hD15)) (w5'.mono (cD s6));have x6:=(x5.same s6).ahead w6;rw [pN,pN] at x6;exact k _ x6 ((u5.trans (Up2.of s6)).trans Up2.p)
end
abbrev yI:Stmt:=top 43
theorem UW:(("over":Str)==("code":Str))=false∧(("over":Str)==("wanted":Str))=false∧(("over":Str)==("ahead":Str))=false∧(("over":Str)==("parts":Str))=false∧(("over":Str)==("needlings":Str))=false∧(("over":Str)==("depth":Str))=false:=by decide +kernel
theorem Si:(("come_to":Str)==("code":Str))=false∧(("come_to":Str)==("wanted":Str))=false∧(("come_to":Str)==("ahead":Str))=false∧(("come_to":Str)==("parts":Str))=false∧(("come_to":Str)==("needlings":Str))=false∧(("come_to":Str)==("depth":Str))=false:=by decide +kernel
theorem UX:(("needle":Str)==("code":Str))=false∧(("needle":Str)==("wanted":Str))=false∧(("needle":Str)==("ahead":Str))=false∧(("needle":Str)==("parts":Str))=false∧(("needle":Str)==("needlings":Str))=false∧(("needle":Str)==("depth":Str))=false:=by decide +kernel
theorem fj{a b:Int}:decide (V.int a=V.int b)=decide (a=b):=by
 rw [decide_eq_decide];exact ⟨fun h=>by injection h,fun h=>by rw [h]⟩
theorem drop_cons{α:Type}{t:List α}{i:Nat}{x : α}{r:List α}(h:t.drop i=x::r):t[i]? = some x∧t.drop (i+1)=r∧i<t.length:=by
 have hl:i<t.length:=by
  cases lt_or_ge i t.length with
  | inl z=>exact z
  | inr z=>
   rw [drop_eq_nil_of_le z] at h;cases h
 rw [drop_eq_getElem_cons hl] at h;injection h with h1 h2;exact ⟨by rw [getElem?_eq_getElem hl,h1],h2,hl⟩
section
variable {P:Program}{w:World}{K:PySem.W.Frag}{mg:Str→Option Value}{base:Heap}
structure GWk(P:Program)(w:World)(K:PySem.W.Frag)(mg:Str→Option Value)(base:Heap)(CW CK:Addr):Prop where
 cl:TWk K CW
 ov:∃ f fd,aF P w K mg base CX0 1 f fd ["self"] (R9 CW CK)∧Meth K CW "over" f∧L2.Binds K fd ["self"] []
 ct:∃ f fd,aF P w K mg base CX0 1 f fd ["self","yes"] (Po CW CK)∧Meth K CW "come_to" f∧L2.Binds K fd ["self","yes"] []
 ne:∃ f fd,aF P w K mg base CX0 2 f fd ["self","hole"] (Sf CW CK)∧Meth K CW "needle" f∧L2.Binds K fd ["self","hole"] []
def uu(CW CK:Addr):Sp:=fun vs H Q E=>∃ (ra ca pt wa:Addr) (t:List Int) (c:Vbenab.Code) (s:List Nat),vs=[.ref ra,.ref ca,.ref wa]∧H ra=some (.lst (t.map V.int))∧t.length≤500∧l8 CK H ca pt c∧GoodC c∧H wa=some (.lst (vzs s)) ∧
 match lB c s t with
 | some (p,nd,dp)=>∀ (H':Hp) (a pa dx:Addr),H' a=some (.ins CW dx (wf ca wa pa p nd dp))→aj H H'→Q (.ref a) H'
 | none=>∀ (H':Hp) (ea:Addr) (d:Option Addr),aj H H'→E (.ref ea) d H'
theorem AI:ax ["row","code","wanted","walk","place"] ["row","code","wanted"] (ao yI):=⟨rfl,rfl,rfl,by decide +kernel,rfl,by decide +kernel,by decide +kernel⟩
theorem GF{f CW CK CN fI:Addr}{fd fdI:FuncData}(F:Fun K "walked" "walked" yI f fd)(G:GWk P w K mg base CW CK)(TKc:TK K CK)(TNn:TN K mg CN fI)(FI:Fun K "__init__" "NotATree.__init__" mNI fI fdI)(bI:L2.Binds K fdI ["self"] [])(Tt:TTr mg)(hL:mg "len"=none)
  (DW:Cn P w K mg base 1 "Walk" CW ["self","code","wanted"] (Pn CW CK)):aF P w K mg base (CXF P w CN) 3 f fd ["row","code","wanted"] (uu CW CK):=by
 have GI:aF P w K mg base CX0 1 fI fdI ["self"] (Mv CN):=R7 FI TNn;obtain ⟨T,⟨fo,fdo,gO,mO,bO⟩,⟨fc,fdc,gC,mC,bC⟩,⟨fn,fdn,gN,mN,bN⟩⟩:=G;obtain ⟨fw,fdw,gW,mW,hW,bW⟩:=DW;refine yg F AI (fun vs H Q E h=>?_) (fun cdv A outer s H vs Q E hr h=>?_)
 ·obtain ⟨ra,ca,pt,wa,t,c,sv,rfl,_⟩:=h;rfl
 ·obtain ⟨ra,ca,pt,wa,t,c,sv,rfl,hra,htl,hc,gc,hwa,q⟩:=h;have nd:=AI.nd;have hr1:cM 1 _:=hr.mono (by decide);refine ⟨_,ag (az (i:=3) nd rfl (Or.inl rfl) (dU mW gW hr rfl hW bW .nil aE (aa (pv 1) (aa (pv 2) ah)))) (ag (az (i:=4) nd rfl (Or.inl rfl) au)
   (ag (cS PassesOwn.leaving (cq (bf (bb (pv 3) T.cl mO gO hr1 bO .nil aE)))
    (ag (a0 (aK dH (pv 4) (aJ aC (by rfl) hL PySem.boot_len (aa (pv 0) ah)) (aN _)) (ai (ly TNn.xm GI hr rfl bc (by rfl) TNn.at_ bI)) aO)
    (ag (a0 (aK dH (aQ aG (pv 0) (pv 4) (fun _ _=>rfl)) (aY Tt.ne) (aN _))
     (ag (mj (i:=4) nd rfl (Or.inl rfl) au xV)
     (ag (a0 (PW.pt (jB (aK dH (pv 4) (aJ aC (by rfl) hL PySem.boot_len (aa (pv 0) ah)) (aN _)) (jB (aK eZ (aQ aG (pv 0) (pv 4) (fun _ _=>rfl)) au (aN _)) (hJ (aK eJ (aQ aG (pv 0) (pv 4) (fun _ _=>rfl)) (aB (pv 1) rfl) (aN _))))))
      (ai (ly TNn.xm GI hr rfl bc (by rfl) TNn.at_ bI)) aO)
     (ai (aV (aZ (pv 3) T.cl mN gN hr bN .nil aE (aa (aQ aG (pv 0) (pv 4) (fun _ _=>rfl)) ah))))))
     (ai (a0 (PW.pt (jB (aK dH (aQ aG (pv 0) (pv 4) (fun _ _=>rfl)) (aY Tt.ye) (aN _)) (hJ (aK dH (aQ aG (pv 0) (pv 4) (fun _ _=>rfl)) (aY Tt.no) (aN _)))))
      (ai (aV (aZ (pv 3) T.cl mC gC hr1 bC .nil aE (aa (eL dH (aQ aG (pv 0) (pv 4) (fun _ _=>rfl)) (aY Tt.ye) (aN _)) ah))))
      (ai (ly TNn.xm GI hr rfl bc (by rfl) TNn.at_ bI)))))
    (ai (mj (i:=4) nd rfl (Or.inl rfl) au xV)))))
   (ag (a0 (aK eZ (pv 4) (aJ aC (by rfl) hL PySem.boot_len (aa (pv 0) ah)) (aN _)) (ai (ly TNn.xm GI hr rfl bc (by rfl) TNn.at_ bI)) aO)
   (ai (ay (pv 3)))))),?_⟩
  refine ⟨_,rfl,_,rfl,?_⟩;intro a dx na ndx nex;obtain ⟨R0,hR0⟩:∃ R0,R0=lB c sv t:=⟨_,rfl⟩;rw [← hR0] at q;have sm:aj H (upd (upd H dx (.own a)) a (.ins CW dx [])):=fun b o e=>by rw [aq (ak e na),aq (ak e ndx)]; exact e
  refine ⟨a,dx,ca,pt,wa,c,sv,rfl,ae,cO.same hc sm,gc,sm _ _ hwa,fun H1 pa x1 fpa u1=>⟨rfl,?_⟩⟩;have s1:aj H H1:=aj.made na ndx u1;have npa:H pa=none:=sm.free fpa;have up2:∀ {Ha Hb:Hp},aj H Ha→Up2 a pa Ha Hb→aj H Hb:=fun {Ha Hb} sa ub b o e=>ub b o (sa b o e) (ak e na) (ak e npa);have hc2:=gc.c2;have hlen:((t.map V.int).length:Int)=(t.length:Int):=by rw [length_map]
  refine ⟨fun m σ H'=>∃ (st:List (Nat×List Nat)) (p:Bool) (n1 dp place:Nat),σ=[some (.ref ra),some (.ref ca),some (.ref wa),some (.ref a),some (.int (place:Int))]∧WkO CW CK H' a ca pt wa pa c sv st p n1 dp∧aj H H'∧place≤t.length∧m=t.length-place∧R0=jS (codeWords c) sv (a9 c.holes st.length (t.drop place)) p n1 dp st∧(∀ y∈st,(∀ v∈y.2,v<(codeWords c).length)∧y.2.length≤70)∧st.length≤place+1,
   ⟨_,_,true,0,0,0,rfl,x1,s1,zero_le _,rfl,hR0,fun y hy=>?_,le_refl _⟩,?_⟩
  ·rw [mem_singleton.mp hy];exact ⟨fun v hv=>mem_range.mp hv,by show (List.range _).length≤70; rw [length_range]; exact hc2⟩
  rintro m σ H2 ⟨st,p,n1,dp,place,rfl,x2,s2,hpl,rfl,hR,hst,hsl⟩;obtain ⟨⟨dx2,ts2,g1,g2,g3⟩,g4,g5,g6⟩:=id x2;have hra2:=s2 _ _ hra;obtain ⟨dxc,pn,pq,pd,rn,o1,_⟩:=(cO.same hc s2).ex;refine ⟨_,rfl,a,dx2,_,rfl,g1,Fg UW,a,ca,pt,wa,pa,c,sv,st,p,n1,dp,rfl,x2,_,rfl,?_⟩;cases st with
  | nil=>
   refine b0 ?_;rw [show ([]:List (Nat×List Nat)).length=0 from rfl,Iq,length_drop] at hR;refine ⟨_,rfl,_,rfl,ra,_,rfl,.inl (SqL.of hra2),_,_,rfl,rfl,_,rfl,cg (fun hlt=>?_) fun hlt=>?_⟩
   ·rw [hlen] at hlt;rw [if_neg (by have:(place:Int)<(t.length:Int):=hlt; omega)] at hR;rw [hR] at q;exact ⟨zero_le _,Fh fun H' ea d s3=>q H' ea d (s2.trans s3)⟩
   ·rw [hlen] at hlt;rw [if_pos (by have:¬ (place:Int)<(t.length:Int):=hlt; omega)] at hR;rw [hR] at q;exact ⟨_,rfl,q H2 a pa dx2 g1 s2⟩
  | cons y st=>
   obtain ⟨d,vl⟩:=y;obtain ⟨hv1,hv2⟩:=hst (d,vl) mem_cons_self;rw [length_cons] at hsl hR;refine bz ?_;refine ⟨fun σ' H'=>∃ m',m'<t.length-place∧∃ (st:List (Nat×List Nat)) (p:Bool) (n1 dp place:Nat),σ'=[some (.ref ra),some (.ref ca),some (.ref wa),some (.ref a),some (.int (place:Int))]∧WkO CW CK H' a ca pt wa pa c sv st p n1 dp∧aj H H'∧place≤t.length∧m'=t.length-place∧R0=jS (codeWords c) sv (a9 c.holes st.length (t.drop place)) p n1 dp st∧(∀ y∈st,(∀ v∈y.2,v<(codeWords c).length)∧y.2.length≤70)∧st.length≤place+1,fun _ _ z=>z,?_⟩;have bad:R0=none→∀ H3:Hp,aj H H3→([]:List V).length≤sizeLine∧∀ a,H3 a=none→Mv CN [.ref a] (upd H3 a (ExN CN a none)) (fun v H2=>v = .non∧∃ d:Option Addr,H2 a=some (ExN CN a d)∧E (.ref a) d (upd H2 a (ExO CN a d))) E0:=fun hn H3 s3=>by
    rw [hn] at q;exact ⟨zero_le _,Fh fun H' ea d s4=>q H' ea d (s3.trans s4)⟩
   refine ⟨_,rfl,_,rfl,ra,_,rfl,.inl (SqL.of hra2),rfl,_,rfl,?_⟩;show if decide (V.int (place:Int)=V.int ((t.map V.int).length:Int))=true then _ else _
   rw [fj,hlen];cases hd:t.drop place with
   | nil=>
    rw [hd,LV] at hR;refine cg (fun _=>bad hR H2 s2) fun z=>absurd ?_ z;have:=drop_eq_nil_iff.mp hd;omega
   | cons xv r=>
    obtain ⟨e1,e2,e3⟩:=drop_cons hd;rw [hd] at hR;have ix1:∀ {j:Nat} {yv:Int} {H3:Hp},t[j]? = some yv→(t.map V.int)[j]? = some (.int yv):=fun {j yv H3} z=>by rw [getElem?_map,z]; rfl
    refine cg (fun z=>absurd z (by omega)) fun _=>?_;refine ⟨_,rfl,_,rfl,ra,_,_,_,rfl,rfl,SqL.of hra2,at_of (j:=place) rfl (ix1 (H3:=H2) e1),rfl,_,rfl,?_⟩;show if decide (V.int xv=V.int 2)=true then _ else _
    rw [fj];refine cg (fun h2=>?_) fun h2=>?_
    ·subst h2;refine ⟨_,rfl,_,_,rfl,rfl,?_⟩;have epl:(place:Int)+1=((place+1:Nat):Int):=by omega
     refine ⟨_,rfl,_,rfl,ra,_,rfl,.inl (SqL.of hra2),rfl,_,rfl,?_⟩;show if decide (V.int ((place:Int)+1)=V.int ((t.map V.int).length:Int))=true then _ else _
     rw [fj,hlen];cases r with
     | nil=>
      rw [Io] at hR;refine cg (fun _=>bz (bad hR H2 s2)) fun z=>absurd ?_ z;have:=drop_eq_nil_iff.mp e2;omega
     | cons hv r=>
      obtain ⟨e4,e5,e6⟩:=drop_cons e2;refine cg (fun z=>absurd z (by omega)) fun _=>?_;refine ⟨_,rfl,_,rfl,ra,_,_,_,rfl,rfl,SqL.of hra2,at_of (j:=place+1) epl (ix1 (H3:=H2) e4),_,_,rfl,rfl,_,rfl,cg (fun hlt=>?_) fun hlt=>?_⟩
      ·rw [Ag _ _ (.inl hlt)] at hR;exact bz (bad hR H2 s2)
      ·refine ⟨_,rfl,_,rfl,ra,_,_,_,rfl,rfl,SqL.of hra2,at_of (j:=place+1) epl (ix1 (H3:=H2) e4),_,rfl,ca,CK,dxc,_,_,rfl,o1,TKc.cl,TKc.nH,rL _ _ _ _ _ _,_,_,rfl,rfl,_,rfl,cg (fun hgt=>?_) fun hgt=>?_⟩
       ·rw [Ag _ _ (.inr hgt)] at hR;exact bad hR H2 s2
       ·have hh1:¬ hv<1:=hlt;have hh2:¬ (c.holes:Int)<hv:=hgt;obtain ⟨hn,ehn⟩:∃ hn:Nat,hv=(hn:Int):=⟨hv.toNat,by omega⟩;subst ehn;rw [LU _ _ (by omega) (by omega)] at hR;refine ⟨_,rfl,a,dx2,_,rfl,g1,Fg UX,_,rfl,_,rfl,ra,_,_,_,rfl,rfl,SqL.of hra2,at_of (j:=place+1) epl (ix1 (H3:=H2) e4),a,ca,pt,wa,pa,c,sv,d,vl,st,p,n1,dp,hn,rfl,by omega,by omega,gc,x2,hv1,hv2,by omega,fun H3 x3 u3=>?_⟩;refine ⟨_,rfl,_,_,rfl,rfl,?_⟩;refine ⟨t.length-(place+2),by omega,_,p,n1+1,dp,place+2,?_,x3,up2 s2 u3,by omega,rfl,?_,fun y hy=>?_,?_⟩
        ·show [some (V.ref ra),some (V.ref ca),some (V.ref wa),some (V.ref a),some (V.int (((place:Int)+1)+1))]=_;rw [show (((place:Int)+1)+1)=((place+2:Nat):Int) by omega]
        ·rw [hR,length_cons,length_cons,e5]
        ·rcases mem_cons.mp hy with z | z
         ·rw [z];exact ⟨fun v hv=>hv1 v (mem_filter.mp hv).1,le_trans (length_filter_le _ _) hv2⟩
         ·rcases mem_cons.mp z with z | z
          ·rw [z];exact ⟨fun v hv=>hv1 v (mem_filter.mp hv).1,le_trans (length_filter_le _ _) hv2⟩
          ·exact hst y (mem_cons_of_mem _ z)
        ·rw [length_cons,length_cons];omega
    ·have leaf:∀ (y:Bool),R0=jS (codeWords c) sv (a9 c.holes st.length r) (p&&vl.all fun v=>y==sv.contains v) n1 (max dp d) st→decide (V.int xv=V.int 1)=y→Po CW CK [.ref a,.bl (decide (V.int xv=V.int 1))] H2 (fun _ H3=>∃ m',m'<t.length-place∧∃ (st:List (Nat×List Nat)) (p:Bool) (n1 dp place2:Nat),[some (V.ref ra),some (V.ref ca),some (V.ref wa),some (V.ref a),some (V.int ((place:Int)+1))]=[some (.ref ra),some (.ref ca),some (.ref wa),some (.ref a),some (.int (place2:Int))]∧WkO CW CK H3 a ca pt wa pa c sv st p n1 dp∧aj H H3∧place2≤t.length∧m'=t.length-place2∧R0=jS (codeWords c) sv (a9 c.holes st.length (t.drop place2)) p n1 dp st∧(∀ y∈st,(∀ v∈y.2,v<(codeWords c).length)∧y.2.length≤70)∧st.length≤place2+1) E0:=fun y hy ey=>by
      rw [ey];refine ⟨a,ca,pt,wa,pa,c,sv,d,vl,st,p,n1,dp,y,rfl,x2,fun H3 x3 u3=>?_⟩;refine ⟨t.length-(place+1),by omega,st,_,n1,_,place+1,?_,x3,up2 s2 u3,by omega,rfl,?_,fun z hz=>hst z (mem_cons_of_mem _ hz),by omega⟩
      ·rw [show ((place:Int)+1)=((place+1:Nat):Int) by omega]
      ·rw [hy,e2]
     refine ⟨_,rfl,_,rfl,ra,_,_,_,rfl,rfl,SqL.of hra2,at_of (j:=place) rfl (ix1 (H3:=H2) e1),rfl,_,rfl,?_⟩;show if decide (V.int xv=V.int 1)=true then _ else _
     by_cases h1:xv=1
     ·have ed:decide (V.int xv=V.int 1)=true:=by rw [fj]; exact decide_eq_true h1
      rw [ed];refine bz (bz ⟨_,rfl,a,dx2,_,rfl,g1,Fg Si,_,rfl,_,rfl,ra,_,_,_,rfl,rfl,SqL.of hra2,at_of (j:=place) rfl (ix1 (H3:=H2) e1),rfl,?_⟩);subst h1;rw [LS] at hR;obtain ⟨a',ca',pt',wa',pa',c',sv',d',vl',st',p',n1',dp',y',f1,f2,f3⟩:=leaf true hR ed;exact ⟨a',ca',pt',wa',pa',c',sv',d',vl',st',p',n1',dp',y',f1,f2,fun H3 x3 u3=>⟨_,rfl,_,_,rfl,rfl,f3 H3 x3 u3⟩⟩
     ·have ed:decide (V.int xv=V.int 1)=false:=by rw [fj]; exact decide_eq_false h1
      rw [ed];refine b0 ⟨_,rfl,_,rfl,ra,_,_,_,rfl,rfl,SqL.of hra2,at_of (j:=place) rfl (ix1 (H3:=H2) e1),rfl,_,rfl,?_⟩;show if decide (V.int xv=V.int 0)=true then _ else _
      rw [fj];refine cg (fun h0=>?_) fun h0=>?_
      ·refine ⟨_,rfl,a,dx2,_,rfl,g1,Fg Si,_,rfl,_,rfl,ra,_,_,_,rfl,rfl,SqL.of hra2,at_of (j:=place) rfl (ix1 (H3:=H2) e1),rfl,?_⟩;subst h0;rw [OL] at hR;obtain ⟨a',ca',pt',wa',pa',c',sv',d',vl',st',p',n1',dp',y',f1,f2,f3⟩:=leaf false hR ed;exact ⟨a',ca',pt',wa',pa',c',sv',d',vl',st',p',n1',dp',y',f1,f2,fun H3 x3 u3=>⟨_,rfl,_,_,rfl,rfl,f3 H3 x3 u3⟩⟩
      ·rw [Ip _ _ h0 h1 h2] at hR;exact bad hR H2 s2
end
abbrev Pp:Stmt:=top 74
abbrev Pq:Stmt:=inClass Pp 0
abbrev Pr:Stmt:=top 78
abbrev Pt:Stmt:=top 79
abbrev JC:Stmt:=top 81
abbrev CG:Stmt:=top 82
abbrev CH:Stmt:=top 83
abbrev JD:Stmt:=top 84
abbrev JE:Stmt:=top 97
abbrev yJ:Stmt:=top 99
def mV:Str:="code none\nholes 4\nweights 7 4 2 1 to 14"
def mX:List Nat:=mV.cps.toList
theorem AJ:codes mV=zs mX:=rfl
theorem jc:readCode mX = .ok Vbenab.start:=by
 have a:(match readCode mX with | .ok c=>decide (c=Vbenab.start) | .error _=>false)=true:=by decide +kernel
 cases h:readCode mX with
 | error p=>
  rw [h] at a;cases a
 | ok c=>
  rw [h] at a;rw [of_decide_eq_true a]
theorem Sj{P:Program}{w:World}{C:Addr}{X:Cx}:Passes (CXF P w C) X E0:=fun _ _ _ _ _ _ _ ⟨_,_,_,_,_,h⟩=>h.elim
structure TFd(K:PySem.W.Frag)(C:Addr):Prop where
 cl:Cls K C
 nC:aP K C "code"
structure FO(CFd CK:Addr)(H:Hp)(fa:Addr)(c:Vbenab.Code):Prop where
 ex:∃ (dx ca pt:Addr),H fa=some (.ins CFd dx [("code",.ref ca)])∧l8 CK H ca pt c∧H pt=some (.lst (vzs (codeText c)))
 gc:GoodC c
 ln:(codeText c).length≤100000
theorem FO.same{CFd CK:Addr}{H H':Hp}{fa:Addr}{c:Vbenab.Code}(f:FO CFd CK H fa c)(s:aj H H'):FO CFd CK H' fa c:=by
 obtain ⟨⟨dx,ca,pt,h1,h2,h3⟩,g,l⟩:=f;exact ⟨⟨dx,ca,pt,s _ _ h1,cO.same h2 s,s _ _ h3⟩,g,l⟩
def cW(CFd CK:Addr)(G:List Int→List (List Int)→Call→Prop):Sp:=fun vs H Q _=>∃ (fa g:Addr) (c:Vbenab.Code) (xs:List Int) (ps:List Addr) (rows:List (List Int)) (d:Call),vs=[.ref fa,.ref g]∧FO CFd CK H fa c∧H g=some (.lst (xs.map V.int++ps.map V.ref))∧ck H ps rows∧G xs rows d∧(∀ r∈rows,r.length≤16000) ∧
 ∀ (H':Hp) (p:Addr),FO CFd CK H' fa (act c d).1→H' p=some (.lst ((act c d).2.map V.int))→aI fa H H'→Q (.ref p) H'
theorem cj{CFd CK:Addr}{G:List Int→List (List Int)→Call→Prop}:∀ vs H Q E,cW CFd CK G vs H Q E→vs.length=(["field","given"]:List Str).length:=by
 rintro vs H Q E ⟨fa,g,c,xs,ps,rows,d,rfl,_⟩;rfl
theorem gQ{H:Hp}{ps:List Addr}{r:List Int}(h:ck H ps [r]):∃ p,ps=[p]∧H p=some (.lst (r.map V.int)):=by
 cases h with
 | cons a t=>
  cases t;exact ⟨_,rfl,a⟩
theorem AK{H:Hp}{ps:List Addr}{r r2:List Int}(h:ck H ps [r,r2]):∃ p p2,ps=[p,p2]∧H p=some (.lst (r.map V.int))∧H p2=some (.lst (r2.map V.int)):=by
 cases h with
 | cons a t=>
  cases t with
  | cons b t=>
   cases t;exact ⟨_,_,rfl,a,b⟩
theorem sA{H:Hp}{ps:List Addr}(h:ck H ps []):ps=[]:=by
 cases h;rfl
theorem AL{c:Vbenab.Code}{v:Nat}(h:v<count c):((List.range (count c)).map (nameOf c))[v]? = some (nameOf c v):=by
 rw [getElem?_map,getElem?_range h];rfl
theorem aL.get{H:Hp}:∀ {rs:List Addr} {ws:List (List Nat)} {i:Nat} {m:List Nat},aL H rs ws→ws[i]? = some m→∃ r,(rs.map V.ref)[i]? = some (.ref r)∧H r=some (.lst (vzs m))
 | _,_,0,m,.cons (r:=r) (w:=w) a t,h=>⟨r,rfl,by cases (Option.some.inj h); exact a⟩
 | _,_,i+1,m,.cons a t,h=>aL.get (i:=i) t h
theorem yK{l:List Int}(h:∀ x∈l,0≤x):l.map V.int=vzs (l.map toNat):=by
 show _=((l.map toNat).map fun (n:Nat)=>(n:Int)).map V.int;rw [map_map,map_map];refine map_congr_left fun x hx=>?_;show V.int x=V.int ((x.toNat:Nat):Int);rw [Int.toNat_of_nonneg (h x hx)]
section
variable {P:Program}{w:World}{K:PySem.W.Frag}{mg:Str→Option Value}{base:Heap}
def JF(CFd CK:Addr):Sp:=fun vs H Q _=>∃ (p dx:Addr),vs=[.ref p]∧H p=some (.ins CFd dx [])∧∀ H':Hp,FO CFd CK H' p Vbenab.start→aI p H H'→Q .non H'
theorem Sk:ax ["self"] ["self"] (ao Pq):=⟨rfl,rfl,rfl,by decide +kernel,rfl,by decide +kernel,by decide +kernel⟩
theorem Pu{f CF CFd CK:Addr}{fd:FuncData}(F:Fun K "__init__" "Field.__init__" Pq f fd)(T:TFd K CFd)(hF:∃ t,mg "FIRST_TEXT"=some (.str mV t))(DB:Dn P w K mg base CX0 1 "bytes_of" ["signs"] eU)(DR:Dn P w K mg base (CXF P w CF) 8 "read_code" ["text"] (ja CF CK)):aF P w K mg base CX0 9 f fd ["self"] (JF CFd CK):=by
 obtain ⟨fb,fdb,gB,hB,kB,bB⟩:=DB;obtain ⟨fr,fdr,gR,hR,kR,bR⟩:=DR;obtain ⟨tk,hF⟩:=hF;refine F.ok Sk (fun vs H Q E h=>?_) (fun cdv A outer s H vs Q E hr h=>?_)
 ·obtain ⟨p,dx,rfl,_⟩:=h;rfl
 ·obtain ⟨p,dx,rfl,hp,k⟩:=h;refine ⟨_,ai (b9 (pv 0) (aD gR hr rfl hR kR bR .nil Sj (aa (aD gB (hr.mono (by decide)) rfl hB kB bB .nil aE (aa (iS (v:=.str mV) (by rfl) hF ⟨tk,rfl⟩ (by decide)) ah)) ah)) rfl),?_⟩;refine ⟨mV,rfl,by decide +kernel,fun b hb=>?_⟩;rw [AJ];refine ⟨b,mX,rfl,ae,by decide +kernel,?_⟩;rw [jc];intro H1 ca hc fca s1;have s01:aj H H1:=(aj.new (o:=.lst ((zs mX).map V.int)) hb).trans s1;have hp1:=s01 _ _ hp;refine ⟨_,rfl,p,CFd,dx,_,rfl,hp1,T.cl,T.nC,(by show 0<1000; decide),?_⟩;have hb1:H1 b=some (.lst (vzs mX)):=s1 _ _ ae;obtain ⟨dxc,pn,pq,pd,rn,o1,o2,o3,o4,o5⟩:=hc.ex;have nca:ca≠p:=fun z=>by
   rw [z,hp1] at o1;injection o1 with o1;injection o1 with _ _ e;unfold kf at e;cases e
  have u:aI p H1 (upd H1 p (.ins CFd dx (cn "code" (.ref ca) []))):=bu;refine k _ ⟨⟨dx,ca,b,ae,cO.cR hc hp1 nca u,?_⟩,qm jc,by rw [lJ jc]; decide +kernel⟩ ((aI.of s01).trans u);rw [u _ _ hb1 (aW hb1 hp1 (by intro z; cases z)),lJ jc]
def AM(CK:Addr):Sp:=fun vs H Q _=>∃ (ca pt:Addr) (c:Vbenab.Code) (v:Int),vs=[.ref ca,.int v]∧l8 CK H ca pt c∧Q (.bl (isBetween v 0 ((count c:Int)-1))) H
theorem Sl:ax ["code","value"] ["code","value"] (ao Pr):=⟨rfl,rfl,rfl,by decide +kernel,rfl,by decide +kernel,by decide +kernel⟩
theorem Pw{f CK:Addr}{fd:FuncData}(F:Fun K "has_value" "has_value" Pr f fd)(TKc:TK K CK)(hL:mg "len"=none):aF P w K mg base CX0 1 f fd ["code","value"] (AM CK):=by
 refine F.ok Sl (fun vs H Q E h=>?_) (fun cdv A outer s H vs Q E hr h=>?_)
 ·obtain ⟨ca,pt,c,v,rfl,_⟩:=h;rfl
 ·obtain ⟨ca,pt,c,v,rfl,hc,k⟩:=h;obtain ⟨dxc,pn,pq,pd,rn,o1,o2,o3,o4,o5⟩:=hc.ex;refine ⟨_,ai (ay (oH oG eZ au (pv 1) (aJ aC (by rfl) hL PySem.boot_len (aa (aB (pv 0) rfl) ah)))),?_⟩;have hlen:((vzs ((codeWords c).map mask)).length:Int)=(count c:Int):=by rw [length_map,length_map,length_map]; rfl
  unfold VbenCore.isBetween at k;refine ⟨_,rfl,_,_,rfl,rfl,_,rfl,?_⟩;by_cases h0:(0:Int)≤v
  ·rw [decide_eq_true h0,Bool.true_and] at k;rw [if_pos (decide_eq_true h0)];refine ⟨_,rfl,ca,CK,dxc,_,_,rfl,o1,TKc.cl,TKc.nQ,pH _ _ _ _ _ _,pq,_,rfl,.inl (SqL.of o4),_,_,rfl,rfl,?_⟩;rw [hlen];show Q (V.bl (decide (v<(count c:Int)))) H;rw [show decide (v<(count c:Int))=decide (v≤(count c:Int)-1) by rw [decide_eq_decide]; omega];exact k
  ·rw [decide_eq_false h0,Bool.false_and] at k;rw [if_neg (by rw [decide_eq_false h0]; exact Bool.false_ne_true)];exact k
def rh(CK:Addr):Sp:=fun vs H Q _=>∃ (ca pt ra:Addr) (c:Vbenab.Code) (l:List Int),vs=[.ref ca,.ref ra]∧l8 CK H ca pt c∧H ra=some (.lst (l.map V.int))∧Q (.bl (bg ((count c:Int)-1) 0 l)) H
theorem Sm:ax ["code","row"] ["code","row"] (ao Pt):=⟨rfl,rfl,rfl,by decide +kernel,rfl,by decide +kernel,by decide +kernel⟩
theorem Px{f CK:Addr}{fd:FuncData}(F:Fun K "are_values" "are_values" Pt f fd)(TKc:TK K CK)(hL:mg "len"=none)(DR:Dn P w K mg base CX0 1 "rises" ["row","least","most"] (pK K)):aF P w K mg base CX0 2 f fd ["code","row"] (rh CK):=by
 obtain ⟨fr,fdr,gR,hR,kR,bR⟩:=DR;refine F.ok Sm (fun vs H Q E h=>?_) (fun cdv A outer s H vs Q E hr h=>?_)
 ·obtain ⟨ca,pt,ra,c,l,rfl,_⟩:=h;rfl
 ·obtain ⟨ca,pt,ra,c,l,rfl,hc,hra,k⟩:=h;obtain ⟨dxc,pn,pq,pd,rn,o1,o2,o3,o4,o5⟩:=hc.ex;refine ⟨_,ai (ay (aD gR hr rfl hR kR bR .nil aE (aa (pv 1) (aa au (aa (aU cX (aJ aC (by rfl) hL PySem.boot_len (aa (aB (pv 0) rfl) ah)) au) ah))))),?_⟩;have hlen:((vzs ((codeWords c).map mask)).length:Int)=(count c:Int):=by rw [length_map,length_map,length_map]; rfl
  refine ⟨_,rfl,_,rfl,ca,CK,dxc,_,_,rfl,o1,TKc.cl,TKc.nQ,pH _ _ _ _ _ _,pq,_,rfl,.inl (SqL.of o4),_,_,rfl,rfl,ra,l,0,_,rfl,SqL.of hra,?_⟩;rw [hlen];exact k
end
structure TA_(mg:Str→Option Value):Prop where
 ln:mg "len"=none
 en:mg "enumerate"=none
 rg:mg "range"=none
 nb:GI mg "NOT_BYTES" (-1)
 nt:GI mg "NO_TREE" (-2)
 nc:GI mg "NOT_COUNTED" (-2)
 nr:GI mg "NOT_RISING" (-4)
 nv:GI mg "NO_VALUE" (-5)
 nl:GI mg "NOT_LABELLED" (-7)
 ft:GI mg "FAULT" (-1000)
 m5:GI mg "MOST_HOLES_LABELLED" 5
 m60:GI mg "MOST_HOLES_COUNTED" 60
theorem sC{v:Int}{n:Nat}(h:isBetween v 0 ((n:Int)-1)=true):v=((v.toNat:Nat):Int)∧v.toNat<n:=by
 unfold VbenCore.isBetween at h;rw [and_eq_true,decide_eq_true_eq,decide_eq_true_eq] at h;omega
section
variable {P:Program}{w:World}{K:PySem.W.Frag}{mg:Str→Option Value}{base:Heap}
abbrev Nz(xs:List Int)(rows:List (List Int))(d:Call):Prop:=xs=[]∧rows=[]∧d = .text
abbrev JG(xs:List Int)(rows:List (List Int))(d:Call):Prop:=∃ v,xs=[v]∧rows=[]∧d = .marks v
abbrev JH(xs:List Int)(rows:List (List Int))(d:Call):Prop:=∃ v,xs=[v]∧rows=[]∧d = .name_ v
abbrev JI(xs:List Int)(rows:List (List Int))(d:Call):Prop:=∃ r,xs=[]∧rows=[r]∧d = .value r
abbrev NA(xs:List Int)(rows:List (List Int))(d:Call):Prop:=∃ v,xs=[v]∧rows=[]∧d = .most v
abbrev Fj(xs:List Int)(rows:List (List Int))(d:Call):Prop:=xs=[]∧rows=[]∧d = .counts
theorem Py:ax ["field","given"] ["field","given"] (ao JC):=⟨rfl,rfl,rfl,by decide +kernel,rfl,by decide +kernel,by decide +kernel⟩
theorem Mx{f CFd CK:Addr}{fd:FuncData}(F:Fun K "answer_text" "answer_text" JC f fd)(T:TFd K CFd)(TKc:TK K CK)(DC:Dn P w K mg base CX0 1 "counted" ["row"] dM):aF P w K mg base CX0 2 f fd ["field","given"] (cW CFd CK Nz):=by
 obtain ⟨fc,fdc,gC,hC,kC,bC⟩:=DC;refine F.ok Py cj (fun cdv A outer s H vs Q E hr h=>?_);obtain ⟨fa,g,c,xs,ps,rows,d,rfl,fo,hg,hrw,⟨rfl,rfl,rfl⟩,hln,k⟩:=h;obtain ⟨⟨dx,ca,pt,h1,h2,h3⟩,gc,ln⟩:=id fo;obtain ⟨dxc,pn,pq,pd,rn,o1,o2,o3,o4,o5⟩:=h2.ex;refine ⟨_,ai (ay (aU hZ (aH (aa au ah)) (aD gC hr rfl hC kC bC .nil aE (aa (aB (aB (pv 0) rfl) rfl) ah)))),?_⟩;refine ⟨by show 1≤sizeLine; decide,fun p0 hp0=>?_⟩;have s0:aj H (upd H p0 (.lst [.int 0])):=aj.new hp0;have hl:(vzs (codeText c)).length=(codeText c).length:=by rw [length_map,length_map]
 refine ⟨_,rfl,fa,CFd,dx,_,_,rfl,s0 _ _ h1,T.cl,T.nC,rfl,ca,CK,dxc,_,_,rfl,s0 _ _ o1,TKc.cl,TKc.nT,UD _ _ _ _ _ _,pt,_,rfl,s0 _ _ h3,by rw [hl,sizeLine_eq]; omega,fun H1 p1 s1 f1 hp1=>?_⟩;refine ⟨p0,p1,_,_,rfl,rfl,s1 _ _ ae,hp1,by show 1+((vzs (codeText c)).length+1)≤sizeLine; rw [hl,sizeLine_eq]; omega,fun p2 hp2=>?_⟩;have sx:=(s0.trans s1).trans (aj.new (o:=.lst ([V.int 0]++(V.int ((vzs (codeText c)).length:Int)::vzs (codeText c)))) hp2);refine k _ p2 (fo.same sx) ?_ (aI.of sx);rw [ae,hl];rfl
theorem Fl:ax ["field","given","code","value"] ["field","given"] (ao CG):=⟨rfl,rfl,rfl,by decide +kernel,rfl,by decide +kernel,by decide +kernel⟩
theorem JJ{f CFd CK:Addr}{fd:FuncData}(F:Fun K "answer_marks" "answer_marks" CG f fd)(T:TFd K CFd)(TKc:TK K CK)(Ta:TA_ mg)(DH:Dn P w K mg base CX0 1 "has_value" ["code","value"] (AM CK))(DM:Dn P w K mg base CX0 2 "marks_of" ["notches","holes"] lG)(DC:Dn P w K mg base CX0 1 "counted" ["row"] dM):aF P w K mg base CX0 3 f fd ["field","given"] (cW CFd CK JG):=by
 obtain ⟨fc,fdc,gC,hC,kC,bC⟩:=DC;obtain ⟨fh,fdh,gH,hH,kH,bH⟩:=DH;obtain ⟨fm,fdm,gM,hM,kM,bM⟩:=DM;refine F.ok Fl cj (fun cdv A outer s H vs Q E hr h=>?_);obtain ⟨fa,g,c,xs,ps,rows,d,rfl,fo,hg,hrw,⟨v,rfl,rfl,rfl⟩,hln,k⟩:=h;obtain rfl:=sA hrw;obtain ⟨⟨dx,ca,pt,h1,h2,h3⟩,gc,ln⟩:=id fo;obtain ⟨dxc,pn,pq,pd,rn,o1,o2,o3,o4,o5⟩:=h2.ex;have nd:=Fl.nd;have hr1:cM 1 _:=hr.mono (by decide);refine ⟨_,ag (az (i:=2) nd rfl (Or.inl rfl) (aB (pv 0) rfl)) (ag (az (i:=3) nd rfl (Or.inl rfl) (aQ aG (pv 1) au (fun _ _=>rfl)))
  (ag (a0 (cq (bf (aD gH hr1 rfl hH kH bH .nil aE (aa (pv 2) (aa (pv 3) ah))))) (ai (ay (aH (aa (aY Ta.nv) ah)))) aO)
  (ai (ay (aD gC hr1 rfl hC kC bC .nil aE (aa (aD gM hr rfl hM kM bM .nil aE (aa (aQ aG (aB (pv 2) rfl) (pv 3) (fun _ _=>rfl)) (aa (aB (pv 2) rfl) ah))) ah)))))),?_⟩
 refine ⟨_,rfl,fa,CFd,dx,_,_,rfl,h1,T.cl,T.nC,rfl,_,rfl,g,_,_,_,rfl,rfl,SqL.of hg,at_of (j:=0) (v:=.int v) rfl rfl,_,rfl,_,rfl,ca,pt,c,v,rfl,h2,_,rfl,?_⟩;have ea:act c (.marks v)=if isBetween v 0 ((count c:Int)-1)=false then (c,[-5]) else (c,listed (wordAt c v.toNat)):=rfl
 rw [ea] at k;cases hb:isBetween v 0 ((count c:Int)-1) with
 | false=>
  rw [if_pos hb] at k;refine bz ⟨by show 1≤sizeLine; decide,fun p hp=>?_⟩;exact k _ p (fo.same (aj.new hp)) ae (aI.of (aj.new hp))
 | true=>
  rw [if_neg (by rw [hb]; decide)] at k;obtain ⟨ev,hv⟩:=sC hb;have hv':v.toNat<(codeWords c).length:=hv;have rm:=JB gc hv';have hw:wd (codeWords c) v.toNat=wordAt c v.toNat:=rfl;refine b0 ⟨_,rfl,ca,CK,dxc,_,_,rfl,o1,TKc.cl,TKc.nQ,pH _ _ _ _ _ _,_,rfl,pq,_,_,_,rfl,rfl,SqL.of o4,at_of (j:=v.toNat) ev (qv hv'),_,rfl,ca,CK,dxc,_,_,rfl,o1,TKc.cl,TKc.nH,rL _ _ _ _ _ _,_,c.holes,rfl,by have:=gc.gw.hn; omega,fun p hp=>?_⟩;rw [i3 rm gc.gw.hn,hw];rw [hw] at rm;have hl:(vzs (wordAt c v.toNat)).length=(wordAt c v.toNat).length:=by rw [length_map,length_map]
  have:=rm.len;have:=gc.gw.hn;refine ⟨p,_,rfl,ae,by rw [hl,sizeLine_eq]; omega,fun H1 p1 s1 f1 hp1=>?_⟩;have sx:=(aj.new (o:=.lst (vzs (wordAt c v.toNat))) hp).trans s1;refine k H1 p1 (fo.same sx) ?_ (aI.of sx);rw [hp1,hl];rfl
theorem Fm:ax ["field","given","code","marks","notches"] ["field","given"] (ao CH):=⟨rfl,rfl,rfl,by decide +kernel,rfl,by decide +kernel,by decide +kernel⟩
theorem JK{f CFd CK:Addr}{fd:FuncData}(F:Fun K "answer_value" "answer_value" CH f fd)(T:TFd K CFd)(TKc:TK K CK)(Ta:TA_ mg)(DR:Dn P w K mg base CX0 1 "rises" ["row","least","most"] (pK K))(DN:Dn P w K mg base CX0 2 "notches_of" ["marks"] (cG K)):aF P w K mg base CX0 3 f fd ["field","given"] (cW CFd CK JI):=by
 obtain ⟨fr,fdr,gR,hR,kR,bR⟩:=DR;obtain ⟨fn,fdn,gN,hN,kN,bN⟩:=DN;refine F.ok Fm cj (fun cdv A outer s H vs Q E hr h=>?_);obtain ⟨fa,g,c,xs,ps,rows,d,rfl,fo,hg,hrw,⟨r,rfl,rfl,rfl⟩,hln,k⟩:=h;obtain ⟨p1,rfl,hp1⟩:=gQ hrw;obtain ⟨⟨dx,ca,pt,h1,h2,h3⟩,gc,ln⟩:=id fo;obtain ⟨dxc,pn,pq,pd,rn,o1,o2,o3,o4,o5⟩:=h2.ex;have nd:=Fm.nd;have hr1:cM 1 _:=hr.mono (by decide);refine ⟨_,ag (az (i:=2) nd rfl (Or.inl rfl) (aB (pv 0) rfl)) (ag (az (i:=3) nd rfl (Or.inl rfl) (aQ aG (pv 1) au (fun _ _=>rfl)))
  (ag (a0 (cq (bf (aD gR hr1 rfl hR kR bR .nil aE (aa (pv 3) (aa au (aa (aB (pv 2) rfl) ah)))))) (ai (ay (aH (aa (aY Ta.nr) ah)))) aO)
  (ag (az (i:=4) nd rfl (Or.inl rfl) (aD gN hr rfl hN kN bN .nil aE (aa (pv 3) ah)))
  (ag (a0 (By (HV (zP hr) (pv 4) (aB (pv 2) rfl))) (ai (ay (aH (aa au (aa (EA (zP hr) (aB (pv 2) rfl) (pv 4) (fun _ _=>rfl)) ah))))) aO)
  (ai (ay (aH (aa au ah)))))))),?_⟩
 refine ⟨_,rfl,fa,CFd,dx,_,_,rfl,h1,T.cl,T.nC,rfl,_,rfl,g,_,_,_,rfl,rfl,SqL.of hg,at_of (j:=0) (v:=.ref p1) rfl rfl,_,rfl,_,rfl,ca,CK,dxc,_,_,rfl,o1,TKc.cl,TKc.nH,rL _ _ _ _ _ _,p1,r,1,_,rfl,SqL.of hp1,_,rfl,?_⟩;have ea:act c (.value r)=if bg (c.holes:Int) 1 r=true then (c,match valueOf c (r.map toNat) with | none=>[0] | some v=>[1,(v:Int)]) else (c,[-4]):=
  tL c r fun l=>(c,match valueOf c l with | none=>[0] | some v=>[1,(v:Int)])
 rw [ea] at k;cases hb:bg (c.holes:Int) 1 r with
 | false=>
  rw [if_neg (by rw [hb]; decide)] at k;refine bz ⟨by show 1≤sizeLine; decide,fun p hp=>?_⟩;exact k _ p (fo.same (aj.new hp)) ae (aI.of (aj.new hp))
 | true=>
  rw [if_pos hb] at k;obtain ⟨hris,hpos⟩:=qk (lo:=1) hb;have er:r.map V.int=vzs (r.map toNat):=yK fun x hx=>by have:=hpos x hx; omega
  rw [tN gc.gw hris] at k;have h8:=gc.gw.hn;refine b0 ⟨_,rfl,p1,r.map toNat,rfl,SqL.of (by rw [← er]; exact hp1),fun h hh=>by have:=hris.mem hh; omega,?_⟩;refine ⟨_,rfl,_,rfl,ca,CK,dxc,_,_,rfl,o1,TKc.cl,TKc.nB,Jk _ _ _ _ _ _,pd,_,rfl,rF.k (k:=Sum.inl ((mask (r.map toNat):Nat):Int)) o5,_,rfl,?_⟩;rw [pI];cases hi:o7 ((codeWords c).map mask) (mask (r.map toNat)) with
  | none=>
   rw [hi] at k;refine b0 ⟨by show 1≤sizeLine; decide,fun p hp=>?_⟩;exact k _ p (fo.same (aj.new hp)) ae (aI.of (aj.new hp))
  | some v=>
   rw [hi] at k;have gv:rF H pd (.int ((mask (r.map toNat):Nat):Int)) (some (.int (v:Int))):=by
    have z:=rF.k (k:=Sum.inl ((mask (r.map toNat):Nat):Int)) o5;rw [pI,hi] at z;exact z
   refine bz ⟨_,rfl,ca,CK,dxc,_,_,rfl,o1,TKc.cl,TKc.nB,Jk _ _ _ _ _ _,_,rfl,pd,_,rfl,gv,by show 2≤sizeLine; decide,fun p hp=>?_⟩;exact k _ p (fo.same (aj.new hp)) ae (aI.of (aj.new hp))
theorem JL:ax ["field","given","value"] ["field","given"] (ao JD):=⟨rfl,rfl,rfl,by decide +kernel,rfl,by decide +kernel,by decide +kernel⟩
theorem My{f CFd CK:Addr}{fd:FuncData}(hNL:∀ c,GoodC c→(codeText c).length≤100000→∀ v,v<count c→(nameOf c v).length≤100000)(F:Fun K "answer_name" "answer_name" JD f fd)(T:TFd K CFd)(TKc:TK K CK)(Ta:TA_ mg)(DH:Dn P w K mg base CX0 1 "has_value" ["code","value"] (AM CK))(DC:Dn P w K mg base CX0 1 "counted" ["row"] dM):aF P w K mg base CX0 2 f fd ["field","given"] (cW CFd CK JH):=by
 obtain ⟨fc,fdc,gC,hC,kC,bC⟩:=DC;obtain ⟨fh,fdh,gH,hH,kH,bH⟩:=DH;refine F.ok JL cj (fun cdv A outer s H vs Q E hr h=>?_);obtain ⟨fa,g,c,xs,ps,rows,d,rfl,fo,hg,hrw,⟨v,rfl,rfl,rfl⟩,hln,k⟩:=h;obtain rfl:=sA hrw;obtain ⟨⟨dx,ca,pt,h1,h2,h3⟩,gc,ln⟩:=id fo;obtain ⟨dxc,pn,pq,pd,rn,o1,o2,o3,o4,o5⟩:=h2.ex;have nd:=JL.nd;refine ⟨_,ag (az (i:=2) nd rfl (Or.inl rfl) (aQ aG (pv 1) au (fun _ _=>rfl)))
  (ag (a0 (cq (bf (aD gH hr rfl hH kH bH .nil aE (aa (aB (pv 0) rfl) (aa (pv 2) ah))))) (ai (ay (aH (aa (aY Ta.nv) ah)))) aO)
  (ai (ay (aU hZ (aH (aa au ah)) (aD gC hr rfl hC kC bC .nil aE (aa (aQ aG (aB (aB (pv 0) rfl) rfl) (pv 2) (fun _ _=>rfl)) ah)))))),?_⟩
 refine ⟨_,rfl,g,_,_,_,rfl,rfl,SqL.of hg,at_of (j:=0) (v:=.int v) rfl rfl,_,rfl,fa,CFd,dx,_,_,rfl,h1,T.cl,T.nC,rfl,_,rfl,ca,pt,c,v,rfl,h2,_,rfl,?_⟩;have ea:act c (.name_ v)=if isBetween v 0 ((count c:Int)-1)=false then (c,[-5]) else (c,0::Vbenab.row (nameOf c v.toNat)):=rfl
 rw [ea] at k;cases hb:isBetween v 0 ((count c:Int)-1) with
 | false=>
  rw [if_pos hb] at k;refine bz ⟨by show 1≤sizeLine; decide,fun p hp=>?_⟩;exact k _ p (fo.same (aj.new hp)) ae (aI.of (aj.new hp))
 | true=>
  rw [if_neg (by rw [hb]; decide)] at k;obtain ⟨ev,hv⟩:=sC hb;obtain ⟨rr,g1,g2⟩:=aL.get o3 (AL hv);have hnl:=hNL c gc ln v.toNat hv;have hl:(vzs (nameOf c v.toNat)).length=(nameOf c v.toNat).length:=by rw [length_map,length_map]
  refine b0 ⟨by show 1≤sizeLine; decide,fun p0 hp0=>?_⟩;have s0:aj H (upd H p0 (.lst [.int 0])):=aj.new hp0;refine ⟨_,rfl,fa,CFd,dx,_,_,rfl,s0 _ _ h1,T.cl,T.nC,rfl,ca,CK,dxc,_,_,rfl,s0 _ _ o1,TKc.cl,TKc.nN,Ru _ _ _ _ _ _,_,rfl,pn,_,_,_,rfl,rfl,SqL.of (s0 _ _ o2),at_of (j:=v.toNat) ev g1,rr,_,rfl,s0 _ _ g2,by rw [hl,sizeLine_eq]; omega,fun H1 p1 s1 f1 hp1=>?_⟩;refine ⟨p0,p1,_,_,rfl,rfl,s1 _ _ ae,hp1,by show 1+((vzs (nameOf c v.toNat)).length+1)≤sizeLine; rw [hl,sizeLine_eq]; omega,fun p2 hp2=>?_⟩;have sx:=(s0.trans s1).trans (aj.new (o:=.lst ([V.int 0]++(V.int ((vzs (nameOf c v.toNat)).length:Int)::vzs (nameOf c v.toNat)))) hp2);refine k _ p2 (fo.same sx) ?_ (aI.of sx);rw [ae,hl];rfl
theorem AN:ax ["field","given","code"] ["field","given"] (ao yJ):=⟨rfl,rfl,rfl,by decide +kernel,rfl,by decide +kernel,by decide +kernel⟩
theorem GH{f CFd CK:Addr}{fd:FuncData}(F:Fun K "answer_counts" "answer_counts" yJ f fd)(T:TFd K CFd)(TKc:TK K CK)(Ta:TA_ mg):aF P w K mg base CX0 1 f fd ["field","given"] (cW CFd CK Fj):=by
 refine F.ok AN cj (fun cdv A outer s H vs Q E hr h=>?_);obtain ⟨fa,g,c,xs,ps,rows,d,rfl,fo,hg,hrw,⟨rfl,rfl,rfl⟩,hln,k⟩:=h;obtain ⟨⟨dx,ca,pt,h1,h2,h3⟩,gc,ln⟩:=id fo;obtain ⟨dxc,pn,pq,pd,rn,o1,o2,o3,o4,o5⟩:=h2.ex;have nd:=AN.nd;refine ⟨_,ag (az (i:=2) nd rfl (Or.inl rfl) (aB (pv 0) rfl)) (ai (ay (aH (aa (aB (pv 2) rfl) (aa (aJ aC (by rfl) Ta.ln PySem.boot_len (aa (aB (pv 2) rfl) ah)) (aa (aB (pv 2) rfl) ah)))))),?_⟩;have hlen:((vzs ((codeWords c).map mask)).length:Int)=(count c:Int):=by rw [length_map,length_map,length_map]; rfl
 refine ⟨_,rfl,fa,CFd,dx,_,_,rfl,h1,T.cl,T.nC,rfl,_,rfl,ca,CK,dxc,_,_,rfl,o1,TKc.cl,TKc.nH,rL _ _ _ _ _ _,_,rfl,ca,CK,dxc,_,_,rfl,o1,TKc.cl,TKc.nQ,pH _ _ _ _ _ _,pq,_,rfl,.inl (SqL.of o4),_,rfl,ca,CK,dxc,_,_,rfl,o1,TKc.cl,TKc.nK,UE _ _ _ _ _ _,by show 3≤sizeLine; decide,fun p hp=>?_⟩;rw [hlen];refine k _ p (fo.same (aj.new hp)) ?_ (aI.of (aj.new hp));rw [ae];have ek:((AA c:Nat):Int)=(match c.kind with | .table _=>0 | .weights _ _=>1 | .choose _=>2):=by
  unfold AA;cases c.kind <;> rfl
 show some (HO.lst [V.int (c.holes:Int),V.int (count c:Int),V.int ((AA c:Nat):Int)])=_;rw [ek];rfl
theorem JM:ax ["field","given","holes","count","chosen"] ["field","given"] (ao JE):=⟨rfl,rfl,rfl,by decide +kernel,rfl,by decide +kernel,by decide +kernel⟩
theorem Mz{f CFd CK:Addr}{fd:FuncData}(F:Fun K "answer_most" "answer_most" JE f fd)(Ta:TA_ mg):aF P w K mg base CX0 1 f fd ["field","given"] (cW CFd CK NA):=by
 refine F.ok JM cj (fun cdv A outer s H vs Q E hr h=>?_);obtain ⟨fa,g,c,xs,ps,rows,d,rfl,fo,hg,hrw,⟨v,rfl,rfl,rfl⟩,hln,k⟩:=h;obtain rfl:=sA hrw;have nd:=JM.nd;refine ⟨_,ag (az (i:=2) nd rfl (Or.inl rfl) (aQ aG (pv 1) au (fun _ _=>rfl)))
  (ag (a0 (PW.pt (jB (aK eZ (pv 2) au (aN _)) (hJ (aK eJ (pv 2) (aY Ta.m60) (aN _))))) (ai (ay (aH (aa (aY Ta.nc) ah)))) aO)
  (ag (az (i:=3) nd rfl (Or.inl rfl) au)
  (ag (cu PassesOwn.never rfl (lj rfl Ta.rg (aa (aU xU (pv 2) au) ah)) (aM (i:=4) nd rfl (Or.inl rfl)) (ai (az (i:=3) nd rfl (Or.inl rfl) (aU xU (aU xT (pv 3) (aU cX (pv 2) (pv 4))) (aU cz (pv 4) au)))))
  (ai (ay (aH (aa (pv 3) ah))))))),?_⟩
 have ea:act c (.most v)=if isBetween v 1 60=false then (c,[-2]) else (c,[(Vbenab.most v.toNat:Int)]):=rfl
 rw [ea] at k;have no:(v<1∨(60:Int)<v)→∀ p,H p=none→Q (.ref p) (upd H p (.lst [.int (-2)])):=fun hv p hp=>by
  rw [if_pos (by unfold isBetween; rw [and_eq_false_iff,decide_eq_false_iff_not,decide_eq_false_iff_not]; omega)] at k;exact k _ p (fo.same (aj.new hp)) ae (aI.of (aj.new hp))
 refine ⟨_,rfl,g,_,_,_,rfl,rfl,SqL.of hg,at_of (j:=0) (v:=.int v) rfl rfl,_,rfl,_,_,rfl,rfl,_,rfl,cg (fun hv=>bz ⟨by show 1≤sizeLine; decide,no (.inl hv)⟩) fun hv1=>⟨_,rfl,_,_,rfl,rfl,_,rfl,cg (fun hv=>⟨by show 1≤sizeLine; decide,no (.inr hv)⟩) fun hv2=>?_⟩⟩;have hv1:¬ v<1:=hv1;have hv2:¬ (60:Int)<v:=hv2;rw [if_neg (by unfold isBetween; rw [decide_eq_true (by omega),decide_eq_true (by omega)]; decide)] at k;obtain ⟨n,rfl⟩:∃ n:Nat,v=(n:Int):=⟨v.toNat,by omega⟩;obtain ⟨m1,m2⟩:=LY (n:=n) (by omega);refine ⟨_,rfl,_,_,rfl,rfl,⟨by decide,by decide⟩,_,rfl,?_,?_,?_⟩
 ·show (-(2 ^ 62):Int)≤(n:Int) / 2;omega
 ·show (n:Int) / 2<2 ^ 62;omega
 show ∃ W,_;have e2:((n:Int) / 2).toNat=n / 2:=by omega
 rw [e2];refine dI (fun j σ H'=>H'=H∧∃ v4:Option V,σ=[some (.ref fa),some (.ref g),some (.int (n:Int)),some (.int ((jT n j:Nat):Int)),v4]) ⟨rfl,none,rfl⟩ ?_ ?_
 ·rintro j σ H' hj ⟨rfl,v4,rfl⟩;rw [Int.zero_add];have hb:=m2 j (by omega);have hb0:(0:Int)≤((jT n j:Nat):Int):=Int.natCast_nonneg _;refine ⟨_,rfl,_,rfl,_,rfl,_,_,rfl,rfl,_,_,rfl,rfl,.inl ⟨by omega,by omega⟩,_,rfl,_,_,rfl,rfl,_,_,rfl,rfl,⟨by show (0:Int)<(j:Int)+1; omega,by show (j:Int)+1<1073741824; omega⟩,rfl,some (.int (j:Int)),?_⟩;show [some (V.ref fa),some (V.ref g),some (V.int (n:Int)),some (V.int (((jT n j:Nat):Int)*((n:Int)-(j:Int)) / ((j:Int)+1))),some (V.int (j:Int))]=_;have e3:((jT n j:Nat):Int)*((n:Int)-(j:Int)) / ((j:Int)+1)=((jT n (j+1):Nat):Int):=by
   rw [jT,show (n:Int)-(j:Int)=((n-j:Nat):Int) by omega,show (j:Int)+1=((j+1:Nat):Int) by omega];rw [← Int.natCast_mul,← Int.natCast_ediv]
  rw [e3]
 ·rintro σ H' ⟨rfl,v4,rfl⟩;refine ⟨_,rfl,by show 1≤sizeLine; decide,fun p hp=>?_⟩;refine k _ p (fo.same (aj.new hp)) ?_ (aI.of (aj.new hp));rw [ae,m1];rfl
end
abbrev JN:Stmt:=top 80
abbrev JO:Stmt:=top 85
theorem JP(t:List Int):bytesIn t=if cJ t=true then some (t.map toNat) else none:=by
 unfold VbenCore.bytesIn cJ VbenCore.isBetween VbenCore.TEXT;by_cases h:(t.all fun c=>decide (0≤c)&&decide (c≤255))=true∧t.length≤2000
 ·rw [if_pos h,if_pos (by rw [decide_eq_true h.2,h.1]; rfl)]
 ·rw [if_neg h,if_neg];intro z;rw [and_eq_true,decide_eq_true_eq] at z;exact h ⟨z.2,z.1⟩
theorem AO{t:List Int}(h:cJ t=true):t.map V.int=vzs (t.map toNat)∧zs (t.map toNat)=t∧t.length≤2000:=by
 unfold cJ at h;rw [and_eq_true,decide_eq_true_eq] at h;have hp:∀ x∈t,0≤x:=fun x hx=>by
  have:=all_eq_true.mp h.2 x hx;rw [and_eq_true,decide_eq_true_eq] at this;exact this.1
 refine ⟨yK hp,?_,h.1⟩;show (t.map toNat).map (fun (n:Nat)=>(n:Int))=t;rw [map_map];have:t.map ((fun (n:Nat)=>(n:Int))∘toNat)=t.map id:=map_congr_left fun x hx=>Int.toNat_of_nonneg (hp x hx);rw [this,map_id]
theorem uv(c:State)(t:List Int)(f:List Nat→State×Answer):onBytes c t f=if cJ t=true then f (t.map toNat) else (c,[-1]):=by
 unfold Vbenab.onBytes;rw [JP];by_cases h:cJ t=true
 ·rw [if_pos h,if_pos h]
 ·rw [if_neg h,if_neg h]
section
variable {P:Program}{w:World}{K:PySem.W.Frag}{mg:Str→Option Value}{base:Heap}
abbrev NB(xs:List Int)(rows:List (List Int))(d:Call):Prop:=∃ r,xs=[]∧rows=[r]∧d = .code r
abbrev ND(xs:List Int)(rows:List (List Int))(d:Call):Prop:=∃ r,xs=[]∧rows=[r]∧d = .find r
theorem JQ:ax ["field","given","text","code","fault"] ["field","given"] (ao JN):=⟨rfl,rfl,rfl,by decide +kernel,rfl,by decide +kernel,by decide +kernel⟩
theorem MA{f CF CFd CK fI:Addr}{fd:FuncData}(F:Fun K "answer_code" "answer_code" JN f fd)(T:TFd K CFd)(TKc:TK K CK)(Ta:TA_ mg)(TFt:TF K mg CF fI)(XG:LD K CF)(DI:Dn P w K mg base CX0 1 "is_text" ["row"] (pL K))(DR:Dn P w K mg base (CXF P w CF) 8 "read_code" ["text"] (ja CF CK)):aF P w K mg base CX0 9 f fd ["field","given"] (cW CFd CK NB):=by
 obtain ⟨fi,fdi,gI,hI,kI,bI⟩:=DI;obtain ⟨fr,fdr,gR,hR,kR,bR⟩:=DR;refine F.ok JQ cj (fun cdv A outer s H vs Q E hr h=>?_);obtain ⟨fa,g,c,xs,ps,rows,d,rfl,fo,hg,hrw,⟨r,rfl,rfl,rfl⟩,hln,k⟩:=h;obtain ⟨p1,rfl,hp1⟩:=gQ hrw;have hrl:=hln r mem_cons_self;obtain ⟨⟨dx,ca,pt,h1,h2,h3⟩,gc,ln⟩:=id fo;have nd:=JQ.nd;refine ⟨_,ag (az (i:=2) nd rfl (Or.inl rfl) (aQ aG (pv 1) au (fun _ _=>rfl)))
  (ag (a0 (cq (bf (aD gI (hr.mono (by decide)) rfl hI kI bI .nil aE (aa (pv 2) ah)))) (ai (ay (aH (aa (aY Ta.nb) ah)))) aO)
  (ag (OH (C:=CF) (i:=4) rfl rfl nd rfl rfl TFt.xm.cls (by rfl) TFt.at_ (fun E xe pn up=>ai (az (i:=3) nd rfl (Or.inl rfl) (aD gR hr rfl hR kR bR .nil up.passes (aa (pv 2) ah))))
   (fun e=>ai (ay (aH (aa (aU cX (aY Ta.ft) (LG TFt.xm.cls TFt.xm.hd XG TFt.nP (pv 4) rfl)) ah)))))
  (ag (b9 (pv 0) (pv 3) rfl)
  (ai (ay (aH (aa au (aa (aB (pv 3) rfl) (aa (aJ aC (by rfl) Ta.ln PySem.boot_len (aa (aB (pv 3) rfl) ah)) ah))))))))),?_⟩
 have ea:act c (.code r)=if cJ r=true then (match readCode (r.map toNat) with | .error p=>(c,faultAt p) | .ok c2=>(c2,[0,(c2.holes:Int),(count c2:Int)])) else (c,[-1]):=
  uv c r fun b=>(match readCode b with | .error p=>(c,faultAt p) | .ok c2=>(c2,[0,(c2.holes:Int),(count c2:Int)]))
 rw [ea] at k;refine ⟨_,rfl,g,_,_,_,rfl,rfl,SqL.of hg,at_of (j:=0) (v:=.ref p1) rfl rfl,_,rfl,p1,r,rfl,SqL.of hp1,by rw [sizeLine_eq]; omega,fun H1 s1=>⟨_,rfl,?_⟩⟩;cases hb:cJ r with
 | false=>
  rw [if_neg (by rw [hb]; decide)] at k;refine bz ⟨by show 1≤sizeLine; decide,fun p hp=>?_⟩;have sx:=s1.trans (aj.new (o:=.lst [.int (-1)]) hp);exact k _ p (fo.same sx) ae (aI.of sx)
 | true=>
  rw [if_pos hb] at k;obtain ⟨er,ez,el⟩:=AO hb;rw [er] at hp1;refine b0 ⟨_,rfl,p1,r.map toNat,rfl,s1 _ _ hp1,by rw [length_map]; omega,?_⟩;cases hrc:readCode (r.map toNat) with
  | error p=>
   rw [hrc] at k;intro H2 ea2 d2 fl s2 a2 e2 σ' hσ;cases e2;have h4:(σ'.set 4 (some (V.ref ea2)))[4]? = some (some (.ref ea2)):=getElem?_set_self (by rw [hσ]; show 4<5; decide);refine ⟨_,h4,ea2,d2,_,_,rfl,fl.ex,fl.di,rfl,_,_,rfl,rfl,by show 1≤sizeLine; decide,fun p2 hp2=>?_⟩;have sx:=(s1.trans s2).trans (aj.new (o:=.lst [.int (-1000-(p:Int))]) hp2);exact k _ p2 (fo.same sx) ae (aI.of sx)
  | ok c2=>
   rw [hrc] at k;intro H2 ca2 hc2 fca2 s2;have s12:=s1.trans s2;have h12:=s12 _ _ h1;refine ⟨_,rfl,_,rfl,fa,CFd,dx,_,rfl,h12,T.cl,T.nC,(by show 1<1000; decide),?_⟩;have u:aI fa H2 (upd H2 fa (.ins CFd dx (cn "code" (.ref ca2) [("code",.ref ca)]))):=bu;obtain ⟨dxc,pn,pq,pd,rn,o1,o2,o3,o4,o5⟩:=hc2.ex;have nca:ca2≠fa:=fun z=>by
    rw [z,h12] at o1;injection o1 with o1;injection o1 with _ _ e;unfold kf at e;cases e
   have hc3:=cO.cR hc2 h12 nca u;obtain ⟨dxc3,pn3,pq3,pd3,rn3,q1,q2,q3,q4,q5⟩:=hc3.ex;have hp12:H2 p1=some (.lst (vzs (r.map toNat))):=s12 _ _ hp1;have hp13:=u _ _ hp12 (aW hp12 h12 (by intro z; cases z));have hlen:((vzs ((codeWords c2).map mask)).length:Int)=(count c2:Int):=by rw [length_map,length_map,length_map]; rfl
   have fo2:FO CFd CK (upd H2 fa (.ins CFd dx (cn "code" (.ref ca2) [("code",.ref ca)]))) fa c2:=⟨⟨dx,ca2,p1,ae,hc3,by rw [hp13,lJ hrc]⟩,qm hrc,by rw [lJ hrc,length_map]; omega⟩;refine ⟨_,rfl,ca2,CK,dxc3,_,_,rfl,q1,TKc.cl,TKc.nH,rL _ _ _ _ _ _,_,rfl,ca2,CK,dxc3,_,_,rfl,q1,TKc.cl,TKc.nQ,pH _ _ _ _ _ _,pq3,_,rfl,.inl (SqL.of q4),by show 3≤sizeLine; decide,fun p2 hp2=>?_⟩;rw [hlen];exact k _ p2 (fo2.same (aj.new hp2)) ae (((aI.of s12).trans u).trans (aI.of (aj.new hp2)))
theorem JR:ax ["field","given","wanted","value","name"] ["field","given"] (ao JO):=⟨rfl,rfl,rfl,by decide +kernel,rfl,by decide +kernel,by decide +kernel⟩
theorem GJ{N i:Nat}{p:Nat→Bool}(h:∀ j,j<i→p j=false)(hi:i<N)(hp:p i=true):(List.range N).find? p=some i:=by
 rw [List.find?_eq_some_iff_getElem];exact ⟨hp,i,by rw [length_range]; exact hi,by rw [getElem_range],fun j hj=>by rw [getElem_range,h j hj]; rfl⟩
theorem find_none{N:Nat}{p:Nat→Bool}(h:∀ j,j<N→p j=false):(List.range N).find? p=none:=by
 rw [List.find?_eq_none];intro x hx;rw [h x (mem_range.mp hx)];decide
theorem MB{f CFd CK:Addr}{fd:FuncData}(F:Fun K "answer_find" "answer_find" JO f fd)(T:TFd K CFd)(TKc:TK K CK)(Ta:TA_ mg)(DI:Dn P w K mg base CX0 1 "is_text" ["row"] (pL K)):aF P w K mg base CX0 2 f fd ["field","given"] (cW CFd CK ND):=by
 obtain ⟨fi,fdi,gI,hI,kI,bI⟩:=DI;refine F.ok JR cj (fun cdv A outer s H vs Q E hr h=>?_);obtain ⟨fa,g,c,xs,ps,rows,d,rfl,fo,hg,hrw,⟨r,rfl,rfl,rfl⟩,hln,k⟩:=h;obtain ⟨p1,rfl,hp1⟩:=gQ hrw;have hrl:=hln r mem_cons_self;obtain ⟨⟨dx,ca,pt,h1,h2,h3⟩,gc,ln⟩:=id fo;obtain ⟨dxc,pn,pq,pd,rn,o1,o2,o3,o4,o5⟩:=h2.ex;have nd:=JR.nd;refine ⟨_,ag (az (i:=2) nd rfl (Or.inl rfl) (aQ aG (pv 1) au (fun _ _=>rfl)))
  (ag (a0 (cq (bf (aD gI hr rfl hI kI bI .nil aE (aa (pv 2) ah)))) (ai (ay (aH (aa (aY Ta.nb) ah)))) aO)
  (ag (cu PassesOwn.never rfl (dt (by rfl) Ta.en (aa (aB (aB (pv 0) rfl) rfl) ah)) (d7 rfl (ba (aM (i:=3) nd rfl (Or.inl rfl)) (ba (aM (i:=4) nd rfl (Or.inl rfl)) da)))
   (ai (a0 (aK (BR hr.units) (pv 4) (pv 2) (aN _)) (ai (ay (aH (aa (pv 3) ah)))) aO)))
  (ai (ay (aH (aa (aY Ta.nv) ah)))))),?_⟩
 have ea:act c (.find r)=if cJ r=true then (c,match (List.range (count c)).find? fun v=>nameOf c v==r.map toNat with | none=>[-5] | some v=>[(v:Int)]) else (c,[-1]):=
  uv c r fun b=>(c,match (List.range (count c)).find? fun v=>nameOf c v==b with | none=>[-5] | some v=>[(v:Int)])
 rw [ea] at k;refine ⟨_,rfl,g,_,_,_,rfl,rfl,SqL.of hg,at_of (j:=0) (v:=.ref p1) rfl rfl,_,rfl,p1,r,rfl,SqL.of hp1,by rw [sizeLine_eq]; omega,fun H1 s1=>⟨_,rfl,?_⟩⟩;cases hb:cJ r with
 | false=>
  rw [if_neg (by rw [hb]; decide)] at k;refine bz ⟨by show 1≤sizeLine; decide,fun p hp=>?_⟩;have sx:=s1.trans (aj.new (o:=.lst [.int (-1)]) hp);exact k _ p (fo.same sx) ae (aI.of sx)
 | true=>
  rw [if_pos hb] at k;obtain ⟨er,ez,el⟩:=AO hb;refine b0 ⟨_,rfl,fa,CFd,dx,_,_,rfl,s1 _ _ h1,T.cl,T.nC,rfl,ca,CK,dxc,_,_,rfl,s1 _ _ o1,TKc.cl,TKc.nN,Ru _ _ _ _ _ _,pn,_,rfl,SqL.of (s1 _ _ o2),c6 (K:=K) (a:=pn) (xs:=rn.map V.ref) (fun i σ H'=>∃ v3 v4:Option V,σ=[some (.ref fa),some (.ref g),some (.ref p1),v3,v4]∧aj H H'∧∀ j,j<i→(nameOf c j==r.map toNat)=false) ⟨none,none,rfl,s1,fun j hj=>absurd hj (not_lt_zero _)⟩ (fun i σ H' _ ⟨_,_,_,s2,_⟩=>SqL.of (s2 _ _ o2)) ?_ ?_⟩
  ·rintro i x σ H2 T' hi hT ⟨v3,v4,rfl,s2,hno⟩;obtain ⟨rr,m,rfl,hm,hr1⟩:=aL.at_ (o3.mono s2) hi;have hic:i<count c:=by
    have:=(List.getElem?_eq_some_iff.mp hm).1;rw [length_map,length_range] at this;exact this
   rw [AL hic] at hm;cases hm;have s3:aj H2 (upd H2 T' (.tup [.int (i:Nat),.ref rr])):=aj.new hT;have s23:=s2.trans s3;refine ⟨T',_,rfl,SqT.of ae,rfl,_,_,rfl,_,_,rfl,rfl,?_⟩;refine ⟨_,rfl,_,rfl,rr,p1,zs (nameOf c i),r,rfl,rfl,SqL.of (s3 _ _ hr1),SqL.of (s23 _ _ hp1),_,rfl,?_⟩;have eb:(zs (nameOf c i)==r)=(nameOf c i==r.map toNat):=by
    conv=>lhs; rw [← ez]
    exact Cc _ _
   rw [eb];cases hn:(nameOf c i==r.map toNat) with
   | true=>
    rw [GJ hno hic hn] at k;refine bz ⟨_,rfl,by show 1≤sizeLine; decide,fun p hp=>?_⟩;have sx:=s23.trans (aj.new (o:=.lst [.int (i:Int)]) hp);exact k _ p (fo.same sx) ae (aI.of sx)
   | false=>
    refine b0 ⟨_,_,rfl,s23,fun j hj=>?_⟩;by_cases e:j=i
    ·rw [e]; exact hn
    ·exact hno j (by omega)
  ·rintro σ H2 ⟨v3,v4,rfl,s2,hno⟩;rw [length_map,o3.len,length_map,length_range] at hno;rw [find_none hno] at k;refine ⟨by show 1≤sizeLine; decide,fun p hp=>?_⟩;have sx:=s2.trans (aj.new (o:=.lst [.int (-5)]) hp);exact k _ p (fo.same sx) ae (aI.of sx)
end
abbrev yL:Stmt:=top 86
abbrev CI:Stmt:=top 87
abbrev Pz:Stmt:=top 88
theorem MC{K:PySem.W.Frag}{a:Addr}{xs:List V}{g:TG}{tt:TT}{te:TE}{vs:List Nat}{σ:L2.St}{H1:Hp}{D:Addr}{Qd:Hp→Prop}(Pv:Nat→Hp→Prop)(h0:Pv 0 (upd H1 D (.lst [])))(hl:∀ i H,i≤xs.length→Pv i H→SqL K H a xs)
  (hs:∀ i x H T,xs[i]? = some x→H T=none→Pv i H→g (.ref T) (wipe σ vs) (upd H T (.tup [.int (i:Nat),x])) fun σ2 H2=>wipe σ2 vs=wipe σ vs∧tt σ2 H2 fun b H3=>
   if b=true then te σ2 H3 fun y H4=>∃ acc,H4 D=some (.lst acc)∧acc.length<sizeLine∧Pv (i+1) (upd H4 D (.lst (acc++[y]))) else Pv (i+1) H3) (hd:∀ H,Pv xs.length H→Qd H) :
  ∃ W:Nat→Nat→Hp→Prop,(∃ m,W 0 m (upd H1 D (.lst [])))∧∀ i m H,W i m H →
   ((Ite K a).stop i H∧Qd H)∨((Ite K a).go i H∧∃ Nx:Hp→Prop,(∀ H',Nx H'→∃ m',m'<m∧W (i+1) m' H')∧∀ x H',(Ite K a).yld i H x H'→g x (wipe σ vs) H' fun σ2 H2=>wipe σ2 vs=wipe σ vs∧tt σ2 H2 fun b H3=>
    if b=true then te σ2 H3 fun y H4=>∃ acc,H4 D=some (.lst acc)∧acc.length<sizeLine∧Nx (upd H4 D (.lst (acc++[y]))) else Nx H3):=by
 refine ⟨fun i m H=>m=xs.length-i∧i≤xs.length∧Pv i H,⟨_,_root_.rfl,zero_le _,h0⟩,?_⟩;rintro i m H ⟨rfl,hi,p⟩;have q:=hl i H hi p;by_cases hlt:i<xs.length
 ·refine .inr ⟨⟨xs,xs[i],q,getElem?_eq_getElem hlt⟩,Pv (i+1),fun H' p'=>⟨xs.length-(i+1),by omega,_root_.rfl,hlt,p'⟩,fun v H' y=>?_⟩;obtain ⟨T,x,ev,hT,eH,y⟩:=y;subst ev eH;exact hs i x H T (y xs q) hT p
 ·have e:i=xs.length:=by omega
  subst e;exact .inl ⟨⟨xs,q,le_refl _⟩,hd H p⟩
abbrev nsC(c:Vbenab.Code):List Nat:=(codeWords c).map mask
theorem xh{ns:List Nat}{i x:Nat}(h:ns[i]? = some x):nt ns i=x:=by
 unfold nt;rw [getD_eq_getElem?_getD,h];rfl
section
variable {P:Program}{w:World}{K:PySem.W.Frag}{mg:Str→Option Value}{base:Heap}
abbrev JT(xs:List Int)(rows:List (List Int))(d:Call):Prop:=∃ r,xs=[]∧rows=[r]∧d = .falls r
abbrev JU(xs:List Int)(rows:List (List Int))(d:Call):Prop:=xs=[]∧rows=[]∧d = .clean
theorem Fn:ax ["field","given","code","needled","wanted","value","notches"] ["field","given"] (ao yL):=⟨rfl,rfl,rfl,by decide +kernel,rfl,by decide +kernel,by decide +kernel⟩
theorem JV{f CFd CK:Addr}{fd:FuncData}(F:Fun K "answer_falls" "answer_falls" yL f fd)(T:TFd K CFd)(TKc:TK K CK)(Ta:TA_ mg)(DR:Dn P w K mg base CX0 1 "rises" ["row","least","most"] (pK K))(DN:Dn P w K mg base CX0 2 "notches_of" ["marks"] (cG K))(DC:Dn P w K mg base CX0 1 "counted" ["row"] dM):aF P w K mg base CX0 3 f fd ["field","given"] (cW CFd CK JT):=by
 obtain ⟨fr,fdr,gR,hR,kR,bR⟩:=DR;obtain ⟨fn,fdn,gN,hN,kN,bN⟩:=DN;obtain ⟨fc,fdc,gC,hC,kC,bC⟩:=DC;refine F.ok Fn cj (fun cdv A outer s H vs Q E hr h=>?_);obtain ⟨fa,g,c,xs,ps,rows,d,rfl,fo,hg,hrw,⟨r,rfl,rfl,rfl⟩,hln,k⟩:=h;obtain ⟨p1,rfl,hp1⟩:=gQ hrw;obtain ⟨⟨dx,ca,pt,h1,h2,h3⟩,gc,ln⟩:=id fo;obtain ⟨dxc,pn,pq,pd,rn,o1,o2,o3,o4,o5⟩:=h2.ex;have nd:=Fn.nd;have hr1:cM 1 _:=hr.mono (by decide);refine ⟨_,ag (az (i:=2) nd rfl (Or.inl rfl) (aB (pv 0) rfl)) (ag (az (i:=3) nd rfl (Or.inl rfl) (aQ aG (pv 1) au (fun _ _=>rfl)))
  (ag (a0 (cq (bf (aD gR hr1 rfl hR kR bR .nil aE (aa (pv 3) (aa au (aa (aB (pv 2) rfl) ah)))))) (ai (ay (aH (aa (aY Ta.nr) ah)))) aO)
  (ag (az (i:=4) nd rfl (by first | exact Or.inl rfl | exact Or.inr rfl) (aD gN hr rfl hN kN bN .nil aE (aa (pv 3) ah)))
  (ai (ay (aD gC hr1 rfl hC kC bC .nil aE (aa (lW (own:=[("value",5),("notches",6)]) rfl nd (dt (by rfl) Ta.en (aa (aB (pv 2) rfl) ah)) (cy (by show lQ ["field","given","code","needled","wanted","value","notches"] (ao yL) _ _=true; decide +kernel))
   (fun s H C cl fp=>(d7 rfl (ba (aM (i:=5) nd rfl (Or.inl rfl)) (ba (aM (i:=6) nd rfl (Or.inl rfl)) da)):PG _ _ (QY K 2 _))) (fun s H C cl fp=>oM (aK dH (aU pW (pv 6) (pv 4)) (pv 4) (aN _))) (fun s H C cl fp=>pv 5)) ah))))))),?_⟩
 refine ⟨_,rfl,fa,CFd,dx,_,_,rfl,h1,T.cl,T.nC,rfl,_,rfl,g,_,_,_,rfl,rfl,SqL.of hg,at_of (j:=0) (v:=.ref p1) rfl rfl,_,rfl,_,rfl,ca,CK,dxc,_,_,rfl,o1,TKc.cl,TKc.nH,rL _ _ _ _ _ _,p1,r,1,_,rfl,SqL.of hp1,_,rfl,?_⟩;have ea:act c (.falls r)=if bg (c.holes:Int) 1 r=true then (c,listed (fallen c (r.map toNat))) else (c,[-4]):=
  tL c r fun l=>(c,listed (fallen c l))
 rw [ea] at k;cases hb:bg (c.holes:Int) 1 r with
 | false=>
  rw [if_neg (by rw [hb]; decide)] at k;refine bz ⟨by show 1≤sizeLine; decide,fun p hp=>?_⟩;exact k _ p (fo.same (aj.new hp)) ae (aI.of (aj.new hp))
 | true=>
  rw [if_pos hb] at k;obtain ⟨hris,hpos⟩:=qk (lo:=1) hb;have er:r.map V.int=vzs (r.map toNat):=yK fun x hx=>by have:=hpos x hx; omega
  rw [FZ gc.gw hris] at k;have h8:=gc.gw.hn;have hc2:(nsC c).length≤70:=by rw [length_map]; exact gc.c2
  obtain ⟨M,hM⟩:∃ M,M=mask (r.map toNat):=⟨_,rfl⟩;rw [← hM] at k;refine b0 ⟨_,rfl,p1,r.map toNat,rfl,SqL.of (by rw [← er]; exact hp1),fun h hh=>by have:=hris.mem hh; omega,?_⟩;rw [← hM];refine ⟨_,rfl,ca,CK,dxc,_,_,rfl,o1,TKc.cl,TKc.nQ,pH _ _ _ _ _ _,pq,_,rfl,SqL.of o4,fun D hD=>?_⟩;refine MC (K:=K) (a:=pq) (xs:=vzs (nsC c)) (fun i H'=>aj H H'∧H' D=some (.lst (vzs ((List.range i).filter fun v=>(nt (nsC c) v &&& M)==M)))) ⟨aj.new hD,ae⟩ (fun i H' _ e=>SqL.of (e.1 _ _ o4)) (fun i xv H' T' hx hT ⟨e1,e2⟩=>?_) fun H' ⟨e1,e2⟩=>?_
  ·obtain ⟨x,hx2,rfl⟩:=de hx;have hlt:=(List.getElem?_eq_some_iff.mp hx2).1;have s3:aj H' (upd H' T' (.tup [.int (i:Nat),.int (x:Int)])):=aj.new hT;refine ⟨T',_,rfl,SqT.of ae,rfl,_,_,rfl,_,_,rfl,rfl,?_⟩;refine ⟨rfl,?_⟩;refine ⟨_,rfl,_,rfl,_,_,rfl,rfl,_,rfl,rfl,_,rfl,?_⟩;show if decide (V.int (Builtin.bitAnd (x:Int) (M:Int))=V.int (M:Int))=true then _ else _
   have ed:decide (V.int (Builtin.bitAnd (x:Int) (M:Int))=V.int (M:Int))=((nt (nsC c) i &&& M)==M):=by
    rw [lF,xh hx2,Bool.eq_iff_iff,decide_eq_true_eq,beq_iff_eq];exact ⟨b8,fun z=>by rw [z]⟩
   rw [ed,range_succ,filter_append];cases hz:((nt (nsC c) i &&& M)==M) with
   | true=>
    refine bz ⟨_,rfl,_,s3 _ _ e2,?_,fun b o e=>?_,?_⟩
    ·rw [length_map,length_map,sizeLine_eq];have a1:=length_filter_le (fun v=>(nt (nsC c) v &&& M)==M) (List.range i);rw [length_range] at a1;omega
    ·rw [aq (ak e hD)];exact s3 _ _ (e1 b o e)
    ·rw [ae,filter_cons_of_pos (p:=fun v=>(nt (nsC c) v &&& M)==M) (a:=i) hz,filter_nil,bj]
   | false=>
    refine b0 ⟨e1.trans s3,?_⟩;rw [filter_cons_of_neg (p:=fun v=>(nt (nsC c) v &&& M)==M) (a:=i) (by show ¬ ((nt (nsC c) i &&& M)==M)=true; rw [hz]; decide),filter_nil,append_nil];exact s3 _ _ e2
  ·rw [length_map,length_map] at e2;have hl:(vzs ((List.range (nsC c).length).filter fun v=>(nt (nsC c) v &&& M)==M)).length=((List.range (nsC c).length).filter fun v=>(nt (nsC c) v &&& M)==M).length:=by rw [length_map,length_map]
   refine ⟨D,_,rfl,e2,?_,fun H1 p2 s1 f1 hp2=>?_⟩
   ·rw [hl,sizeLine_eq];have a1:=length_filter_le (fun v=>(nt (nsC c) v &&& M)==M) (List.range (nsC c).length);rw [length_range] at a1;omega
   ·have sx:=e1.trans s1;refine k H1 p2 (fo.same sx) ?_ (aI.of sx);rw [hp2,hl];rfl
theorem Fo:ax ["field","given","value","notches","other","others"] ["field","given"] (ao CI):=⟨rfl,rfl,rfl,by decide +kernel,rfl,by decide +kernel,by decide +kernel⟩
theorem vD{β:Type}{N i:Nat}{f:Nat→Option β}{y : β}(h:∀ j,j<i→f j=none)(hi:i<N)(hp:f i=some y):(List.range N).findSome? f=some y:=by
 have e:List.range N=List.range i++(i::range' (i+1) (N-i-1)):=by
  rw [List.range_eq_range',List.range_eq_range',show N=i+(N-i-1+1) by omega,← List.range'_append_1,zero_add];congr 1;rw [List.range'_succ,show i+(N-i-1+1)-i-1=N-i-1 by omega]
 rw [e,List.findSome?_append,List.findSome?_eq_none_iff.mpr fun x hx=>h x (mem_range.mp hx),Option.none_or,List.findSome?_cons,hp]
theorem JW{f CFd CK:Addr}{fd:FuncData}(F:Fun K "answer_clean" "answer_clean" CI f fd)(T:TFd K CFd)(TKc:TK K CK)(Ta:TA_ mg):aF P w K mg base CX0 1 f fd ["field","given"] (cW CFd CK JU):=by
 refine F.ok Fo cj (fun cdv A outer s H vs Q E hr h=>?_);obtain ⟨fa,g,c,xs,ps,rows,d,rfl,fo,hg,hrw,⟨rfl,rfl,rfl⟩,hln,k⟩:=h;obtain ⟨⟨dx,ca,pt,h1,h2,h3⟩,gc,ln⟩:=id fo;obtain ⟨dxc,pn,pq,pd,rn,o1,o2,o3,o4,o5⟩:=h2.ex;have nd:=Fo.nd;refine ⟨_,ag (cu PassesOwn.never rfl (dt (by rfl) Ta.en (aa (aB (aB (pv 0) rfl) rfl) ah)) (d7 rfl (ba (aM (i:=2) nd rfl (Or.inl rfl)) (ba (aM (i:=3) nd rfl (Or.inl rfl)) da)))
   (ai (cu PassesOwn.never rfl (dt (by rfl) Ta.en (aa (aB (aB (pv 0) rfl) rfl) ah)) (d7 rfl (ba (aM (i:=4) nd rfl (Or.inl rfl)) (ba (aM (i:=5) nd rfl (Or.inl rfl)) da)))
    (ai (a0 (PW.pt (sE (aK sM (pv 2) (pv 4) (aN _)) (oE (aK dH (aU pW (pv 3) (pv 5)) (pv 3) (aN _))))) (ai (ay (aH (aa au (aa (pv 2) (aa (pv 4) ah)))))) aO)))))
  (ai (ay (aH (aa au ah)))),?_⟩
 have ea:act c .clean=(c,match (List.range (nsC c).length).findSome? (mB (nsC c)) with | none=>[1] | some x=>[0,(x.1:Int),(x.2:Int)]):=by
  rw [← F0 gc.gw];rfl
 rw [ea] at k;refine ⟨_,rfl,fa,CFd,dx,_,_,rfl,h1,T.cl,T.nC,rfl,ca,CK,dxc,_,_,rfl,o1,TKc.cl,TKc.nQ,pH _ _ _ _ _ _,pq,_,rfl,SqL.of o4,c6 (K:=K) (a:=pq) (xs:=vzs (nsC c)) (fun i σ H'=>∃ v2 v3 v4 v5:Option V,σ=[some (.ref fa),some (.ref g),v2,v3,v4,v5]∧aj H H'∧∀ j,j<i→mB (nsC c) j=none) ⟨none,none,none,none,rfl,aj.rfl,fun j hj=>absurd hj (not_lt_zero _)⟩ (fun i σ H' _ ⟨_,_,_,_,_,s2,_⟩=>SqL.of (s2 _ _ o4)) ?_ ?_⟩
 ·rintro i xv σ H1 T' hi hT ⟨v2,v3,v4,v5,rfl,s1,hno⟩;obtain ⟨x,hx,rfl⟩:=de hi;have hlt:=(List.getElem?_eq_some_iff.mp hx).1;have s2:aj H1 (upd H1 T' (.tup [.int (i:Nat),.int (x:Int)])):=aj.new hT;have s12:=s1.trans s2;refine ⟨T',_,rfl,SqT.of ae,rfl,_,_,rfl,_,_,rfl,rfl,?_⟩;refine ⟨_,rfl,fa,CFd,dx,_,_,rfl,s12 _ _ h1,T.cl,T.nC,rfl,ca,CK,dxc,_,_,rfl,s12 _ _ o1,TKc.cl,TKc.nQ,pH _ _ _ _ _ _,pq,_,rfl,SqL.of (s12 _ _ o4),c6 (K:=K) (a:=pq) (xs:=vzs (nsC c)) (fun j σ H'=>∃ v4 v5:Option V,σ=[some (.ref fa),some (.ref g),some (.int (i:Int)),some (.int (x:Int)),v4,v5]∧aj H H'∧∀ j',j'<j→(j' != i&&((nt (nsC c) i &&& nt (nsC c) j')==nt (nsC c) i))=false) ⟨v4,v5,rfl,s12,fun j hj=>absurd hj (not_lt_zero _)⟩ (fun i σ H' _ ⟨_,_,_,s3,_⟩=>SqL.of (s3 _ _ o4)) ?_ ?_⟩
  ·rintro j yv σ H2 T2 hj hT2 ⟨v4,v5,rfl,s3,hno2⟩;obtain ⟨y,hy,rfl⟩:=de hj;have hlt2:=(List.getElem?_eq_some_iff.mp hy).1;have s4:aj H2 (upd H2 T2 (.tup [.int (j:Nat),.int (y:Int)])):=aj.new hT2;have s34:=s3.trans s4;refine ⟨T2,_,rfl,SqT.of ae,rfl,_,_,rfl,_,_,rfl,rfl,?_⟩;refine ⟨_,rfl,_,rfl,rfl,_,rfl,?_⟩;have e1:(!decide (V.int (i:Int)=V.int (j:Int)))=(j != i):=by
    rw [fj,Bool.eq_iff_iff,bne_iff_ne,Bool.not_eq_true',decide_eq_false_iff_not];omega
   have e2:decide (V.int (Builtin.bitAnd (x:Int) (y:Int))=V.int (x:Int))=((nt (nsC c) i &&& nt (nsC c) j)==nt (nsC c) i):=by
    rw [lF,xh hx,xh hy,Bool.eq_iff_iff,decide_eq_true_eq,beq_iff_eq];exact ⟨b8,fun z=>by rw [z]⟩
   have go:(j != i&&((nt (nsC c) i &&& nt (nsC c) j)==nt (nsC c) i))=false→∃ v4 v5:Option V,[some (V.ref fa),some (V.ref g),some (V.int (i:Int)),some (V.int (x:Int)),some (V.int (j:Int)),some (V.int (y:Int))]=[some (.ref fa),some (.ref g),some (.int (i:Int)),some (.int (x:Int)),v4,v5]∧aj H (upd H2 T2 (.tup [.int (j:Nat),.int (y:Int)]))∧∀ j',j'<j+1→(j' != i&&((nt (nsC c) i &&& nt (nsC c) j')==nt (nsC c) i))=false:=fun hf=>⟨_,_,rfl,s34,fun j' hj'=>by
    by_cases e:j'=j
    ·rw [e]; exact hf
    ·exact hno2 j' (by omega)⟩
   show if (!decide (V.int (i:Int)=V.int (j:Int)))=true then _ else _
   rw [e1];cases hji:(j != i) with
   | false=>exact b0 (b0 (go (by rw [hji]; rfl)))
   | true=>
    refine bz ⟨_,rfl,_,rfl,_,_,rfl,rfl,_,rfl,rfl,_,rfl,?_⟩;show if decide (V.int (Builtin.bitAnd (x:Int) (y:Int))=V.int (x:Int))=true then _ else _
    rw [e2];cases hz:((nt (nsC c) i &&& nt (nsC c) j)==nt (nsC c) i) with
    | false=>exact b0 (go (by rw [hz,Bool.and_false]))
    | true=>
     refine bz ⟨_,rfl,_,rfl,by show 3≤sizeLine; decide,fun p hp=>?_⟩;have ef:mB (nsC c) i=some (i,j):=by
      unfold mB;have e3:(List.range (nsC c).length).find? (fun w=>w != i&&((nt (nsC c) i &&& nt (nsC c) w)==nt (nsC c) i))=some j:=by
       rw [List.find?_eq_some_iff_getElem];exact ⟨by rw [hji,hz]; rfl,j,by rw [length_range]; exact hlt2,by rw [getElem_range],fun j' hj'=>by rw [getElem_range,hno2 j' hj']; rfl⟩
      rw [e3];rfl
     rw [vD hno hlt ef] at k;have sx:=s34.trans (aj.new (o:=.lst [.int 0,.int (i:Int),.int (j:Int)]) hp);exact k _ p (fo.same sx) ae (aI.of sx)
  ·rintro σ H2 ⟨v4,v5,rfl,s3,hno2⟩;rw [length_map,length_map] at hno2;refine ⟨_,_,_,_,rfl,s3,fun j hj=>?_⟩;by_cases e:j=i
   ·rw [e];unfold mB;rw [List.find?_eq_none.mpr fun w hw=>by rw [hno2 w (mem_range.mp hw)]; decide];rfl
   ·exact hno j (by omega)
 ·rintro σ H1 ⟨v2,v3,v4,v5,rfl,s1,hno⟩;rw [length_map,length_map] at hno;rw [List.findSome?_eq_none_iff.mpr fun x hx=>hno x (mem_range.mp hx)] at k;refine ⟨by show 1≤sizeLine; decide,fun p hp=>?_⟩;have sx:=s1.trans (aj.new (o:=.lst [.int 1]) hp);exact k _ p (fo.same sx) ae (aI.of sx)
end
abbrev JX:Stmt:=top 89
abbrev CJ:Stmt:=top 90
theorem MD:((List.range 256).all fun x=>dY 8 x==x % 2+dY 8 (x / 2))=true:=by decide +kernel
theorem JY{x:Nat}(h:x<256):dY 8 x=x % 2+dY 8 (x / 2):=beq_iff_eq.mp (all_eq_true.mp MD x (mem_range.mpr h))
theorem ME:((List.range 256).all fun a=>(List.range 256).all fun b=>Nat.beq (a ||| b) ((a ^^^ b)+(a &&& b)))=true:=by decide +kernel
theorem MF{a b:Nat}(ha:a<256)(hb:b<256):Builtin.bitXor (a:Int) (b:Int)=((a ^^^ b:Nat):Int):=by
 have z:=Nat.eq_of_beq_eq_true (all_eq_true.mp (all_eq_true.mp ME a (mem_range.mpr ha)) b (mem_range.mpr hb));unfold Builtin.bitXor;rw [yu,lF];omega
def xi(o:Option (Nat×Nat×Nat)):List Int:=match o with
 | none=>[0]
 | some y=>[(y.1:Int),(y.2.1:Int),(y.2.2:Int)]
theorem JZ(y:Nat×Nat×Nat):(xi (some y)==[0])=false:=by
 rw [beq_eq_false_iff_ne];intro h;have z:(3:Nat)=1:=congrArg length h;exact absurd z (by decide)
theorem J1{α:Type}(f : α→Nat→α)(o : α)(i k:Nat):(range' i (k+1)).foldl f o=f ((range' i k).foldl f o) (i+k):=by
 rw [range'_concat,foldl_append,one_mul];rfl
def c9(l:List (Nat×Nat×Nat)):List Int:=l.flatMap fun x=>Vbenab.ints [x.1,x.2.1,x.2.2]
theorem lM:∀ l:List (Nat×Nat×Nat),(c9 l).length=3*l.length
 | []=>rfl
 | x::l=>by
  show (Vbenab.ints [x.1,x.2.1,x.2.2]++c9 l).length=_;rw [length_append,lM l,length_cons];show 3+_=_;omega
theorem GK(a b:List (Nat×Nat×Nat)):c9 (a++b)=c9 a++c9 b:=by
 unfold c9;rw [flatMap_append]
theorem AQ(H:Nat)(ns:List Nat)(v:Nat):(bZ H ns v).length≤H:=by
 unfold bZ;refine le_trans (List.length_filterMap_le _ _) ?_;rw [length_range'];exact le_refl _
theorem xj(H:Nat)(ns:List Nat):∀ k,((List.range k).flatMap (bZ H ns)).length≤k*H
 | 0=>zero_le _
 | k+1=>by
  rw [range_succ,flatMap_append,length_append,Nat.succ_mul];have a:=xj H ns k;have b:=AQ H ns k;have e:([k].flatMap (bZ H ns)).length=(bZ H ns k).length:=by
   show ((bZ H ns k)++[]).length=_;rw [append_nil]
  omega
section
variable {P:Program}{w:World}{K:PySem.W.Frag}{mg:Str→Option Value}{base:Heap}
def J5:Sp:=fun vs H Q _=>∃ n:Nat,vs=[.int (n:Int)]∧n<256∧Q (.int ((dY 8 n:Nat):Int)) H
theorem NF:ax ["notches","count","left"] ["notches"] (ao Pz):=⟨rfl,rfl,rfl,by decide +kernel,rfl,by decide +kernel,by decide +kernel⟩
theorem PB{f:Addr}{fd:FuncData}(F:Fun K "how_many" "how_many" Pz f fd):aF P w K mg base CX0 1 f fd ["notches"] J5:=by
 refine F.ok NF (fun vs H Q E h=>?_) (fun cdv A outer s H vs Q E hr h=>?_)
 ·obtain ⟨n,rfl,_⟩:=h;rfl
 ·obtain ⟨n,rfl,hn,k⟩:=h;have nd:=NF.nd;refine ⟨_,ag (az (i:=1) nd rfl (Or.inl rfl) au) (ag (az (i:=2) nd rfl (Or.inl rfl) (pv 0))
   (ag (cS PassesOwn.never (aK eJ (pv 2) au (aN _)) (ag (mj (i:=1) nd rfl (Or.inl rfl) (aU pW (pv 2) au) xV) (ai (mj (i:=2) nd rfl (Or.inl rfl) au Lh))))
   (ai (ay (pv 1))))),?_⟩
  refine ⟨_,rfl,fun m σ H'=>H'=H∧∃ cnt:Nat,σ=[some (.int (n:Int)),some (.int (cnt:Int)),some (.int (m:Int))]∧m<256∧cnt+dY 8 m=dY 8 n,⟨n,rfl,0,rfl,hn,zero_add _⟩,?_⟩;rintro m σ H' ⟨rfl,cnt,rfl,hm,hc⟩;refine ⟨_,rfl,_,_,rfl,rfl,_,rfl,cg (fun hgt=>?_) fun hgt=>?_⟩
  ·have hgt:(0:Int)<(m:Int):=hgt;refine ⟨fun σ' H1=>∃ m',m'<m∧H1=H'∧∃ cnt:Nat,σ'=[some (.int (n:Int)),some (.int (cnt:Int)),some (.int (m':Int))]∧m'<256∧cnt+dY 8 m'=dY 8 n,fun _ _ z=>z,?_⟩;refine ⟨_,rfl,_,rfl,_,_,rfl,rfl,_,_,rfl,rfl,_,rfl,_,_,rfl,rfl,(by show (0:Int)≤1; decide),?_⟩;have e1:Builtin.bitAnd (m:Int) 1=((m % 2:Nat):Int):=by
    have z:=lF m 1;rw [Nat.and_one_is_mod] at z;exact z
   refine ⟨m / 2,by omega,rfl,cnt+m % 2,?_,by omega,?_⟩
   ·show [some (V.int (n:Int)),some (V.int ((cnt:Int)+Builtin.bitAnd (m:Int) 1)),some (V.int ((m:Int) / 2 ^ (1:Int).toNat))]=_;rw [e1,show ((m:Int) / 2 ^ (1:Int).toNat)=((m / 2:Nat):Int) by show (m:Int) / 2 ^ 1=_; omega,show (cnt:Int)+((m % 2:Nat):Int)=((cnt+m % 2:Nat):Int) by omega]
   ·rw [JY hm] at hc;omega
  ·obtain rfl:m=0:=by have:¬ (0:Int)<(m:Int):=hgt; omega
   have hc:cnt=dY 8 n:=hc;rw [← hc] at k;exact ⟨_,rfl,k⟩
abbrev NG(xs:List Int)(rows:List (List Int))(d:Call):Prop:=xs=[]∧rows=[]∧d = .nearest
abbrev J6(xs:List Int)(rows:List (List Int))(d:Call):Prop:=xs=[]∧rows=[]∧d = .slips
theorem Fp{c:Vbenab.Code}(g:GoodC c){i x:Nat}(h:(nsC c)[i]? = some x):x<256:=by
 rw [getElem?_map] at h;cases e:(codeWords c)[i]? with
 | none=>
  rw [e] at h;cases h
 | some m=>
  rw [e] at h;cases h;exact (EI (g.gw.ri m (mem_of_getElem? e)) g.gw.hn).2
theorem J7:ax ["field","given","rows","nearest","value","notches","other","apart"] ["field","given"] (ao JX):=⟨rfl,rfl,rfl,by decide +kernel,rfl,by decide +kernel,by decide +kernel⟩
theorem MG{f CFd CK:Addr}{fd:FuncData}(F:Fun K "answer_nearest" "answer_nearest" JX f fd)(T:TFd K CFd)(TKc:TK K CK)(Ta:TA_ mg)(DH:Dn P w K mg base CX0 1 "how_many" ["notches"] J5):aF P w K mg base CX0 2 f fd ["field","given"] (cW CFd CK NG):=by
 obtain ⟨fh,fdh,gH,hH,kH,bH⟩:=DH;refine F.ok J7 cj (fun cdv A outer s H vs Q E hr h=>?_);obtain ⟨fa,g,c,xs,ps,rows,d,rfl,fo,hg,hrw,⟨rfl,rfl,rfl⟩,hln,k⟩:=h;obtain ⟨⟨dx,ca,pt,h1,h2,h3⟩,gc,ln⟩:=id fo;obtain ⟨dxc,pn,pq,pd,rn,o1,o2,o3,o4,o5⟩:=h2.ex;have nd:=J7.nd;refine ⟨_,ag (az (i:=2) nd rfl (Or.inl rfl) (aB (aB (pv 0) rfl) rfl)) (ag (az (i:=3) nd rfl (Or.inl rfl) (aH (aa au ah)))
  (ag (cu PassesOwn.never rfl (dt (by rfl) Ta.en (aa (pv 2) ah)) (d7 rfl (ba (aM (i:=4) nd rfl (Or.inl rfl)) (ba (aM (i:=5) nd rfl (Or.inl rfl)) da)))
   (ai (cu PassesOwn.never rfl (iG rfl Ta.rg (aa (aU cz (pv 4) au) (aa (aJ aC (by rfl) Ta.ln PySem.boot_len (aa (pv 2) ah)) ah))) (aM (i:=6) nd rfl (Or.inl rfl))
    (ag (az (i:=7) nd rfl (Or.inl rfl) (aD gH hr rfl hH kH bH .nil aE (aa (aU Oe (pv 5) (aQ aG (pv 2) (pv 6) (fun _ _=>rfl))) ah)))
    (ai (a0 (PW.pt (jB (aK (BR hr.units) (pv 3) (aH (aa au ah)) (aN _)) (hJ (aK eZ (pv 7) (aQ aG (pv 3) au (fun _ _=>rfl)) (aN _))))) (ai (az (i:=3) nd rfl (Or.inl rfl) (aH (aa (pv 7) (aa (pv 4) (aa (pv 6) ah)))))) aO))))))
  (ai (ay (pv 3))))),?_⟩
 have ea:act c .nearest=(c,xi ((List.range (nsC c).length).foldl (gx (nsC c)) none)):=by
  rw [← B1 gc.gw];show (c,match nearest c with | none=>[0] | some x=>Vbenab.ints [x.1,x.2.1,x.2.2])=_;cases nearest c with
  | none=>rfl
  | some x=>rfl
 rw [ea] at k;have hc2:(nsC c).length≤70:=by rw [length_map]; exact gc.c2
 have hlen:((vzs (nsC c)).length:Int)=((nsC c).length:Int):=by rw [length_map,length_map]
 refine ⟨_,rfl,fa,CFd,dx,_,_,rfl,h1,T.cl,T.nC,rfl,ca,CK,dxc,_,_,rfl,o1,TKc.cl,TKc.nQ,pH _ _ _ _ _ _,by show 1≤sizeLine; decide,fun q0 hq0=>?_⟩;have s0:aj H (upd H q0 (.lst [.int 0])):=aj.new hq0;refine ⟨_,rfl,pq,_,rfl,SqL.of (s0 _ _ o4),c6 (K:=K) (a:=pq) (xs:=vzs (nsC c)) (fun i σ H'=>∃ (q:Addr) (v4 v5 v6 v7:Option V),σ=[some (.ref fa),some (.ref g),some (.ref pq),some (.ref q),v4,v5,v6,v7]∧aj H H'∧H' q=some (.lst ((xi ((List.range i).foldl (gx (nsC c)) none)).map V.int))) ⟨q0,none,none,none,none,rfl,s0,ae⟩ (fun i σ H' _ ⟨_,_,_,_,_,_,s2,_⟩=>SqL.of (s2 _ _ o4)) ?_ ?_⟩
 ·rintro i xv σ H1 T' hi hT ⟨q,v4,v5,v6,v7,rfl,s1,hq⟩;obtain ⟨x,hx,rfl⟩:=de hi;have hlt:=(List.getElem?_eq_some_iff.mp hx).1;have s2:aj H1 (upd H1 T' (.tup [.int (i:Nat),.int (x:Int)])):=aj.new hT;have s12:=s1.trans s2;obtain ⟨o0,ho0⟩:∃ o0,o0=(List.range i).foldl (gx (nsC c)) none:=⟨_,rfl⟩;have hsnoc:(List.range (i+1)).foldl (gx (nsC c)) none=gx (nsC c) o0 i:=by rw [range_succ,foldl_append,← ho0]; rfl
  rw [hsnoc];rw [← ho0] at hq;unfold gx;refine ⟨T',_,rfl,SqT.of ae,rfl,_,_,rfl,_,_,rfl,rfl,?_⟩;refine ⟨_,rfl,_,_,rfl,rfl,_,rfl,pq,_,rfl,.inl (SqL.of (s12 _ _ o4)),_,_,rfl,⟨by show (-(2 ^ 62):Int)≤(i:Int)+1; omega,by show (i:Int)+1<2 ^ 62; omega,by rw [hlen]; omega,by rw [hlen]; omega⟩,?_⟩;show ∃ W,_;rw [hlen,show (((nsC c).length:Int)-((i:Int)+1)).toNat=(nsC c).length-(i+1) by omega];refine dI (fun j σ H'=>∃ (q:Addr) (v6 v7:Option V),σ=[some (.ref fa),some (.ref g),some (.ref pq),some (.ref q),some (.int (i:Int)),some (.int (x:Int)),v6,v7]∧aj H H'∧H' q=some (.lst ((xi ((range' (i+1) j).foldl (fun o w=>wM (nsC c) o i w) o0)).map V.int))) ⟨q,v6,v7,rfl,s12,s2 _ _ hq⟩ ?_ ?_
  ·rintro j σ H2 hj ⟨q2,v6,v7,rfl,s3,hq2⟩;have ew:((i:Int)+1)+(j:Int)=((i+1+j:Nat):Int):=by omega
   have hw:i+1+j<(nsC c).length:=by omega
   obtain ⟨y,hy⟩:∃ y,(nsC c)[i+1+j]? = some y:=⟨_,getElem?_eq_getElem hw⟩;have hx8:=Fp gc hx;have hy8:=Fp gc hy;have hxy:x ^^^ y<256:=Nat.xor_lt_two_pow (n:=8) hx8 hy8;rw [J1];obtain ⟨o1',ho1⟩:∃ o1',o1'=(range' (i+1) j).foldl (fun o w=>wM (nsC c) o i w) o0:=⟨_,rfl⟩;rw [← ho1] at hq2 ⊢;have enp:∀ o,wM (nsC c) o i (i+1+j)=match o with | none=>some (dY 8 (x ^^^ y),i,i+1+j) | some z=>if dY 8 (x ^^^ y)<z.1 then some (dY 8 (x ^^^ y),i,i+1+j) else some z:=fun o=>by
    unfold wM;rw [xh hx,xh hy]
    try (cases o <;> rfl)
   rw [enp];refine ⟨_,rfl,_,rfl,_,rfl,pq,_,_,_,rfl,rfl,SqL.of (s3 _ _ o4),at_of (j:=i+1+j) ew (jb hy),_,_,rfl,rfl,x ^^^ y,?_,hxy,?_⟩
   ·show [V.int (Builtin.bitXor (x:Int) (y:Int))]=_;rw [MF hx8 hy8]
   have put:∀ (H3:Hp),aj H H3→∀ p,H3 p=none→∃ (q:Addr) (v6' v7':Option V),[some (V.ref fa),some (V.ref g),some (V.ref pq),some (V.ref p),some (V.int (i:Int)),some (V.int (x:Int)),some (V.int (((i:Int)+1)+(j:Int))),some (V.int ((dY 8 (x ^^^ y):Nat):Int))]=[some (.ref fa),some (.ref g),some (.ref pq),some (.ref q),some (.int (i:Int)),some (.int (x:Int)),v6',v7']∧aj H (upd H3 p (.lst [.int ((dY 8 (x ^^^ y):Nat):Int),.int (i:Int),.int (((i:Int)+1)+(j:Int))]))∧(upd H3 p (.lst [.int ((dY 8 (x ^^^ y):Nat):Int),.int (i:Int),.int (((i:Int)+1)+(j:Int))])) q=some (.lst ((xi (some (dY 8 (x ^^^ y),i,i+1+j))).map V.int)):=fun H3 s4 p hp=>⟨p,_,_,rfl,s4.trans (aj.new hp),by rw [ae,ew]; rfl⟩;refine ⟨_,rfl,by show 1≤sizeLine; decide,fun q3 hq3=>?_⟩;have s4:aj H2 (upd H2 q3 (.lst [.int 0])):=aj.new hq3;have s34:=s3.trans s4;refine ⟨q2,q3,xi o1',[0],rfl,rfl,SqL.of (s4 _ _ hq2),SqL.of ae,_,rfl,?_⟩;cases o1' with
   | none=>exact bz (bz ⟨_,rfl,_,rfl,_,rfl,by show 3≤sizeLine; decide,put _ s34⟩)
   | some z=>
    rw [JZ];refine b0 ⟨_,rfl,_,rfl,q2,_,_,_,rfl,rfl,SqL.of (s4 _ _ hq2),at_of (j:=0) (v:=.int (z.1:Int)) rfl rfl,_,_,rfl,rfl,_,rfl,cg (fun hl=>?_) fun hl=>?_⟩
    ·have hl:((dY 8 (x ^^^ y):Nat):Int)<(z.1:Int):=hl;dsimp only;rw [if_pos (by omega)];exact ⟨_,rfl,_,rfl,_,rfl,by show 3≤sizeLine; decide,put _ s34⟩
    ·have hl:¬ ((dY 8 (x ^^^ y):Nat):Int)<(z.1:Int):=hl;dsimp only;rw [if_neg (by omega)];exact ⟨q2,_,_,rfl,s34,s4 _ _ hq2⟩
  ·rintro σ H2 ⟨q2,v6,v7,rfl,s3,hq2⟩;exact ⟨q2,_,_,_,_,rfl,s3,hq2⟩
 ·rintro σ H1 ⟨q,v4,v5,v6,v7,rfl,s1,hq⟩;rw [length_map,length_map] at hq;exact ⟨_,rfl,k H1 q (fo.same s1) hq (aI.of s1)⟩
theorem Fq:ax ["field","given","code","slips","value","notches","hole","slipped"] ["field","given"] (ao CJ):=⟨rfl,rfl,rfl,by decide +kernel,rfl,by decide +kernel,by decide +kernel⟩
theorem J8{f CFd CK:Addr}{fd:FuncData}(F:Fun K "answer_slips" "answer_slips" CJ f fd)(T:TFd K CFd)(TKc:TK K CK)(Ta:TA_ mg)(DN:Dn P w K mg base CX0 1 "notch_at" ["hole"] eV):aF P w K mg base CX0 2 f fd ["field","given"] (cW CFd CK J6):=by
 obtain ⟨fn,fdn,gN,hN,kN,bN⟩:=DN;refine F.ok Fq cj (fun cdv A outer s H vs Q E hr h=>?_);obtain ⟨fa,g,c,xs,ps,rows,d,rfl,fo,hg,hrw,⟨rfl,rfl,rfl⟩,hln,k⟩:=h;obtain ⟨⟨dx,ca,pt,h1,h2,h3⟩,gc,ln⟩:=id fo;obtain ⟨dxc,pn,pq,pd,rn,o1,o2,o3,o4,o5⟩:=h2.ex;have nd:=Fq.nd;refine ⟨_,ag (az (i:=2) nd rfl (Or.inl rfl) (aB (pv 0) rfl)) (ag (az (i:=3) nd rfl (Or.inl rfl) (aH ah))
  (ag (cu PassesOwn.never rfl (dt (by rfl) Ta.en (aa (aB (pv 2) rfl) ah)) (d7 rfl (ba (aM (i:=4) nd rfl (Or.inl rfl)) (ba (aM (i:=5) nd rfl (Or.inl rfl)) da)))
   (ai (cu PassesOwn.never rfl (iG rfl Ta.rg (aa au (aa (aU cz (aB (pv 2) rfl) au) ah))) (aM (i:=6) nd rfl (Or.inl rfl))
    (ag (az (i:=7) nd rfl (Or.inl rfl) (aU Nk (pv 5) (aD gN hr rfl hN kN bN .nil aE (aa (pv 6) ah))))
    (ai (a0 (PW.pt (sE (aK sM (pv 7) (pv 5) (aN _)) (oE (By (HV (zP hr) (pv 7) (aB (pv 2) rfl))))))
     (ai (aV (c5 plainAttrs_list slot_list_extend type_list_extend lr (pv 3) (aa (aH (aa (pv 4) (aa (pv 6) (aa (EA (zP hr) (aB (pv 2) rfl) (pv 7) (fun _ _=>rfl)) ah)))) ah)))) aO))))))
  (ai (ay (aU hZ (aH (aa (aU xU (aJ aC (by rfl) Ta.ln PySem.boot_len (aa (pv 3) ah)) au) ah)) (pv 3)))))),?_⟩
 have ea:act c .slips=(c,(((List.range (nsC c).length).flatMap (bZ c.holes (nsC c))).length:Int)::c9 ((List.range (nsC c).length).flatMap (bZ c.holes (nsC c)))):=by
  rw [← IC gc.gw];rfl
 rw [ea] at k;have hc2:(nsC c).length≤70:=by rw [length_map]; exact gc.c2
 have h8:=gc.gw.hn;refine ⟨_,rfl,fa,CFd,dx,_,_,rfl,h1,T.cl,T.nC,rfl,zero_le _,fun q hq=>?_⟩;have s0:aj H (upd H q (.lst [])):=aj.new hq;have bound:∀ i,i≤70→((List.range i).flatMap (bZ c.holes (nsC c))).length≤560:=fun i hi=>by
  have:=xj c.holes (nsC c) i;have:i*c.holes≤70*8:=Nat.mul_le_mul hi h8;omega
 refine ⟨_,rfl,ca,CK,dxc,_,_,rfl,s0 _ _ o1,TKc.cl,TKc.nQ,pH _ _ _ _ _ _,pq,_,rfl,SqL.of (s0 _ _ o4),c6 (K:=K) (a:=pq) (xs:=vzs (nsC c)) (fun i σ H'=>∃ (v4 v5 v6 v7:Option V),σ=[some (.ref fa),some (.ref g),some (.ref ca),some (.ref q),v4,v5,v6,v7]∧aj H H'∧H' q=some (.lst ((c9 ((List.range i).flatMap (bZ c.holes (nsC c)))).map V.int))) ⟨none,none,none,none,rfl,s0,ae⟩ (fun i σ H' _ ⟨_,_,_,_,_,s2,_⟩=>SqL.of (s2 _ _ o4)) ?_ ?_⟩
 ·rintro i xv σ H1 T' hi hT ⟨v4,v5,v6,v7,rfl,s1,hq1⟩;obtain ⟨x,hx,rfl⟩:=de hi;have hlt:=(List.getElem?_eq_some_iff.mp hx).1;have s2:aj H1 (upd H1 T' (.tup [.int (i:Nat),.int (x:Int)])):=aj.new hT;have s12:=s1.trans s2;refine ⟨T',_,rfl,SqT.of ae,rfl,_,_,rfl,_,_,rfl,rfl,?_⟩;refine ⟨_,rfl,ca,CK,dxc,_,_,rfl,s12 _ _ o1,TKc.cl,TKc.nH,rL _ _ _ _ _ _,_,_,rfl,rfl,_,_,rfl,⟨by decide,by decide,by show (-(2 ^ 62):Int)≤(c.holes:Int)+1; omega,by show (c.holes:Int)+1<2 ^ 62; omega⟩,?_⟩;show ∃ W,_;rw [show ((c.holes:Int)+1-1).toNat=c.holes by omega];refine dI (fun j σ H'=>∃ (v6 v7:Option V),σ=[some (.ref fa),some (.ref g),some (.ref ca),some (.ref q),some (.int (i:Int)),some (.int (x:Int)),v6,v7]∧aj H H'∧H' q=some (.lst ((c9 ((List.range i).flatMap (bZ c.holes (nsC c))++(range' 1 j).filterMap (iL (nsC c) i))).map V.int))) ⟨v6,v7,rfl,s12,by rw [show (range' 1 0).filterMap (iL (nsC c) i)=[] from rfl,append_nil]; exact s2 _ _ hq1⟩ ?_ ?_
  ·rintro j σ H2 hj ⟨v6,v7,rfl,s3,hq2⟩;have eh:(1:Int)+(j:Int)=((j+1:Nat):Int):=by omega
   have er:range' 1 (j+1)=range' 1 j++[j+1]:=by rw [range'_concat,one_mul,Nat.add_comm 1 j]
   have esl:iL (nsC c) i (j+1)=if (x ||| bit (j+1))=x then none else (o7 (nsC c) (x ||| bit (j+1))).map fun w=>(i,j+1,w):=by
    unfold iL;rw [xh hx]
   rw [eh];refine ⟨_,rfl,_,rfl,j+1,rfl,by omega,by omega,_,_,rfl,rfl,?_⟩;have eor:Builtin.bitOr (x:Int) ((bit (j+1):Nat):Int)=((x ||| bit (j+1):Nat):Int):=yu _ _;have mf:iL (nsC c) i (j+1)=none→H2 q=some (.lst ((c9 ((List.range i).flatMap (bZ c.holes (nsC c))++(range' 1 (j+1)).filterMap (iL (nsC c) i))).map V.int)):=fun hn=>by
    rw [er,List.filterMap_append,filterMap_cons,hn];show H2 q=some (.lst ((c9 ((List.range i).flatMap (bZ c.holes (nsC c))++((range' 1 j).filterMap (iL (nsC c) i)++[]))).map V.int));rw [append_nil];exact hq2
   refine ⟨_,rfl,_,rfl,rfl,_,rfl,?_⟩;show if (!decide (V.int (Builtin.bitOr (x:Int) ((bit (j+1):Nat):Int))=V.int (x:Int)))=true then _ else _
   by_cases hxe:(x ||| bit (j+1))=x
   ·rw [eor,hxe,decide_eq_true rfl];exact b0 (b0 ⟨_,_,rfl,s3,mf (by rw [esl,if_pos hxe])⟩)
   ·rw [eor,show decide (V.int ((x ||| bit (j+1):Nat):Int)=V.int (x:Int))=false from decide_eq_false fun z=>hxe (b8 z)];rw [if_neg hxe] at esl;have dg:∀ {H3:Hp},aj H H3→rF H3 pd (.int (Builtin.bitOr (x:Int) ((bit (j+1):Nat):Int))) ((o7 (nsC c) (x ||| bit (j+1))).map fun v=>V.int ((v+0:Nat):Int)):=fun {H3} s4=>by
     have z:=rF.k (k:=Sum.inl ((x ||| bit (j+1):Nat):Int)) (s4 _ _ o5);rw [pI] at z;rw [eor];exact z
    refine bz ⟨_,rfl,_,rfl,ca,CK,dxc,_,_,rfl,s3 _ _ o1,TKc.cl,TKc.nB,Jk _ _ _ _ _ _,pd,_,rfl,dg s3,_,rfl,?_⟩;cases hi2:o7 (nsC c) (x ||| bit (j+1)) with
    | none=>
     rw [hi2] at esl;exact b0 ⟨_,_,rfl,s3,mf esl⟩
    | some w2=>
     rw [hi2] at esl;have dg2:=dg s3;rw [hi2] at dg2;refine bz ⟨_,rfl,.inl ⟨rfl,_,SqL.of hq2⟩,_,rfl,_,rfl,_,rfl,ca,CK,dxc,_,_,rfl,s3 _ _ o1,TKc.cl,TKc.nB,Jk _ _ _ _ _ _,_,rfl,pd,_,rfl,dg2,by show 3≤sizeLine; decide,fun q3 hq3=>?_⟩;have s4:aj H2 (upd H2 q3 (.lst [.int (i:Int),.int ((j+1:Nat):Int),.int ((w2+0:Nat):Int)])):=aj.new hq3;have hsz:(c9 ((List.range i).flatMap (bZ c.holes (nsC c))++(range' 1 j).filterMap (iL (nsC c) i))).length≤3*(560+8):=by
      rw [lM,length_append];have a1:=bound i (by omega);have a2:=List.length_filterMap_le (iL (nsC c) i) (range' 1 j);rw [length_range'] at a2;omega
     refine ⟨q,q3,_,_,rfl,rfl,s4 _ _ hq2,ae,by rw [length_map,sizeLine_eq]; show _+3≤_; omega,?_⟩;refine ⟨_,_,rfl,fun b o e=>by rw [aq (ak e hq)]; exact s4 _ _ (s3 b o e),?_⟩;rw [ae,er,List.filterMap_append,filterMap_cons,esl];show some (HO.lst ((c9 ((List.range i).flatMap (bZ c.holes (nsC c))++(range' 1 j).filterMap (iL (nsC c) i))).map V.int++[V.int (i:Int),V.int ((j+1:Nat):Int),V.int ((w2+0:Nat):Int)]))=some (HO.lst ((c9 ((List.range i).flatMap (bZ c.holes (nsC c))++((range' 1 j).filterMap (iL (nsC c) i)++[(i,j+1,w2)]))).map V.int));rw [← append_assoc,GK _ [(i,j+1,w2)],map_append];rfl
  ·rintro σ H2 ⟨v6,v7,rfl,s3,hq2⟩;refine ⟨_,_,_,_,rfl,s3,?_⟩;rw [hq2,range_succ,flatMap_append];show _=some (HO.lst ((c9 ((List.range i).flatMap (bZ c.holes (nsC c))++(bZ c.holes (nsC c) i++[]))).map V.int));rw [append_nil];rfl
 ·rintro σ H1 ⟨v4,v5,v6,v7,rfl,s1,hq1⟩;rw [length_map,length_map] at hq1;obtain ⟨L,hL⟩:∃ L,L=(List.range (nsC c).length).flatMap (bZ c.holes (nsC c)):=⟨_,rfl⟩;have hb:=bound (nsC c).length hc2;rw [← hL] at hq1 k hb;have hlen:(((c9 L).map V.int).length:Int)=3*(L.length:Int):=by rw [length_map,lM]; omega
  refine ⟨_,rfl,q,_,rfl,.inl (SqL.of hq1),_,_,rfl,rfl,⟨by decide,by decide⟩,by show 1≤sizeLine; decide,fun p0 hp0=>?_⟩;have s2:aj H1 (upd H1 p0 (.lst [.int ((((c9 L).map V.int).length:Int) / 3)])):=aj.new hp0;refine ⟨_,rfl,p0,q,_,_,rfl,rfl,ae,s2 _ _ hq1,by rw [length_map,lM,sizeLine_eq]; show 1+_≤_; omega,fun p2 hp2=>?_⟩;have sx:=(s1.trans s2).trans (aj.new (o:=.lst ([.int ((((c9 L).map V.int).length:Int) / 3)]++(c9 L).map V.int)) hp2);refine k _ p2 (fo.same sx) ?_ (aI.of sx);rw [ae];show some (HO.lst ([V.int ((((c9 L).map V.int).length:Int) / 3)]++(c9 L).map V.int))=_;rw [hlen,show (3*(L.length:Int)) / 3=(L.length:Int) by omega];rfl
end
abbrev yM:Stmt:=top 91
abbrev J9:Stmt:=top 92
abbrev CL:Stmt:=top 93
abbrev CM:Stmt:=top 94
abbrev yN:Stmt:=top 95
abbrev yO:Stmt:=top 96
abbrev CO:Stmt:=top 98
theorem pO(g:Nat→Nat→Nat)(n:Nat)(ws:List (List Nat))(s:List Nat):atI (vzs (tab g n ws s (3 ^ n))) (-1)=some (.int ((cst g n ws s (3 ^ n-1):Nat):Int)):=by
 obtain ⟨k,hk⟩:∃ k,3 ^ n=k+1:=⟨3 ^ n-1,by have:=p3 n; omega⟩;rw [hk,tab,bj,sQ,add_sub_cancel];rfl
theorem GQ{N a b:Nat}(hb:b<N)(hab:a≤b):((List.range N).filter fun v=>decide (a≤v)&&decide (v≤b))=range' a (b+1-a):=by
 have key:∀ n,((List.range n).filter fun v=>decide (a≤v)&&decide (v≤b))=range' a (min n (b+1)-a):=by
  intro n
  induction n with
  | zero=>rw [show min 0 (b+1)-a=0 by omega]; rfl
  | succ n ih=>
   rw [range_succ,filter_append,ih];by_cases h:a≤n∧n≤b
   ·rw [filter_cons_of_pos (by rw [decide_eq_true h.1,decide_eq_true h.2]; rfl),filter_nil,min_eq_left (Nat.succ_le_succ h.2),min_eq_left (Nat.le_succ_of_le h.2),Nat.succ_sub h.1,range'_concat,one_mul,Nat.add_sub_cancel' h.1]
   ·rw [filter_cons_of_neg (by rw [and_eq_true,decide_eq_true_eq,decide_eq_true_eq]; exact h),filter_nil,append_nil];congr 1;omega
 rw [key N,show min N (b+1)=b+1 by omega]
section
variable {P:Program}{w:World}{K:PySem.W.Frag}{mg:Str→Option Value}{base:Heap}
abbrev Fs(xs:List Int)(rows:List (List Int))(d:Call):Prop:=∃ r,xs=[]∧rows=[r]∧d = .fewest r
abbrev NH(xs:List Int)(rows:List (List Int))(d:Call):Prop:=∃ r,xs=[]∧rows=[r]∧d = .tree r
abbrev Ka(xs:List Int)(rows:List (List Int))(d:Call):Prop:=∃ r,xs=[]∧rows=[r]∧d = .depth r
abbrev Ft(xs:List Int)(rows:List (List Int))(d:Call):Prop:=∃ r,xs=[]∧rows=[r]∧d = .labels r
abbrev Kb(xs:List Int)(rows:List (List Int))(d:Call):Prop:=∃ r t,xs=[]∧rows=[r,t]∧t.length≤500∧d = .check r t
abbrev Fu(xs:List Int)(rows:List (List Int))(d:Call):Prop:=∃ r t,xs=[]∧rows=[r,t]∧d = .accept r t
abbrev Kc(xs:List Int)(rows:List (List Int))(d:Call):Prop:=∃ a b,xs=[a,b]∧rows=[]∧d = .range_ a b
theorem lN{c:Vbenab.Code}{r:List Int}(h:bg ((count c:Int)-1) 0 r=true):r.map V.int=vzs (r.map toNat):=by
 refine yK fun x hx=>?_;have:=(eS.mp h).1;have:=all_eq_true.mp this x hx;unfold VbenCore.isBetween at this;rw [and_eq_true,decide_eq_true_eq] at this;exact this.1
theorem eX{CK CP:Addr}{H:Hp}{x dx ca pt wa:Addr}{c:Vbenab.Code}{s:List Nat}{E:XK}{Q:Hp→Prop}(hx:H x=none)(hdx:H dx=none)(hc:l8 CK H ca pt c)(gc:GoodC c)(hwa:H wa=some (.lst (vzs s)))
  (k:∀ H':Hp,aj H H'→gJ CP H' x c.holes (codeWords c) s→Q H'):yH CK CP [.ref x,.ref ca,.ref wa] (upd (upd H dx (.own x)) x (.ins CP dx [])) (fun v H2=>v = .non∧Q H2) E:=by
 have sm:aj H (upd (upd H dx (.own x)) x (.ins CP dx [])):=fun b o e=>by rw [aq (ak e hx),aq (ak e hdx)]; exact e
 exact ⟨x,dx,ca,pt,wa,c,s,rfl,ae,cO.same hc sm,gc,sm _ _ hwa,fun H' po u=>⟨rfl,k H' (aj.made hx hdx u) po⟩⟩
theorem Kd:ax ["field","given"] ["field","given"] (ao yM):=⟨rfl,rfl,rfl,by decide +kernel,rfl,by decide +kernel,by decide +kernel⟩
theorem GS{f CFd CK CP:Addr}{fd:FuncData}(F:Fun K "answer_fewest" "answer_fewest" yM f fd)(T:TFd K CFd)(TKc:TK K CK)(Ta:TA_ mg)(DV:Dn P w K mg base CX0 2 "are_values" ["code","row"] (rh CK))(DP:Cn P w K mg base 4 "Parting" CP ["self","code","wanted"] (yH CK CP))(DF:Dn P w K mg base CX0 4 "fewest_needlings" ["parting"] (vC CP (· + ·))):aF P w K mg base CX0 6 f fd ["field","given"] (cW CFd CK Fs):=by
 obtain ⟨fv,fdv,gV,hV,kV,bV⟩:=DV;obtain ⟨fp,fdp,gP,mP,hP,bP⟩:=DP;obtain ⟨ff,fdf,gF,hF,kF,bF⟩:=DF;refine F.ok Kd cj (fun cdv A outer s H vs Q E hr h=>?_);obtain ⟨fa,g,c,xs,ps,rows,d,rfl,fo,hg,hrw,⟨r,rfl,rfl,rfl⟩,hln,k⟩:=h;obtain ⟨p1,rfl,hp1⟩:=gQ hrw;obtain ⟨⟨dx,ca,pt,h1,h2,h3⟩,gc,ln⟩:=id fo;refine ⟨_,ag (a0 (cq (bf (aD gV (hr.mono (by decide)) rfl hV kV bV .nil aE (aa (aB (pv 0) rfl) (aa (aQ aG (pv 1) au (fun _ _=>rfl)) ah))))) (ai (ay (aH (aa (aY Ta.nr) ah)))) aO)
  (ai (ay (aH (aa (aQ aG (aD gF (hr.mono (by decide)) rfl hF kF bF .nil aE (aa (dU mP gP hr rfl hP bP .nil aE (aa (aB (pv 0) rfl) (aa (aQ aG (pv 1) au (fun _ _=>rfl)) ah))) ah)) (wj pX au) (fun _ _=>rfl)) ah)))),?_⟩
 have ea:act c (.fewest r)=if bg ((count c:Int)-1) 0 r=true then (c,[(fewest c (r.map toNat):Int)]) else (c,[-4]):=dj c r fun x=>(c,[(fewest c x:Int)])
 rw [ea] at k;refine ⟨_,rfl,fa,CFd,dx,_,_,rfl,h1,T.cl,T.nC,rfl,_,rfl,g,_,_,_,rfl,rfl,SqL.of hg,at_of (j:=0) (v:=.ref p1) rfl rfl,ca,pt,p1,c,r,rfl,h2,hp1,_,rfl,?_⟩;cases hb:bg ((count c:Int)-1) 0 r with
 | false=>
  rw [if_neg (by rw [hb]; decide)] at k;refine bz ⟨by show 1≤sizeLine; decide,fun p hp=>?_⟩;exact k _ p (fo.same (aj.new hp)) ae (aI.of (aj.new hp))
 | true=>
  rw [if_pos hb,tE] at k;rw [lN hb] at hp1;refine b0 ⟨_,rfl,fa,CFd,dx,_,_,rfl,h1,T.cl,T.nC,rfl,_,rfl,g,_,_,_,rfl,rfl,SqL.of hg,at_of (j:=0) (v:=.ref p1) rfl rfl,?_⟩;intro x dxx nx ndx nex;refine eX nx ndx h2 gc hp1 fun H1 s1 po=>?_;refine ⟨x,_,_,_,rfl,po,fun H2 q s2 fq hq=>?_⟩;refine ⟨_,rfl,q,_,_,_,rfl,rfl,SqL.of hq,pO _ _ _ _,by show 1≤sizeLine; decide,fun p hp=>?_⟩;have sx:=(s1.trans s2).trans (aj.new (o:=.lst [.int ((cst (· + ·) c.holes (codeWords c) (r.map toNat) (3 ^ c.holes-1):Nat):Int)]) hp);exact k _ p (fo.same sx) ae (aI.of sx)
theorem MH:ax ["field","given"] ["field","given"] (ao CL):=⟨rfl,rfl,rfl,by decide +kernel,rfl,by decide +kernel,by decide +kernel⟩
theorem Ke{f CFd CK CP:Addr}{fd:FuncData}(F:Fun K "answer_depth" "answer_depth" CL f fd)(T:TFd K CFd)(TKc:TK K CK)(Ta:TA_ mg)(DV:Dn P w K mg base CX0 2 "are_values" ["code","row"] (rh CK))(DP:Cn P w K mg base 4 "Parting" CP ["self","code","wanted"] (yH CK CP))(DF:Dn P w K mg base CX0 4 "least_depths" ["parting"] (vC CP max)):aF P w K mg base CX0 6 f fd ["field","given"] (cW CFd CK Ka):=by
 obtain ⟨fv,fdv,gV,hV,kV,bV⟩:=DV;obtain ⟨fp,fdp,gP,mP,hP,bP⟩:=DP;obtain ⟨ff,fdf,gF,hF,kF,bF⟩:=DF;refine F.ok MH cj (fun cdv A outer s H vs Q E hr h=>?_);obtain ⟨fa,g,c,xs,ps,rows,d,rfl,fo,hg,hrw,⟨r,rfl,rfl,rfl⟩,hln,k⟩:=h;obtain ⟨p1,rfl,hp1⟩:=gQ hrw;obtain ⟨⟨dx,ca,pt,h1,h2,h3⟩,gc,ln⟩:=id fo;refine ⟨_,ag (a0 (cq (bf (aD gV (hr.mono (by decide)) rfl hV kV bV .nil aE (aa (aB (pv 0) rfl) (aa (aQ aG (pv 1) au (fun _ _=>rfl)) ah))))) (ai (ay (aH (aa (aY Ta.nr) ah)))) aO)
  (ai (ay (aH (aa (aQ aG (aD gF (hr.mono (by decide)) rfl hF kF bF .nil aE (aa (dU mP gP hr rfl hP bP .nil aE (aa (aB (pv 0) rfl) (aa (aQ aG (pv 1) au (fun _ _=>rfl)) ah))) ah)) (wj pX au) (fun _ _=>rfl)) ah)))),?_⟩
 have ea:act c (.depth r)=if bg ((count c:Int)-1) 0 r=true then (c,[(shallowest c (r.map toNat):Int)]) else (c,[-4]):=dj c r fun x=>(c,[(shallowest c x:Int)])
 rw [ea] at k;refine ⟨_,rfl,fa,CFd,dx,_,_,rfl,h1,T.cl,T.nC,rfl,_,rfl,g,_,_,_,rfl,rfl,SqL.of hg,at_of (j:=0) (v:=.ref p1) rfl rfl,ca,pt,p1,c,r,rfl,h2,hp1,_,rfl,?_⟩;cases hb:bg ((count c:Int)-1) 0 r with
 | false=>
  rw [if_neg (by rw [hb]; decide)] at k;refine bz ⟨by show 1≤sizeLine; decide,fun p hp=>?_⟩;exact k _ p (fo.same (aj.new hp)) ae (aI.of (aj.new hp))
 | true=>
  rw [if_pos hb,qR] at k;rw [lN hb] at hp1;refine b0 ⟨_,rfl,fa,CFd,dx,_,_,rfl,h1,T.cl,T.nC,rfl,_,rfl,g,_,_,_,rfl,rfl,SqL.of hg,at_of (j:=0) (v:=.ref p1) rfl rfl,?_⟩;intro x dxx nx ndx nex;refine eX nx ndx h2 gc hp1 fun H1 s1 po=>?_;refine ⟨x,_,_,_,rfl,po,fun H2 q s2 fq hq=>?_⟩;refine ⟨_,rfl,q,_,_,_,rfl,rfl,SqL.of hq,pO _ _ _ _,by show 1≤sizeLine; decide,fun p hp=>?_⟩;have sx:=(s1.trans s2).trans (aj.new (o:=.lst [.int ((cst max c.holes (codeWords c) (r.map toNat) (3 ^ c.holes-1):Nat):Int)]) hp);exact k _ p (fo.same sx) ae (aI.of sx)
theorem PD:ax ["field","given"] ["field","given"] (ao J9):=⟨rfl,rfl,rfl,by decide +kernel,rfl,by decide +kernel,by decide +kernel⟩
theorem MI{f CFd CK CP:Addr}{fd:FuncData}(F:Fun K "answer_tree" "answer_tree" J9 f fd)(T:TFd K CFd)(TKc:TK K CK)(Ta:TA_ mg)(DV:Dn P w K mg base CX0 2 "are_values" ["code","row"] (rh CK))(DP:Cn P w K mg base 4 "Parting" CP ["self","code","wanted"] (yH CK CP))(DF:Dn P w K mg base CX0 5 "tree_told" ["parting"] (Ph CP)):aF P w K mg base CX0 6 f fd ["field","given"] (cW CFd CK NH):=by
 obtain ⟨fv,fdv,gV,hV,kV,bV⟩:=DV;obtain ⟨fp,fdp,gP,mP,hP,bP⟩:=DP;obtain ⟨ff,fdf,gF,hF,kF,bF⟩:=DF;refine F.ok PD cj (fun cdv A outer s H vs Q E hr h=>?_);obtain ⟨fa,g,c,xs,ps,rows,d,rfl,fo,hg,hrw,⟨r,rfl,rfl,rfl⟩,hln,k⟩:=h;obtain ⟨p1,rfl,hp1⟩:=gQ hrw;obtain ⟨⟨dx,ca,pt,h1,h2,h3⟩,gc,ln⟩:=id fo;refine ⟨_,ag (a0 (cq (bf (aD gV (hr.mono (by decide)) rfl hV kV bV .nil aE (aa (aB (pv 0) rfl) (aa (aQ aG (pv 1) au (fun _ _=>rfl)) ah))))) (ai (ay (aH (aa (aY Ta.nr) ah)))) aO)
  (ai (ay (aU hZ (aH (aa au ah)) (aD gF hr rfl hF kF bF .nil aE (aa (dU mP gP hr rfl hP bP .nil aE (aa (aB (pv 0) rfl) (aa (aQ aG (pv 1) au (fun _ _=>rfl)) ah))) ah))))),?_⟩
 have ea:act c (.tree r)=if bg ((count c:Int)-1) 0 r=true then (c,0::Vbenab.treeRow (tree c (r.map toNat))) else (c,[-4]):=dj c r fun x=>(c,0::Vbenab.treeRow (tree c x))
 rw [ea] at k;refine ⟨_,rfl,fa,CFd,dx,_,_,rfl,h1,T.cl,T.nC,rfl,_,rfl,g,_,_,_,rfl,rfl,SqL.of hg,at_of (j:=0) (v:=.ref p1) rfl rfl,ca,pt,p1,c,r,rfl,h2,hp1,_,rfl,?_⟩;cases hb:bg ((count c:Int)-1) 0 r with
 | false=>
  rw [if_neg (by rw [hb]; decide)] at k;refine bz ⟨by show 1≤sizeLine; decide,fun p hp=>?_⟩;exact k _ p (fo.same (aj.new hp)) ae (aI.of (aj.new hp))
 | true=>
  rw [if_pos hb,LQ] at k;rw [lN hb] at hp1;refine b0 ⟨by show 1≤sizeLine; decide,fun p0 hp0=>?_⟩;have s0:aj H (upd H p0 (.lst [.int 0])):=aj.new hp0;refine ⟨_,rfl,fa,CFd,dx,_,_,rfl,s0 _ _ h1,T.cl,T.nC,rfl,_,rfl,g,_,_,_,rfl,rfl,SqL.of (s0 _ _ hg),at_of (j:=0) (v:=.ref p1) rfl rfl,?_⟩;intro x dxx nx ndx nex;refine eX nx ndx (cO.same h2 s0) gc (s0 _ _ hp1) fun H1 s1 po=>?_;refine ⟨x,_,_,_,rfl,po,fun H2 q s2 fq hq=>?_⟩;have hl:=tG gc.gw.hn (codeWords c) (r.map toNat) (3 ^ c.holes-1);refine ⟨p0,q,_,_,rfl,rfl,s2 _ _ (s1 _ _ ae),hq,by rw [length_map,sizeLine_eq]; show 1+_≤_; omega,fun p hp=>?_⟩;have sx:=((s0.trans s1).trans s2).trans (aj.new (o:=.lst ([V.int 0]++(Vbenab.treeRow (cP c.holes (codeWords c) (r.map toNat) (3 ^ c.holes-1))).map V.int)) hp);exact k _ p (fo.same sx) ae (aI.of sx)
theorem Kf:ax ["field","given"] ["field","given"] (ao yN):=⟨rfl,rfl,rfl,by decide +kernel,rfl,by decide +kernel,by decide +kernel⟩
theorem GU{f CFd CK CP:Addr}{fd:FuncData}(F:Fun K "answer_labels" "answer_labels" yN f fd)(T:TFd K CFd)(TKc:TK K CK)(Ta:TA_ mg)(DV:Dn P w K mg base CX0 2 "are_values" ["code","row"] (rh CK))(DP:Cn P w K mg base 4 "Parting" CP ["self","code","wanted"] (yH CK CP))(DF:Dn P w K mg base CX0 4 "fewest_needlings" ["parting"] (vC CP (· + ·))):aF P w K mg base CX0 6 f fd ["field","given"] (cW CFd CK Ft):=by
 obtain ⟨fv,fdv,gV,hV,kV,bV⟩:=DV;obtain ⟨fp,fdp,gP,mP,hP,bP⟩:=DP;obtain ⟨ff,fdf,gF,hF,kF,bF⟩:=DF;refine F.ok Kf cj (fun cdv A outer s H vs Q E hr h=>?_);obtain ⟨fa,g,c,xs,ps,rows,d,rfl,fo,hg,hrw,⟨r,rfl,rfl,rfl⟩,hln,k⟩:=h;obtain ⟨p1,rfl,hp1⟩:=gQ hrw;obtain ⟨⟨dx,ca,pt,h1,h2,h3⟩,gc,ln⟩:=id fo;obtain ⟨dxc,pn,pq,pd,rn,o1,o2,o3,o4,o5⟩:=h2.ex;refine ⟨_,ag (a0 (cq (bf (aD gV (hr.mono (by decide)) rfl hV kV bV .nil aE (aa (aB (pv 0) rfl) (aa (aQ aG (pv 1) au (fun _ _=>rfl)) ah))))) (ai (ay (aH (aa (aY Ta.nr) ah)))) aO)
  (ag (a0 (aK eJ (aB (aB (pv 0) rfl) rfl) (aY Ta.m5) (aN _)) (ai (ay (aH (aa (aY Ta.nl) ah)))) aO)
  (ai (ay (aU hZ (aH (aa au ah)) (aD gF (hr.mono (by decide)) rfl hF kF bF .nil aE (aa (dU mP gP hr rfl hP bP .nil aE (aa (aB (pv 0) rfl) (aa (aQ aG (pv 1) au (fun _ _=>rfl)) ah))) ah)))))),?_⟩
 have ea:act c (.labels r)=if bg ((count c:Int)-1) 0 r=true then (if LABELS<c.holes then (c,[-7]) else (c,0::Vbenab.ints (costs c (r.map toNat)).toList)) else (c,[-4]):=dj c r fun x=>if LABELS<c.holes then (c,[-7]) else (c,0::Vbenab.ints (costs c x).toList)
 rw [ea] at k;refine ⟨_,rfl,fa,CFd,dx,_,_,rfl,h1,T.cl,T.nC,rfl,_,rfl,g,_,_,_,rfl,rfl,SqL.of hg,at_of (j:=0) (v:=.ref p1) rfl rfl,ca,pt,p1,c,r,rfl,h2,hp1,_,rfl,?_⟩;cases hb:bg ((count c:Int)-1) 0 r with
 | false=>
  rw [if_neg (by rw [hb]; decide)] at k;refine bz ⟨by show 1≤sizeLine; decide,fun p hp=>?_⟩;exact k _ p (fo.same (aj.new hp)) ae (aI.of (aj.new hp))
 | true=>
  rw [if_pos hb] at k;rw [lN hb] at hp1;refine b0 ⟨_,rfl,fa,CFd,dx,_,_,rfl,h1,T.cl,T.nC,rfl,ca,CK,dxc,_,_,rfl,o1,TKc.cl,TKc.nH,rL _ _ _ _ _ _,_,_,rfl,rfl,_,rfl,cg (fun h5=>?_) fun h5=>?_⟩
  ·have h5:(5:Int)<(c.holes:Int):=h5;rw [if_pos (show LABELS<c.holes by unfold LABELS; omega)] at k;refine ⟨by show 1≤sizeLine; decide,fun p hp=>?_⟩;exact k _ p (fo.same (aj.new hp)) ae (aI.of (aj.new hp))
  ·have h5:¬ (5:Int)<(c.holes:Int):=h5;rw [if_neg (show ¬ LABELS<c.holes by unfold LABELS; omega),qh] at k;refine ⟨by show 1≤sizeLine; decide,fun p0 hp0=>?_⟩;have s0:aj H (upd H p0 (.lst [.int 0])):=aj.new hp0;refine ⟨_,rfl,fa,CFd,dx,_,_,rfl,s0 _ _ h1,T.cl,T.nC,rfl,_,rfl,g,_,_,_,rfl,rfl,SqL.of (s0 _ _ hg),at_of (j:=0) (v:=.ref p1) rfl rfl,?_⟩;intro x dxx nx ndx nex;refine eX nx ndx (cO.same h2 s0) gc (s0 _ _ hp1) fun H1 s1 po=>?_;refine ⟨x,_,_,_,rfl,po,fun H2 q s2 fq hq=>?_⟩;have hl:=sy gc.gw.hn;refine ⟨p0,q,_,_,rfl,rfl,s2 _ _ (s1 _ _ ae),hq,by rw [length_map,length_map,lz,sizeLine_eq]; show 1+_≤_; omega,fun p hp=>?_⟩;have sx:=((s0.trans s1).trans s2).trans (aj.new (o:=.lst ([V.int 0]++vzs (tab (· + ·) c.holes (codeWords c) (r.map toNat) (3 ^ c.holes)))) hp);exact k _ p (fo.same sx) ae (aI.of sx)
end
theorem rev_last{d:List Int}{N:Nat}(h:d.length=N)(hN:0<N):atI (d.map V.int) (-1)=some (.int (d.getD (N-1) 0)):=by
 obtain ⟨a,x,rfl⟩:∃ a x,d=a++[x]:=by
  have hne:d≠[]:=fun z=>by rw [z] at h; simp at h; omega
  exact ⟨d.dropLast,d.getLast hne,(List.dropLast_concat_getLast hne).symm⟩
 rw [length_append] at h;have h:a.length+1=N:=h;rw [map_append,show List.map V.int [x]=[V.int x] from rfl,sQ,getD_eq_getElem?_getD,← h,add_sub_cancel,List.getElem?_concat_length];rfl
section
variable {P:Program}{w:World}{K:PySem.W.Frag}{mg:Str→Option Value}{base:Heap}
theorem AR:ax ["field","given","labels"] ["field","given"] (ao yO):=⟨rfl,rfl,rfl,by decide +kernel,rfl,by decide +kernel,by decide +kernel⟩
theorem GY{f CFd CK CP:Addr}{fd:FuncData}(F:Fun K "answer_accept" "answer_accept" yO f fd)(T:TFd K CFd)(TKc:TK K CK)(Ta:TA_ mg)(DV:Dn P w K mg base CX0 2 "are_values" ["code","row"] (rh CK))(DP:Cn P w K mg base 4 "Parting" CP ["self","code","wanted"] (yH CK CP))(DA:Dn P w K mg base CX0 3 "all_accepted" ["parting","labels"] (Pj CP)):aF P w K mg base CX0 6 f fd ["field","given"] (cW CFd CK Fu):=by
 obtain ⟨fv,fdv,gV,hV,kV,bV⟩:=DV;obtain ⟨fp,fdp,gP,mP,hP,bP⟩:=DP;obtain ⟨ff,fdf,gF,hF,kF,bF⟩:=DA;refine F.ok AR cj (fun cdv A outer s H vs Q E hr h=>?_);obtain ⟨fa,g,c,xs,ps,rows,d,rfl,fo,hg,hrw,⟨r,t,rfl,rfl,rfl⟩,hln,k⟩:=h;obtain ⟨p1,p2,rfl,hp1,hp2⟩:=AK hrw;obtain ⟨⟨dx,ca,pt,h1,h2,h3⟩,gc,ln⟩:=id fo;obtain ⟨dxc,pn,pq,pd,rn,o1,o2,o3,o4,o5⟩:=h2.ex;have nd:=AR.nd;refine ⟨_,ag (az (i:=2) nd rfl (Or.inl rfl) (aQ aG (pv 1) au (fun _ _=>rfl))) (ag (a0 (cq (bf (aD gV (hr.mono (by decide)) rfl hV kV bV .nil aE (aa (aB (pv 0) rfl) (aa (aQ aG (pv 1) au (fun _ _=>rfl)) ah))))) (ai (ay (aH (aa (aY Ta.nr) ah)))) aO)
  (ag (a0 (aK eJ (aB (aB (pv 0) rfl) rfl) (aY Ta.m5) (aN _)) (ai (ay (aH (aa (aY Ta.nl) ah)))) aO)
  (ag (a0 (bf (aD gF (hr.mono (by decide)) rfl hF kF bF .nil aE (aa (dU mP gP hr rfl hP bP .nil aE (aa (aB (pv 0) rfl) (aa (aQ aG (pv 1) au (fun _ _=>rfl)) ah))) (aa (pv 2) ah)))) (ai (ay (aH (aa au (aa (aQ aG (pv 2) (wj pX au) (fun _ _=>rfl)) ah))))) aO)
  (ai (ay (aH (aa au ah))))))),?_⟩
 have ea:act c (.accept r t)=if bg ((count c:Int)-1) 0 r=true then (if LABELS<c.holes then (c,[-7]) else if accepts c (r.map toNat) t=true then (c,[1,t.getD (Vbenab.whole c) 0]) else (c,[0])) else (c,[-4]):=dj c r fun x=>if LABELS<c.holes then (c,[-7]) else if accepts c x t=true then (c,[1,t.getD (Vbenab.whole c) 0]) else (c,[0])
 rw [ea] at k;refine ⟨_,rfl,g,_,_,_,rfl,rfl,SqL.of hg,at_of (j:=1) (v:=.ref p2) rfl rfl,_,rfl,fa,CFd,dx,_,_,rfl,h1,T.cl,T.nC,rfl,_,rfl,g,_,_,_,rfl,rfl,SqL.of hg,at_of (j:=0) (v:=.ref p1) rfl rfl,ca,pt,p1,c,r,rfl,h2,hp1,_,rfl,?_⟩;cases hb:bg ((count c:Int)-1) 0 r with
 | false=>
  rw [if_neg (by rw [hb]; decide)] at k;refine bz ⟨by show 1≤sizeLine; decide,fun p hp=>?_⟩;exact k _ p (fo.same (aj.new hp)) ae (aI.of (aj.new hp))
 | true=>
  rw [if_pos hb] at k;rw [lN hb] at hp1;refine b0 ⟨_,rfl,fa,CFd,dx,_,_,rfl,h1,T.cl,T.nC,rfl,ca,CK,dxc,_,_,rfl,o1,TKc.cl,TKc.nH,rL _ _ _ _ _ _,_,_,rfl,rfl,_,rfl,cg (fun h5=>?_) fun h5=>?_⟩
  ·have h5:(5:Int)<(c.holes:Int):=h5;rw [if_pos (show LABELS<c.holes by unfold LABELS; omega)] at k;refine ⟨by show 1≤sizeLine; decide,fun p hp=>?_⟩;exact k _ p (fo.same (aj.new hp)) ae (aI.of (aj.new hp))
  ·have h5:¬ (5:Int)<(c.holes:Int):=h5;rw [if_neg (show ¬ LABELS<c.holes by unfold LABELS; omega),BX] at k;refine ⟨_,rfl,fa,CFd,dx,_,_,rfl,h1,T.cl,T.nC,rfl,_,rfl,g,_,_,_,rfl,rfl,SqL.of hg,at_of (j:=0) (v:=.ref p1) rfl rfl,?_⟩;intro x dxx nx ndx nex;refine eX nx ndx h2 gc hp1 fun H1 s1 po=>?_;refine ⟨_,rfl,x,p2,_,_,_,t,rfl,po,s1 _ _ hp2,fun H2 s2=>⟨_,rfl,?_⟩⟩;have s12:=s1.trans s2;cases hz:(decide (t.length=3 ^ c.holes)&&(List.range (3 ^ c.holes)).all (tF c.holes (codeWords c) (r.map toNat) t)) with
   | true=>
    rw [if_pos hz] at k;rw [and_eq_true,decide_eq_true_eq] at hz;refine bz ⟨_,rfl,_,rfl,p2,_,_,_,rfl,rfl,SqL.of (s12 _ _ hp2),rev_last hz.1 (p3 _),by show 2≤sizeLine; decide,fun p hp=>?_⟩;have sx:=s12.trans (aj.new (o:=.lst [.int 1,.int (t.getD (3 ^ c.holes-1) 0)]) hp);exact k _ p (fo.same sx) ae (aI.of sx)
   | false=>
    rw [if_neg (by rw [hz]; decide)] at k;refine b0 ⟨by show 1≤sizeLine; decide,fun p hp=>?_⟩;have sx:=s12.trans (aj.new (o:=.lst [.int 0]) hp);exact k _ p (fo.same sx) ae (aI.of sx)
theorem Fv:ax ["field","given","walk"] ["field","given"] (ao CM):=⟨rfl,rfl,rfl,by decide +kernel,rfl,by decide +kernel,by decide +kernel⟩
theorem Kg{f CFd CK CW CN fI:Addr}{fd:FuncData}(F:Fun K "answer_check" "answer_check" CM f fd)(T:TFd K CFd)(TKc:TK K CK)(TW_:TWk K CW)(Ta:TA_ mg)(TNn:TN K mg CN fI)(DV:Dn P w K mg base CX0 2 "are_values" ["code","row"] (rh CK))(DW:Dn P w K mg base (CXF P w CN) 3 "walked" ["row","code","wanted"] (uu CW CK)):aF P w K mg base CX0 4 f fd ["field","given"] (cW CFd CK Kb):=by
 obtain ⟨fv,fdv,gV,hV,kV,bV⟩:=DV;obtain ⟨fw,fdw,gW,hW,kW,bW⟩:=DW;refine F.ok Fv cj (fun cdv A outer s H vs Q E hr h=>?_);obtain ⟨fa,g,c,xs,ps,rows,d,rfl,fo,hg,hrw,⟨r,t,rfl,rfl,htl,rfl⟩,hln,k⟩:=h;obtain ⟨p1,p2,rfl,hp1,hp2⟩:=AK hrw;obtain ⟨⟨dx,ca,pt,h1,h2,h3⟩,gc,ln⟩:=id fo;have nd:=Fv.nd;refine ⟨_,ag (a0 (cq (bf (aD gV (hr.mono (by decide)) rfl hV kV bV .nil aE (aa (aB (pv 0) rfl) (aa (aQ aG (pv 1) au (fun _ _=>rfl)) ah))))) (ai (ay (aH (aa (aY Ta.nr) ah)))) aO)
  (ag (LH (C:=CN) rfl rfl TNn.xm.cls (by rfl) TNn.at_ (fun E xe pn up=>ai (az (i:=2) nd rfl (Or.inl rfl) (aD gW hr rfl hW kW bW .nil up.passes (aa (aQ (aG:IxR _ (rD K)) (pv 1) au (fun _ _=>rfl)) (aa (aB (pv 0) rfl:PE _ _ (FH K _ _)) (aa (aQ (aG:IxR _ (rD K)) (pv 1) au (fun _ _=>rfl)) ah))))))
   (fun e=>ai (ay (aH (aa (aY Ta.nt) ah)))))
  (ai (ay (aH (aa (iF (bf (aB (pv 2) rfl)) au au) (aa (aB (pv 2) rfl) (aa (aB (pv 2) rfl) ah))))))),?_⟩
 have ea:act c (.check r t)=if bg ((count c:Int)-1) 0 r=true then (c,match lB c (r.map toNat) t with | some (p,nd,dp)=>[if p=true then 1 else 0,(nd:Int),(dp:Int)] | none=>[-2]) else (c,[-4]):=by
  refine (dj c r fun x=>(match Vbenab.treeIn c.holes (t.length+1) t with
   | some (y,[])=>(c,[if partsAll c x y=true then 1 else 0,(Vbenab.needlings y:Int),(Vbenab.depth y:Int)])
   | _=>(c,[-2]))).trans ?_
  exact congrArg (fun z=>if bg ((count c:Int)-1) 0 r=true then z else (c,[-4])) (Ir c (r.map toNat) t c)
 rw [ea] at k;refine ⟨_,rfl,fa,CFd,dx,_,_,rfl,h1,T.cl,T.nC,rfl,_,rfl,g,_,_,_,rfl,rfl,SqL.of hg,at_of (j:=0) (v:=.ref p1) rfl rfl,ca,pt,p1,c,r,rfl,h2,hp1,_,rfl,?_⟩;cases hb:bg ((count c:Int)-1) 0 r with
 | false=>
  rw [if_neg (by rw [hb]; decide)] at k;refine bz ⟨by show 1≤sizeLine; decide,fun p hp=>?_⟩;exact k _ p (fo.same (aj.new hp)) ae (aI.of (aj.new hp))
 | true=>
  rw [if_pos hb] at k;rw [lN hb] at hp1;refine b0 ⟨_,rfl,g,_,_,_,rfl,rfl,SqL.of hg,at_of (j:=1) (v:=.ref p2) rfl rfl,_,rfl,fa,CFd,dx,_,_,rfl,h1,T.cl,T.nC,rfl,_,rfl,g,_,_,_,rfl,rfl,SqL.of hg,at_of (j:=0) (v:=.ref p1) rfl rfl,p2,ca,pt,p1,t,c,r.map toNat,rfl,hp2,htl,h2,gc,hp1,?_⟩;cases hw:lB c (r.map toNat) t with
  | none=>
   rw [hw] at k;intro H1 ea2 d2 s1 σ' hσ;refine ⟨by show 1≤sizeLine; decide,fun p hp=>?_⟩;have sx:=s1.trans (aj.new (o:=.lst [.int (-2)]) hp);exact k _ p (fo.same sx) ae (aI.of sx)
  | some y=>
   obtain ⟨pb,n1,dp⟩:=y;rw [hw] at k;intro H1 aw pa dxw haw s1;have fin:∀ (x:Int),x=(if pb=true then 1 else 0)→∀ p,H1 p=none→Q (.ref p) (upd H1 p (.lst [.int x,.int (n1:Int),.int (dp:Int)])):=fun x ex p hp=>by
    have sx:=s1.trans (aj.new (o:=.lst [.int x,.int (n1:Int),.int (dp:Int)]) hp);refine k _ p (fo.same sx) ?_ (aI.of sx);rw [ae,ex];rfl
   refine ⟨_,rfl,aw,CW,dxw,_,_,rfl,haw,TW_.cl,TW_.nP,UR _ _ _ _ _ _,_,rfl,?_⟩;cases pb with
   | true=>exact bz ⟨_,rfl,aw,CW,dxw,_,_,rfl,haw,TW_.cl,TW_.nN,Pk _ _ _ _ _ _,_,rfl,aw,CW,dxw,_,_,rfl,haw,TW_.cl,TW_.nD,Pl _ _ _ _ _ _,by show 3≤sizeLine; decide,fin 1 rfl⟩
   | false=>exact b0 ⟨_,rfl,aw,CW,dxw,_,_,rfl,haw,TW_.cl,TW_.nN,Pk _ _ _ _ _ _,_,rfl,aw,CW,dxw,_,_,rfl,haw,TW_.cl,TW_.nD,Pl _ _ _ _ _ _,by show 3≤sizeLine; decide,fin 0 rfl⟩
theorem Fw:ax ["field","given","first","last","parting"] ["field","given"] (ao CO):=⟨rfl,rfl,rfl,by decide +kernel,rfl,by decide +kernel,by decide +kernel⟩
theorem Kh{f CFd CK CP:Addr}{fd:FuncData}(F:Fun K "answer_range" "answer_range" CO f fd)(T:TFd K CFd)(TKc:TK K CK)(Ta:TA_ mg)(hLi:mg "list"=none)(DH:Dn P w K mg base CX0 1 "has_value" ["code","value"] (AM CK))(DP:Cn P w K mg base 4 "Parting" CP ["self","code","wanted"] (yH CK CP))(DF:Dn P w K mg base CX0 4 "fewest_needlings" ["parting"] (vC CP (· + ·)))(DD:Dn P w K mg base CX0 4 "least_depths" ["parting"] (vC CP max)):aF P w K mg base CX0 6 f fd ["field","given"] (cW CFd CK Kc):=by
 obtain ⟨fh,fdh,gH,hH,kH,bH⟩:=DH;obtain ⟨fp,fdp,gP,mP,hP,bP⟩:=DP;obtain ⟨ff,fdf,gF,hF,kF,bF⟩:=DF;obtain ⟨fl,fdl,gL,hL,kL,bL⟩:=DD;refine F.ok Fw cj (fun cdv A outer s H vs Q E hr h=>?_);obtain ⟨fa,g,c,xs,ps,rows,d,rfl,fo,hg,hrw,⟨a,b,rfl,rfl,rfl⟩,hln,k⟩:=h;obtain rfl:=sA hrw;obtain ⟨⟨dx,ca,pt,h1,h2,h3⟩,gc,ln⟩:=id fo;have nd:=Fw.nd;refine ⟨_,ag (az (i:=2) nd rfl (Or.inl rfl) (aQ aG (pv 1) au (fun _ _=>rfl))) (ag (az (i:=3) nd rfl (Or.inl rfl) (aQ aG (pv 1) au (fun _ _=>rfl)))
  (ag (a0 (PW.pt (jB (cq (bf (aD gH (hr.mono (by decide)) rfl hH kH bH .nil aE (aa (aB (pv 0) rfl) (aa (pv 2) ah))))) (jB (cq (bf (aD gH (hr.mono (by decide)) rfl hH kH bH .nil aE (aa (aB (pv 0) rfl) (aa (pv 3) ah))))) (hJ (aK eZ (pv 3) (pv 2) (aN _)))))) (ai (ay (aH (aa (aY Ta.nv) ah)))) aO)
  (ag (az (i:=4) nd rfl (Or.inl rfl) (dU mP gP hr rfl hP bP .nil aE (aa (aB (pv 0) rfl) (aa (iH (lY rfl) (by rfl) hLi Ff (aa (iH FX (by rfl) Ta.rg AH (aa (pv 2) (aa (aU cz (pv 3) au) ah))) ah)) ah))))
  (ai (ay (aH (aa (aQ aG (aD gF (hr.mono (by decide)) rfl hF kF bF .nil aE (aa (pv 4) ah)) (wj pX au) (fun _ _=>rfl)) (aa (aQ aG (aD gL (hr.mono (by decide)) rfl hL kL bL .nil aE (aa (pv 4) ah)) (wj pX au) (fun _ _=>rfl)) ah)))))))),?_⟩
 have ea:act c (.range_ a b)=if isBetween a 0 ((count c:Int)-1)=false∨isBetween b a ((count c:Int)-1)=false then (c,[-5]) else (c,[(fewest c ((List.range (count c)).filter fun v=>decide (a.toNat≤v)&&decide (v≤b.toNat)):Int),(shallowest c ((List.range (count c)).filter fun v=>decide (a.toNat≤v)&&decide (v≤b.toNat)):Int)]):=rfl
 rw [ea] at k;have no:(isBetween a 0 ((count c:Int)-1)=false∨isBetween b a ((count c:Int)-1)=false)→∀ p,H p=none→Q (.ref p) (upd H p (.lst [.int (-5)])):=fun hn p hp=>by
  rw [if_pos hn] at k;exact k _ p (fo.same (aj.new hp)) ae (aI.of (aj.new hp))
 have bt:∀ {x lo hi:Int},isBetween x lo hi=(decide (lo≤x)&&decide (x≤hi)):=fun {x lo hi}=>rfl;refine ⟨_,rfl,g,_,_,_,rfl,rfl,SqL.of hg,at_of (j:=0) (v:=.int a) rfl rfl,_,rfl,g,_,_,_,rfl,rfl,SqL.of hg,at_of (j:=1) (v:=.int b) rfl rfl,_,rfl,fa,CFd,dx,_,_,rfl,h1,T.cl,T.nC,rfl,_,rfl,ca,pt,c,a,rfl,h2,_,rfl,?_⟩;cases hba:isBetween a 0 ((count c:Int)-1) with
 | false=>exact bz (bz ⟨by show 1≤sizeLine; decide,no (.inl hba)⟩)
 | true=>
  refine b0 ⟨_,rfl,fa,CFd,dx,_,_,rfl,h1,T.cl,T.nC,rfl,_,rfl,ca,pt,c,b,rfl,h2,_,rfl,?_⟩;cases hbb:isBetween b 0 ((count c:Int)-1) with
  | false=>
   refine bz (bz ⟨by show 1≤sizeLine; decide,no (.inr ?_)⟩);rw [bt,and_eq_false_iff,decide_eq_false_iff_not,decide_eq_false_iff_not] at hbb;rw [bt,and_eq_true,decide_eq_true_eq,decide_eq_true_eq] at hba;rw [bt,and_eq_false_iff,decide_eq_false_iff_not,decide_eq_false_iff_not];omega
  | true=>
   refine b0 ⟨_,rfl,_,rfl,_,_,rfl,rfl,_,rfl,cg (fun hlt=>?_) fun hlt=>?_⟩
   ·refine ⟨by show 1≤sizeLine; decide,no (.inr ?_)⟩;have hlt:b<a:=hlt;rw [bt,and_eq_false_iff,decide_eq_false_iff_not];omega
   ·have hlt:¬ b<a:=hlt;obtain ⟨e1,e2⟩:=sC hba;obtain ⟨e3,e4⟩:=sC hbb;rw [if_neg (by rw [hba,bt,decide_eq_true (by omega),decide_eq_true (by omega)]; decide),GQ e4 (by omega),tE,qR] at k;have hcc:count c≤70:=gc.c2;refine ⟨_,rfl,fa,CFd,dx,_,_,rfl,h1,T.cl,T.nC,rfl,_,rfl,_,rfl,_,_,rfl,rfl,_,_,rfl,fun pg hpg=>?_⟩;refine ⟨pg,a,b+1,rfl,ae,⟨by omega,by omega,by omega,by omega⟩,by omega,fun pl hpl=>?_⟩;have el:((List.range (b+1-a).toNat).map fun (i:Nat)=>V.int (a+(i:Int)))=vzs (range' a.toNat (b.toNat+1-a.toNat)):=by
     show _=((range' a.toNat (b.toNat+1-a.toNat)).map fun (n:Nat)=>(n:Int)).map V.int;rw [List.range'_eq_map_range,map_map,map_map,show (b+1-a).toNat=b.toNat+1-a.toNat by omega];refine map_congr_left fun i _=>?_;show V.int (a+(i:Int))=V.int ((a.toNat+i:Nat):Int);rw [show a+(i:Int)=((a.toNat+i:Nat):Int) by omega]
    rw [el];have s2:aj H (upd (upd H pg (.rng a (b+1))) pl (.lst (vzs (range' a.toNat (b.toNat+1-a.toNat))))):=(aj.new hpg).trans (aj.new hpl);intro x dxx nx ndx nex;refine eX nx ndx (cO.same h2 s2) gc ae fun H1 s1 po=>?_;refine ⟨_,rfl,x,_,_,_,rfl,po,fun H2 q s3 fq hq=>?_⟩;refine ⟨_,rfl,q,_,_,_,rfl,rfl,SqL.of hq,pO _ _ _ _,_,rfl,x,_,_,_,rfl,po.same s3,fun H3 q2 s4 fq2 hq2=>?_⟩;refine ⟨_,rfl,q2,_,_,_,rfl,rfl,SqL.of hq2,pO _ _ _ _,by show 2≤sizeLine; decide,fun p hp=>?_⟩;have sx:=(((s2.trans s1).trans s3).trans s4).trans (aj.new (o:=.lst [.int ((cst (· + ·) c.holes (codeWords c) (range' a.toNat (b.toNat+1-a.toNat)) (3 ^ c.holes-1):Nat):Int),.int ((cst max c.holes (codeWords c) (range' a.toNat (b.toNat+1-a.toNat)) (3 ^ c.holes-1):Nat):Int)]) hp);exact k _ p (fo.same sx) ae (aI.of sx)
end
abbrev uw:Stmt:=top 103
def Gp(p:Int)(xs:List Int)(rows:List (List Int))(d:Call):Prop:=
 if p=0 then NB xs rows d else if p=1 then Nz xs rows d else if p=2 then JG xs rows d else if p=3 then JI xs rows d else if p=4 then JH xs rows d else if p=5 then ND xs rows d else if p=6 then JT xs rows d else if p=7 then JU xs rows d else if p=8 then NG xs rows d else if p=9 then J6 xs rows d else if p=10 then Fs xs rows d else if p=11 then NH xs rows d else if p=12 then Ka xs rows d else if p=13 then Kb xs rows d else if p=14 then Ft xs rows d else if p=15 then Fu xs rows d else if p=16 then NA xs rows d else if p=17 then Kc xs rows d else if p=18 then Fj xs rows d else False
theorem len0{α:Type}{l:List α}(h:l.length=0):l=[]:=length_eq_zero_iff.mp h
theorem ux{α:Type}{l:List α}(h:l.length=1):∃ a,l=[a]:=List.length_eq_one_iff.mp h
theorem PF{α:Type}{l:List α}(h:l.length=2):∃ a b,l=[a,b]:=by
 match l,h with
 | [a,b],_=>exact ⟨a,b,rfl⟩
theorem MJ{p:Int}{xs:List Int}{rows:List (List Int)}(hs:shape p=some (xs.length,rows.length))(hb:PyInside.call PyVbenab.bound ((p::xs)::rows)=true):∃ d,Vbenab.decode (PyVbenab.whole ((p::xs)::rows))=some d∧Gp p xs rows d:=by
 have inj:∀ {a b:Nat},some (a,b)=some (xs.length,rows.length)→xs.length=a∧rows.length=b:=fun h=>by
  injection h with h;injection h with h1 h2;exact ⟨h1.symm,h2.symm⟩
 unfold PyVbenab.shape at hs;by_cases h:p=0
 ·subst h;obtain ⟨e1,e2⟩:=inj hs;obtain rfl:=len0 e1;obtain ⟨r,rfl⟩:=ux e2;exact ⟨.code r,rfl,r,rfl,rfl,rfl⟩
 rw [if_neg h] at hs;by_cases h:p=1
 ·subst h;obtain ⟨e1,e2⟩:=inj hs;obtain rfl:=len0 e1;obtain rfl:=len0 e2;exact ⟨.text,rfl,rfl,rfl,rfl⟩
 rw [if_neg h] at hs;by_cases h:p=2
 ·subst h;obtain ⟨e1,e2⟩:=inj hs;obtain ⟨v,rfl⟩:=ux e1;obtain rfl:=len0 e2;exact ⟨.marks v,rfl,v,rfl,rfl,rfl⟩
 rw [if_neg h] at hs;by_cases h:p=3
 ·subst h;obtain ⟨e1,e2⟩:=inj hs;obtain rfl:=len0 e1;obtain ⟨r,rfl⟩:=ux e2;exact ⟨.value r,rfl,r,rfl,rfl,rfl⟩
 rw [if_neg h] at hs;by_cases h:p=4
 ·subst h;obtain ⟨e1,e2⟩:=inj hs;obtain ⟨v,rfl⟩:=ux e1;obtain rfl:=len0 e2;exact ⟨.name_ v,rfl,v,rfl,rfl,rfl⟩
 rw [if_neg h] at hs;by_cases h:p=5
 ·subst h;obtain ⟨e1,e2⟩:=inj hs;obtain rfl:=len0 e1;obtain ⟨r,rfl⟩:=ux e2;exact ⟨.find r,rfl,r,rfl,rfl,rfl⟩
 rw [if_neg h] at hs;by_cases h:p=6
 ·subst h;obtain ⟨e1,e2⟩:=inj hs;obtain rfl:=len0 e1;obtain ⟨r,rfl⟩:=ux e2;exact ⟨.falls r,rfl,r,rfl,rfl,rfl⟩
 rw [if_neg h] at hs;by_cases h:p=7
 ·subst h;obtain ⟨e1,e2⟩:=inj hs;obtain rfl:=len0 e1;obtain rfl:=len0 e2;exact ⟨.clean,rfl,rfl,rfl,rfl⟩
 rw [if_neg h] at hs;by_cases h:p=8
 ·subst h;obtain ⟨e1,e2⟩:=inj hs;obtain rfl:=len0 e1;obtain rfl:=len0 e2;exact ⟨.nearest,rfl,rfl,rfl,rfl⟩
 rw [if_neg h] at hs;by_cases h:p=9
 ·subst h;obtain ⟨e1,e2⟩:=inj hs;obtain rfl:=len0 e1;obtain rfl:=len0 e2;exact ⟨.slips,rfl,rfl,rfl,rfl⟩
 rw [if_neg h] at hs;by_cases h:p=10
 ·subst h;obtain ⟨e1,e2⟩:=inj hs;obtain rfl:=len0 e1;obtain ⟨r,rfl⟩:=ux e2;exact ⟨.fewest r,rfl,r,rfl,rfl,rfl⟩
 rw [if_neg h] at hs;by_cases h:p=11
 ·subst h;obtain ⟨e1,e2⟩:=inj hs;obtain rfl:=len0 e1;obtain ⟨r,rfl⟩:=ux e2;exact ⟨.tree r,rfl,r,rfl,rfl,rfl⟩
 rw [if_neg h] at hs;by_cases h:p=12
 ·subst h;obtain ⟨e1,e2⟩:=inj hs;obtain rfl:=len0 e1;obtain ⟨r,rfl⟩:=ux e2;exact ⟨.depth r,rfl,r,rfl,rfl,rfl⟩
 rw [if_neg h] at hs;by_cases h:p=13
 ·subst h;obtain ⟨e1,e2⟩:=inj hs;obtain rfl:=len0 e1;obtain ⟨r,t,rfl⟩:=PF e2;refine ⟨.check r t,rfl,r,t,rfl,rfl,?_,rfl⟩;have hb2:(PyInside.each (PyVbenab.bound 13).1 []&&PyInside.lists (PyVbenab.bound 13).2 [r,t])=true:=hb;rw [and_eq_true] at hb2;have hb3:(decide (0≤r.length)&&decide (r.length≤15900)&&r.all (PyInside.within (-9223372036854775808) 9223372036854775807)&&(decide (0≤t.length)&&decide (t.length≤300)&&t.all (PyInside.within (-9223372036854775808) 9223372036854775807)&&true))=true:=hb2.2;simp only [and_eq_true,decide_eq_true_eq] at hb3;omega
 rw [if_neg h] at hs;by_cases h:p=14
 ·subst h;obtain ⟨e1,e2⟩:=inj hs;obtain rfl:=len0 e1;obtain ⟨r,rfl⟩:=ux e2;exact ⟨.labels r,rfl,r,rfl,rfl,rfl⟩
 rw [if_neg h] at hs;by_cases h:p=15
 ·subst h;obtain ⟨e1,e2⟩:=inj hs;obtain rfl:=len0 e1;obtain ⟨r,t,rfl⟩:=PF e2;exact ⟨.accept r t,rfl,r,t,rfl,rfl,rfl⟩
 rw [if_neg h] at hs;by_cases h:p=16
 ·subst h;obtain ⟨e1,e2⟩:=inj hs;obtain ⟨v,rfl⟩:=ux e1;obtain rfl:=len0 e2;exact ⟨.most v,rfl,v,rfl,rfl,rfl⟩
 rw [if_neg h] at hs;by_cases h:p=17
 ·subst h;obtain ⟨e1,e2⟩:=inj hs;obtain ⟨v,v2,rfl⟩:=PF e1;obtain rfl:=len0 e2;exact ⟨.range_ v v2,rfl,v,v2,rfl,rfl,rfl⟩
 rw [if_neg h] at hs;by_cases h:p=18
 ·subst h;obtain ⟨e1,e2⟩:=inj hs;obtain rfl:=len0 e1;obtain rfl:=len0 e2;exact ⟨.counts,rfl,rfl,rfl,rfl⟩
 rw [if_neg h] at hs;cases hs
theorem AS{p:Int}{n k:Nat}(h:shape p=some (n,k)):n≤2∧k≤2:=by
 unfold PyVbenab.shape at h;have fin:∀ {a b:Nat},some (a,b)=some (n,k)→a≤2→b≤2→n≤2∧k≤2:=fun e ha hb=>by
  injection e with e;injection e with e1 e2;subst e1 e2;exact ⟨ha,hb⟩
 by_cases h0:p=0
 ·rw [if_pos h0] at h;exact fin h (by decide) (by decide)
 rw [if_neg h0] at h;by_cases h1:p=1
 ·rw [if_pos h1] at h;exact fin h (by decide) (by decide)
 rw [if_neg h1] at h;by_cases h2:p=2
 ·rw [if_pos h2] at h;exact fin h (by decide) (by decide)
 rw [if_neg h2] at h;by_cases h3:p=3
 ·rw [if_pos h3] at h;exact fin h (by decide) (by decide)
 rw [if_neg h3] at h;by_cases h4:p=4
 ·rw [if_pos h4] at h;exact fin h (by decide) (by decide)
 rw [if_neg h4] at h;by_cases h5:p=5
 ·rw [if_pos h5] at h;exact fin h (by decide) (by decide)
 rw [if_neg h5] at h;by_cases h6:p=6
 ·rw [if_pos h6] at h;exact fin h (by decide) (by decide)
 rw [if_neg h6] at h;by_cases h7:p=7
 ·rw [if_pos h7] at h;exact fin h (by decide) (by decide)
 rw [if_neg h7] at h;by_cases h8:p=8
 ·rw [if_pos h8] at h;exact fin h (by decide) (by decide)
 rw [if_neg h8] at h;by_cases h9:p=9
 ·rw [if_pos h9] at h;exact fin h (by decide) (by decide)
 rw [if_neg h9] at h;by_cases h10:p=10
 ·rw [if_pos h10] at h;exact fin h (by decide) (by decide)
 rw [if_neg h10] at h;by_cases h11:p=11
 ·rw [if_pos h11] at h;exact fin h (by decide) (by decide)
 rw [if_neg h11] at h;by_cases h12:p=12
 ·rw [if_pos h12] at h;exact fin h (by decide) (by decide)
 rw [if_neg h12] at h;by_cases h13:p=13
 ·rw [if_pos h13] at h;exact fin h (by decide) (by decide)
 rw [if_neg h13] at h;by_cases h14:p=14
 ·rw [if_pos h14] at h;exact fin h (by decide) (by decide)
 rw [if_neg h14] at h;by_cases h15:p=15
 ·rw [if_pos h15] at h;exact fin h (by decide) (by decide)
 rw [if_neg h15] at h;by_cases h16:p=16
 ·rw [if_pos h16] at h;exact fin h (by decide) (by decide)
 rw [if_neg h16] at h;by_cases h17:p=17
 ·rw [if_pos h17] at h;exact fin h (by decide) (by decide)
 rw [if_neg h17] at h;by_cases h18:p=18
 ·rw [if_pos h18] at h;exact fin h (by decide) (by decide)
 rw [if_neg h18] at h;cases h
theorem uy:∀ {k:Nat} {r:List Int} {rows:List (List Int)} {t:List Int},PyFlat.rows k r=some (rows,t)→rows.length=k∧t.length≤r.length∧∀ x∈rows,x.length≤r.length
 | 0,r,rows,t,h=>by
  cases h;exact ⟨rfl,le_refl _,fun _ z=>by cases z⟩
 | k+1,r,rows,t,h=>by
  obtain ⟨n,r2,more,rfl,hn,h2,rfl⟩:=xf h;obtain ⟨a,b,c⟩:=uy h2;rw [length_drop] at b;refine ⟨by rw [length_cons,a],by rw [length_cons]; omega,fun x hx=>?_⟩;rcases mem_cons.mp hx with e | e
  ·rw [e,length_take,length_cons];omega
  ·have:=c x e;rw [length_drop] at this;rw [length_cons];omega
theorem CQ{f:Nat}{p:Int}{r:List Int}{cs:List (List (List Int))}(h:PyFlat.calls shape f (p::r)=some cs):∃ (f' n k:Nat) (rows:List (List Int)) (t:List Int) (cs':List (List (List Int))),shape p=some (n,k)∧n≤r.length∧PyFlat.rows k (r.drop n)=some (rows,t)∧PyFlat.calls shape f' t=some cs'∧cs=((p::r.take n)::rows)::cs':=by
 cases f with
 | zero=>cases h
 | succ f=>
  unfold PyFlat.calls at h;cases hc:PyFlat.call shape (p::r) with
  | none=>
   rw [hc] at h;cases h
  | some y=>
   obtain ⟨c,t⟩:=y;rw [hc] at h;dsimp only at h;cases hcs:PyFlat.calls shape f t with
   | none=>
    rw [hcs] at h;cases h
   | some cs'=>
    rw [hcs] at h;cases h;unfold PyFlat.call at hc;dsimp only at hc;cases hsh:shape p with
    | none=>
     rw [hsh] at hc;cases hc
    | some nk=>
     obtain ⟨n,k⟩:=nk;rw [hsh] at hc;dsimp only at hc;by_cases hl:r.length<n
     ·rw [if_pos hl] at hc;cases hc
     ·rw [if_neg hl] at hc;cases hrw:PyFlat.rows k (r.drop n) with
      | none=>
       rw [hrw] at hc;cases hc
      | some z=>
       obtain ⟨rows,t2⟩:=z;rw [hrw] at hc;cases hc;exact ⟨f,n,k,rows,t,cs',rfl,by omega,hrw,hcs,rfl⟩
theorem aL.rM{H:Hp}{z:Addr}{od:Obj}{u:HO}(hz:H z=some (.frz od u)):∀ {rs:List Addr} {ws:List (List Nat)},aL H rs ws→aL (but z H) rs ws
 | _,_,.nil=>.nil
 | _,_,.cons a t=>.cons (aR (aW a hz (by intro q; cases q)) a) (aL.rM hz t)
theorem FO.rM{CFd CK:Addr}{H:Hp}{fa z:Addr}{c:Vbenab.Code}{od:Obj}{u:HO}(f:FO CFd CK H fa c)(hz:H z=some (.frz od u)):FO CFd CK (but z H) fa c:=by
 obtain ⟨⟨dx,ca,pt,h1,h2,h3⟩,g,l⟩:=f;obtain ⟨dxc,pn,pq,pd,rn,o1,o2,o3,o4,o5⟩:=h2.ex;exact ⟨⟨dx,ca,pt,aR (aW h1 hz (by intro q; cases q)) h1,⟨dxc,pn,pq,pd,rn,aR (aW o1 hz (by intro q; cases q)) o1,aR (aW o2 hz (by intro q; cases q)) o2,aL.rM hz o3,aR (aW o4 hz (by intro q; cases q)) o4,aR (aW o5 hz (by intro q; cases q)) o5⟩,aR (aW h3 hz (by intro q; cases q)) h3⟩,g,l⟩
theorem FO.cR{CFd CK:Addr}{H H':Hp}{fa p C dx:Addr}{c:Vbenab.Code}{fs:List (Str×V)}(f:FO CFd CK H fa c)(hp:H p=some (.ins C dx fs))(n:fa≠p)(hn:fs.length<6)(u:aI p H H'):FO CFd CK H' fa c:=by
 obtain ⟨⟨dx2,ca,pt,h1,h2,h3⟩,g,l⟩:=f;obtain ⟨dxc,pn,pq,pd,rn,o1,o2,o3,o4,o5⟩:=id h2.ex;have nca:ca≠p:=fun z=>by
  rw [z,hp] at o1;injection o1 with o1;injection o1 with _ _ e;rw [e] at hn;exact absurd hn (by show ¬ 6<6; decide)
 exact ⟨⟨dx2,ca,pt,u _ _ h1 n,cO.cR h2 hp nca u,u _ _ h3 (aW h3 hp (by intro z; cases z))⟩,g,l⟩
theorem ck.rM{H:Hp}{z:Addr}{od:Obj}{u:HO}(hz:H z=some (.frz od u)):∀ {rs:List Addr} {ws:List (List Int)},ck H rs ws→ck (but z H) rs ws
 | _,_,.nil=>.nil
 | _,_,.cons a t=>.cons (aR (aW a hz (by intro q; cases q)) a) (ck.rM hz t)
theorem Cl.put{C:Addr}{K:PySem.W.Frag}{sb:Bool}{H:Hp}{a dx q z:Addr}{rem:List Int}{o:HO}(c:Cl C K sb H a dx q rem)(na:a≠z)(nq:sb=true→q≠z):Cl C K sb (upd H z o) a dx q rem:=by
 obtain ⟨ns,k,h1,h2,h3⟩:=c;refine ⟨ns,k,by rw [aq na]; exact h1,?_,h3⟩;have:=(h2.rM nq).same (H':=upd H z o) fun b u e=>by
  obtain ⟨n,e⟩:=cC e;rw [aq n];exact e
 exact this
theorem Cl.cR{C:Addr}{K:PySem.W.Frag}{sb:Bool}{H H':Hp}{a dx q p D dy:Addr}{rem:List Int}{fs:List (Str×V)}(c:Cl C K sb H a dx q rem)(hp:H p=some (.ins D dy fs))(n:a≠p)(u:aI p H H'):Cl C K sb H' a dx q rem:=by
 obtain ⟨ns,k,h1,h2,h3⟩:=c;exact ⟨ns,k,u _ _ h1 n,h2.cR hp u,h3⟩
section
variable {P:Program}{w:World}{K:PySem.W.Frag}{mg:Str→Option Value}{base:Heap}
structure TD(P:Program)(w:World)(K:PySem.W.Frag)(mg:Str→Option Value)(base:Heap)(CFd CK:Addr):Prop where
 sh:∃ a vs,mg "SHAPES"=some (.ref a)∧tf P w K a vs∧∀ p n k,shape p=some (n,k)→∃ t,valueAt vs (Sum.inl p:Key)=some (.ref t)∧∀ H:Hp,SqT K H t [.int (n:Int),.int (k:Int)]
 an:∃ a vs,mg "ANSWERS"=some (.ref a)∧tf P w K a vs∧∀ p n k,shape p=some (n,k)→∃ (f:Addr) (fd:FuncData) (kk:Nat),kk≤9∧valueAt vs (Sum.inl p:Key)=some (.ref f)∧keepIn K (.ref f)=true∧aF P w K mg base CX0 kk f fd ["field","given"] (cW CFd CK (Gp p))∧L2.Binds K fd ["field","given"] []
structure GC(P:Program)(w:World)(K:PySem.W.Frag)(mg:Str→Option Value)(base:Heap)(C:Addr)(sb:Bool):Prop where
 cl:TC K C
 dn:∃ f fd,aF P w K mg base CX0 1 f fd ["self"] (RA K C sb)∧Meth K C "done" f∧L2.Binds K fd ["self"] []
 nu:∃ f fd,aF P w K mg base CX0 1 f fd ["self"] (Jn K C sb)∧Meth K C "take_number" f∧L2.Binds K fd ["self"] []
 gv:∃ f fd,aF P w K mg base CX0 3 f fd ["self","shape"] (RI K C sb)∧Meth K C "take_given" f∧L2.Binds K fd ["self","shape"] []
theorem UY:(("done":Str)==("numbers":Str))=false∧(("done":Str)==("taken":Str))=false:=by decide +kernel
theorem UZ:(("take_given":Str)==("numbers":Str))=false∧(("take_given":Str)==("taken":Str))=false:=by decide +kernel
def lO(K:PySem.W.Frag):Sp:=fun vs H Q _=>∃ (q:Addr) (ns:List Int),vs=[.ref q]∧SqL K H q (ns.map V.int)∧ns.length≤16000∧answers_asked ns=true∧∀ (H':Hp) (p:Addr),H' p=some (.lst ((answers ns).map V.int))→Q (.ref p) H'
theorem xk:ax ["calls","field","ahead","told","number","given","answer"] ["calls"] (ao uw):=⟨rfl,rfl,rfl,by decide +kernel,rfl,by decide +kernel,by decide +kernel⟩
theorem CS{f CFd CK CC:Addr}{fd:FuncData}(F:Fun K "answers" "answers" uw f fd)(TDd:TD P w K mg base CFd CK)(G:∀ sb,GC P w K mg base CC sb)
  (DF:Cn P w K mg base 9 "Field" CFd ["self"] (JF CFd CK)) (DC:∀ sb,Cn P w K mg base 1 "Calls" CC ["self","numbers"] (Rx K CC sb)) (DN:Dn P w K mg base CX0 1 "counted" ["row"] dM):aF P w K mg base CX0 11 f fd ["calls"] (lO K):=by
 obtain ⟨ff,fdf,gF,mF,hF,bF⟩:=DF;obtain ⟨fn,fdn,gN,hN,kN,bN⟩:=DN;obtain ⟨⟨aS,vS,hS,dS,tS⟩,⟨aA,vA,hA,dA,tA⟩⟩:=TDd;refine F.ok xk (fun vs H Q E h=>?_) (fun cdv A outer s H vs Q E hr h=>?_)
 ·obtain ⟨q,ns,rfl,_⟩:=h;rfl
 ·obtain ⟨q,ns,rfl,hq,hnl,hask,k⟩:=h;have nd:=xk.nd;obtain ⟨sb,hsrc⟩:=O4 hq;obtain ⟨T,⟨fd1,fdd1,gD,mD,bD⟩,⟨fn1,fdn1,gU,mU,bU⟩,⟨fg1,fdg1,gG,mG,bG⟩⟩:=G sb;obtain ⟨fc,fdc,gC,mC,hC,bC⟩:=DC sb;refine ⟨_,ag (az (i:=1) nd rfl (Or.inl rfl) (HN mF gF hr rfl hF bF .nil aE)) (ag (az (i:=2) nd rfl (Or.inl rfl) (dU mC gC (hr.mono (by decide)) rfl hC bC .nil aE (aa (pv 0) ah)))
   (ag (az (i:=3) nd rfl (Or.inl rfl) (aH ah))
   (ag (cS PassesOwn.never (cq (bf (bb (pv 2) T.cl mD gD (hr.mono (by decide)) bD .nil aE)))
    (ag (az (i:=4) nd rfl (Or.inl rfl) (bb (pv 2) T.cl mU gU (hr.mono (by decide)) bU .nil aE))
    (ag (az (i:=5) nd rfl (Or.inl rfl) (EB (aZ (pv 2) T.cl mG gG (hr.mono (by decide)) bG .nil aE (aa (EF (iS (v:=.ref aS) (by rfl) hS rfl (by decide)) (pv 4) (fun _ _=>rfl)) ah))))
    (ag (az (i:=6) nd rfl (Or.inl rfl) (EF (iS (v:=.ref aA) (by rfl) hA rfl (by decide)) (pv 4) (fun _ _=>rfl)))
    (ai (aV (c5 plainAttrs_list slot_list_extend type_list_extend lr (pv 3) (aa (aD gN (hr.mono (by decide)) rfl hN kN bN .nil aE (aa (EB (zW (j:=6) rfl (Or.inl rfl) (aa (pv 1) (aa (pv 5) ah)))) ah)) ah))))))))
   (ai (ay (pv 3)))))),?_⟩
  intro fa dxf nf ndf nef;refine ⟨fa,dxf,rfl,ae,fun H1 fo1 u1=>⟨rfl,?_⟩⟩;have s1:aj H H1:=aj.made nf ndf u1;have hsrc1:=hsrc.same s1;refine ⟨_,rfl,?_⟩;intro ac dxc nc ndc nec;have sm:aj H1 (upd (upd H1 dxc (.own ac)) ac (.ins CC dxc [])):=fun b o e=>by rw [aq (ak e nc),aq (ak e ndc)]; exact e
  refine ⟨ac,dxc,q,ns,rfl,ae,hsrc1.same sm,fun H2 cl2 u2=>⟨rfl,?_⟩⟩;have s2:aj H1 H2:=aj.made nc ndc u2;have fo2:=fo1.same s2;refine ⟨zero_le _,fun pt hpt=>?_⟩;obtain ⟨ns0,k0,oc2,sc2,_⟩:=id cl2;have nq:sb=true→q≠pt:=sc2.ne hpt;have nac:ac≠pt:=ak oc2 hpt;obtain ⟨⟨dxf2,ca2,ptx2,of2,_,_⟩,_,_⟩:=id fo2;have nfa:fa≠pt:=ak of2 hpt;have nfc:fa≠ac:=fun z=>by
   rw [z,oc2] at of2;injection of2 with of2;injection of2 with _ _ e;exact absurd (congrArg length e) (by show ¬ 2=1; decide)
  have foB:FO CFd CK (but pt (upd H2 pt (.lst []))) fa Vbenab.start:=by
   rw [cb];exact fo2.same (qr hpt)
  have clB:Cl CC K sb (upd H2 pt (.lst [])) ac dxc q ns:=cl2.put nac nq;unfold PyVbenab.answers_asked at hask;cases hraw:PyFlat.calls shape ns.length ns with
  | none=>
   rw [hraw] at hask;cases hask
  | some raw=>
  rw [hraw] at hask;have hin:PyInside.calls PyVbenab.bound raw=true:=by
   simp only [and_eq_true] at hask;exact hask.1.1.2
  have hshort:(answers ns).length≤10000000:=by
   simp only [and_eq_true] at hask;have:=hask.2;unfold PyFlat.short at this;exact of_decide_eq_true this
  have hans:answers ns=[]++PyFlat.told (PyFlat.played VbenabNeutral.step Vbenab.start (raw.map PyVbenab.whole)):=by
   unfold PyVbenab.answers PyVbenab.calls;rw [hraw];rfl
  refine ⟨fun m σ H'=>∃ (rem:List Int) (f':Nat) (cs:List (List (List Int))) (c:Vbenab.Code) (dn:List Int) (v4 v5 v6:Option V),σ=[some (.ref q),some (.ref fa),some (.ref ac),some (.ref pt),v4,v5,v6]∧m=rem.length∧rem.length≤16000∧PyFlat.calls shape f' rem=some cs∧PyInside.calls PyVbenab.bound cs=true∧Cl CC K sb H' ac dxc q rem∧FO CFd CK (but pt H') fa c∧H' pt=some (.lst (dn.map V.int))∧answers ns=dn++PyFlat.told (PyFlat.played VbenabNeutral.step c (cs.map PyVbenab.whole)),
   ⟨_,ns,ns.length,raw,Vbenab.start,[],none,none,none,rfl,rfl,hnl,hraw,hin,clB,foB,ae,hans⟩,?_⟩
  rintro m σ H3 ⟨rem,f',cs,c,dn,v4,v5,v6,rfl,rfl,hrl,hcs,hins,cl3,fo3,hp3,hans3⟩;obtain ⟨ns3,k3,oc3,sc3,_⟩:=id cl3;refine ⟨_,rfl,ac,dxc,_,rfl,oc3,xc UY,ac,dxc,q,rem,rfl,cl3,_,rfl,?_⟩;cases rem with
  | nil=>
   refine b0 ⟨_,rfl,k H3 pt ?_⟩;have hcs:cs=[]:=by
    cases f' <;> (cases hcs; rfl)
   rw [hp3,hans3,hcs];show _=some (HO.lst ((dn++[]).map V.int));rw [append_nil]
  | cons p r=>
   rw [length_cons] at hrl;refine bz ?_;obtain ⟨f2,n,kk,rows,t,cs',hsh,hnr,hrows,hcs',rfl⟩:=CQ hcs;obtain ⟨sn,sk⟩:=AS hsh;obtain ⟨rc1,rc2,rc3⟩:=uy hrows;rw [length_drop] at rc2 rc3;have htk:(r.take n).length=n:=by rw [length_take]; omega
   rw [show PyInside.calls PyVbenab.bound (((p::r.take n)::rows)::cs')=(PyInside.call PyVbenab.bound ((p::r.take n)::rows)&&PyInside.calls PyVbenab.bound cs') from rfl,and_eq_true] at hins;obtain ⟨d,hdec,hG⟩:=MJ (xs:=r.take n) (rows:=rows) (by rw [htk,rc1]; exact hsh) hins.1;have hstep:VbenabNeutral.step c (PyVbenab.whole ((p::r.take n)::rows))=act c d:=by
    show Vbenab.step c _=_;unfold Vbenab.step;rw [hdec]
   have hans4:answers ns=dn++(((act c d).2.length:Int)::(act c d).2)++PyFlat.told (PyFlat.played VbenabNeutral.step (act c d).1 (cs'.map PyVbenab.whole)):=by
    rw [hans3,map_cons,append_assoc];show dn++PyFlat.told ((VbenabNeutral.step c (PyVbenab.whole ((p::r.take n)::rows))).2::PyFlat.played VbenabNeutral.step (VbenabNeutral.step c (PyVbenab.whole ((p::r.take n)::rows))).1 (cs'.map PyVbenab.whole))=_;rw [hstep];rfl
   have hal:dn.length+((act c d).2.length+1)≤10000000:=by
    have:=congrArg length hans4;rw [length_append,length_append,length_cons] at this;omega
   refine ⟨fun σ' H'=>∃ m',m'<(p::r).length∧∃ (rem:List Int) (f':Nat) (cs:List (List (List Int))) (c:Vbenab.Code) (dn:List Int) (v4 v5 v6:Option V),σ'=[some (.ref q),some (.ref fa),some (.ref ac),some (.ref pt),v4,v5,v6]∧m'=rem.length∧rem.length≤16000∧PyFlat.calls shape f' rem=some cs∧PyInside.calls PyVbenab.bound cs=true∧Cl CC K sb H' ac dxc q rem∧FO CFd CK (but pt H') fa c∧H' pt=some (.lst (dn.map V.int))∧answers ns=dn++PyFlat.told (PyFlat.played VbenabNeutral.step c (cs.map PyVbenab.whole)),fun _ _ z=>z,?_⟩;refine ⟨_,rfl,ac,dxc,_,rfl,oc3,xc O6,ac,dxc,q,p,r,rfl,cl3,fun H4 cl4 u4=>?_⟩;have fo4:FO CFd CK (but pt H4) fa c:=fo3.cR (aR nac oc3) nfc (by show 2<6; decide) (dw u4);have hp4:=u4 _ _ hp3 (Ne.symm nac);obtain ⟨tS1,vt,qt⟩:=tS p n kk hsh;obtain ⟨fa1,fda1,ka,hka,va,kpa,gA,bA⟩:=tA p n kk hsh;refine ⟨pt,_,hp4,True.intro,fun od4=>?_⟩;generalize hH4l:upd H4 pt (.frz od4 (.lst (dn.map V.int)))=H4l;have hp4l:H4l pt=some (.frz od4 (.lst (dn.map V.int))):=by rw [← hH4l]; exact ae
   have cl4l:Cl CC K sb H4l ac dxc q r:=by rw [← hH4l]; exact cl4.put nac nq
   have fo4l:FO CFd CK (but pt H4l) fa c:=by rw [← hH4l,cb]; exact fo4
   obtain ⟨ns4,k4,oc4,sc4,_⟩:=id cl4l;refine ⟨_,rfl,ac,dxc,_,rfl,oc4,xc UZ,_,rfl,aS,vS,Sum.inl p,.ref tS1,.ref tS1,rfl,rfl,dS,vt,rfl,ac,dxc,q,tS1,kk,r.take n,r.drop n,rows,t,rfl,by rw [List.take_append_drop]; exact cl4l,by rw [htk]; exact qt H4l,hrows,by omega,by omega,fun H5l g ps cl5l hg5l hr5l fg5 u5=>?_⟩;have hp5l:=u5 _ _ hp4l (Ne.symm nac);have fo5:FO CFd CK (but pt H5l) fa c:=fo4l.cR (aR nac oc4) nfc (by show 2<6; decide) (dw u5);have ngp:g≠pt:=aW hg5l hp5l (by intro z; cases z);have hr5:=ck.rM hp5l hr5l;refine ⟨hp5l,?_⟩;generalize hH5:upd H5l pt (.lst (dn.map V.int))=H5;have hp5:H5 pt=some (.lst (dn.map V.int)):=by rw [← hH5]; exact ae
   have eb5:but pt H5=but pt H5l:=by rw [← hH5,cb]
   have cl5:Cl CC K sb H5 ac dxc q t:=by rw [← hH5]; exact cl5l.put nac nq
   refine ⟨_,rfl,aA,vA,Sum.inl p,.ref fa1,.ref fa1,rfl,rfl,dA,va,rfl,?_⟩;refine ⟨_,rfl,.inl ⟨rfl,_,SqL.of hp5⟩,?_⟩;refine ⟨pt,_,hp5,True.intro,fun od=>?_⟩;generalize hH6:upd H5 pt (.frz od (.lst (dn.map V.int)))=H6;have hp6:H6 pt=some (.frz od (.lst (dn.map V.int))):=by rw [← hH6]; exact ae
   have s56:aj (but pt H5l) H6:=fun b o e=>by
    rw [← eb5] at e;obtain ⟨n1,e⟩:=cC e;rw [← hH6,aq n1];exact e
   have fo6:=fo5.same s56;have cl6:Cl CC K sb H6 ac dxc q t:=by rw [← hH6]; exact cl5.put nac nq
   have hof:=fo6;obtain ⟨⟨dxf6,ca6,ptx6,of6,_,_⟩,_,_⟩:=hof;refine ⟨CX0,ka,fa1,fda1,["field","given"],cW CFd CK (Gp p),E0,rfl,kpa,gA,hr.mono (by omega),bA,aE,_,rfl,_,rfl,fa,g,c,r.take n,ps,rows,d,rfl,fo6,s56 _ _ (aR ngp hg5l),hr5.mono s56,hG,fun x hx=>by have:=rc3 x hx; omega,fun H7 pl fo7 hp7 u7=>?_⟩;have hp7t:=u7 _ _ hp6 (Ne.symm nfa);have npl:pl≠pt:=aW hp7 hp7t (by intro z; cases z);have cl7:Cl CC K sb H7 ac dxc q t:=cl6.cR of6 (Ne.symm nfc) u7;have fo7b:=fo7.rM hp7t;refine ⟨hp7t,?_⟩;have hl7:((act c d).2.map V.int).length=(act c d).2.length:=length_map ..;refine ⟨pl,_,rfl,by rw [aq npl]; exact hp7,by rw [hl7,sizeLine_eq]; omega,fun H9 p9 s9 f9 hp9=>?_⟩;have hp9t:=s9 _ _ (show (upd H7 pt (.lst (dn.map V.int))) pt=some (.lst (dn.map V.int)) from ae);have cl9:Cl CC K sb H9 ac dxc q t:=(cl7.put nac nq).same s9;have fo9:FO CFd CK (but pt H9) fa (act c d).1:=by
    refine FO.same ?_ (cD s9);rw [cb];exact fo7b
   refine ⟨pt,p9,_,_,rfl,rfl,hp9t,hp9,by rw [length_map,length_cons,hl7,sizeLine_eq]; omega,?_⟩;refine ⟨t.length,by rw [length_cons]; omega,t,f2,cs',(act c d).1,dn++(((act c d).2.length:Int)::(act c d).2),_,_,_,rfl,rfl,by omega,hcs',hins.2,cl9.put nac nq,by rw [cb]; exact fo9,?_,hans4⟩;rw [ae,hl7,map_append];rfl
end
def FnE(K:PySem.W.Frag)(x qual:Str)(st:Stmt)(f:Addr):Prop:=∃ fd,Fun K x qual st f fd
theorem fnE{K:PySem.W.Frag}{x qual:Str}{st:Stmt}{f:Addr}{oc:Value}{od an:Option Addr}{osl:Array (Option Value)}{kV doc pm cdv ct:Value}(l:K.lookup f=some ⟨oc,od,.func (fnOf x qual (gq st) (du st) (ao st) .none kV doc pm an cdv ct),osl⟩)
  (c:codeIn K cdv qual=true) (k:keepIn K (.ref f)=true):FnE K x qual st f:=⟨_,OB l c k⟩
def FnA(K:PySem.W.Frag)(x:Str)(st:Stmt):Prop:=∃ f,nsIn K mainGlobals x=some (some (.ref f))∧FnE K x x st f
theorem fnA{K:PySem.W.Frag}{x:Str}{st:Stmt}{f:Addr}{oc:Value}{od an:Option Addr}{osl:Array (Option Value)}{kV doc pm cdv ct:Value}(a:nsIn K mainGlobals x=some (some (.ref f)))(l:K.lookup f=some ⟨oc,od,.func (fnOf x x (gq st) (du st) (ao st) .none kV doc pm an cdv ct),osl⟩)
  (c:codeIn K cdv x=true) (k:keepIn K (.ref f)=true):FnA K x st:=⟨f,a,fnE l c k⟩
def MeA(K:PySem.W.Frag)(C:Addr)(m qual:Str)(st:Stmt):Prop:=∃ f,Meth K C m f∧FnE K m qual st f
theorem meA{K:PySem.W.Frag}{C:Addr}{m qual:Str}{st:Stmt}{f:Addr}{oc:Value}{od an:Option Addr}{osl:Array (Option Value)}{kV doc pm cdv ct:Value}(a:findIn K (.ref C) m=some (some (.ref f)))(i:isFn K (.ref f)=true)(l:K.lookup f=some ⟨oc,od,.func (fnOf m qual (gq st) (du st) (ao st) .none kV doc pm an cdv ct),osl⟩)
  (c:codeIn K cdv qual=true) (k:keepIn K (.ref f)=true):MeA K C m qual st:=⟨f,⟨a,i,k⟩,fnE l c k⟩
structure CtA(K:PySem.W.Frag)(x:Str)(n:Int):Prop where
 ex:∃ t,nsIn K mainGlobals x=some (some (.int n t))
theorem ctA{K:PySem.W.Frag}{x:Str}{n:Int}{t:Tok}(h:nsIn K mainGlobals x=some (some (.int n t))):CtA K x n:=⟨t,h⟩
abbrev NoA(K:PySem.W.Frag)(x:Str):Prop:=nsIn K mainGlobals x=some none
def CT(rows:List (Int×Tok×Value)):List DictEntry:=rows.map fun x=>⟨x.1,.int x.1 x.2.1,x.2.2⟩
def kvsOf(rows:List (Int×Tok×Value)):List (Key×Value):=rows.map fun x=>(Sum.inl x.1,x.2.2)
theorem AU{P:Program}{w:World}:∀ rows:List (Int×Tok×Value),Pairs (cH P w) (CT rows) (kvsOf rows)
 | []=>.nil
 | x::r=>.cons (pV x.1 x.2.1) rfl (AU r)
theorem uz{P:Program}{w:World}{K:PySem.W.Frag}{a:Addr}{rows:List (Int×Tok×Value)}{ep:Nat}(hh:∀ i∈rows.map (·.1),i=hashInt i)(nd:(rows.map (fun x=>(Sum.inl x.1:Key))).Nodup)(l:K.lookup a=some ⟨.type "dict",none,.dict (CT rows).toArray ep,#[]⟩):tf P w K a (kvsOf rows):=fun h X=>by
 refine ⟨_,_,_,X _ _ l,⟨rfl,rfl,rfl⟩,rfl,fun e he=>?_,by simpa using AU rows,by unfold kvsOf; rw [map_map]; exact nd⟩;have he:e∈CT rows:=by simpa using he
 obtain ⟨x,hx,ex⟩:=mem_map.mp he;rw [← ex];exact ⟨Sum.inl x.1,pV x.1 x.2.1,hh x.1 (mem_map.mpr ⟨x,hx,rfl⟩)⟩
theorem PH{K:PySem.W.Frag}{a:Addr}{n k:Int}{t u:Tok}{od:Option Addr}{sl:Array (Option Value)}{m:Nat}(l:K.lookup a=some ⟨.type "tuple",od,.seq #[.int n t,.int k u] m,sl⟩):∀ H:Hp,SqT K H a [.int n,.int k]:=fun H=>
 .inr ⟨_,_,_,l,rfl,rfl,by show 2≤sizeLine; decide,.cons ⟨t,rfl⟩ (.cons ⟨u,rfl⟩ .nil)⟩
theorem cv{K:PySem.W.Frag}{h:Heap}{mg:Str→Option Value}{x:Str}{n:Int}(X:K.In h)(G:h.Ns mainGlobals mg)(c:CtA K x n):GI mg x n:=let ⟨t,e⟩:=c.ex; ⟨t,mg_of X G e⟩
section
variable {K:PySem.W.Frag}{x qual:Str}{st:Stmt}{f:Addr}{fd:FuncData}{p q r p1 q1 r1:Str}
abbrev BdA(x qual:Str)(st:Stmt)(us:List Value)(b:List (Str×Value)):Prop:=∀ (kV doc pm:Value) (an:Option Addr) (cdv ct:Value),bindArgs (fnOf x qual (gq st) (du st) (ao st) .none kV doc pm an cdv ct) ⟨us,[]⟩=pure b
theorem len_cons{us:List Value}{n:Nat}(h:us.length=n+1):∃ u r,us=u::r∧r.length=n:=by
 cases us with
 | nil=>cases h
 | cons u r=>exact ⟨u,r,rfl,Nat.succ.inj h⟩
theorem bd1(F:Fun K x qual st f fd)(h:∀ u,BdA x qual st [u] [(p,u)]):Binds K fd [p] []:=F.binds fun a b c d e g us hl=>by
 obtain ⟨u,t,rfl,h1⟩:=len_cons hl;cases List.eq_nil_of_length_eq_zero h1;exact h u a b c d e g
theorem bd2(F:Fun K x qual st f fd)(h:∀ u v,BdA x qual st [u,v] [(p,u),(q,v)]):Binds K fd [p,q] []:=F.binds fun a b c d e g us hl=>by
 obtain ⟨u,t,rfl,h1⟩:=len_cons hl;obtain ⟨v,t,rfl,h2⟩:=len_cons h1;cases List.eq_nil_of_length_eq_zero h2;exact h u v a b c d e g
theorem bd3(F:Fun K x qual st f fd)(h:∀ u v y,BdA x qual st [u,v,y] [(p,u),(q,v),(r,y)]):Binds K fd [p,q,r] []:=F.binds fun a b c d e g us hl=>by
 obtain ⟨u,t,rfl,h1⟩:=len_cons hl;obtain ⟨v,t,rfl,h2⟩:=len_cons h1;obtain ⟨y,t,rfl,h3⟩:=len_cons h2;cases List.eq_nil_of_length_eq_zero h3;exact h u v y a b c d e g
theorem bd4(F:Fun K x qual st f fd)(h:∀ u v y z,BdA x qual st [u,v,y,z] [(p,u),(q,v),(r,y),(p1,z)]):Binds K fd [p,q,r,p1] []:=F.binds fun a b c d e g us hl=>by
 obtain ⟨u,t,rfl,h1⟩:=len_cons hl;obtain ⟨v,t,rfl,h2⟩:=len_cons h1;obtain ⟨y,t,rfl,h3⟩:=len_cons h2;obtain ⟨z,t,rfl,h4⟩:=len_cons h3;cases List.eq_nil_of_length_eq_zero h4;exact h u v y z a b c d e g
theorem bd6(F:Fun K x qual st f fd)(h:∀ u v y z i j,BdA x qual st [u,v,y,z,i,j] [(p,u),(q,v),(r,y),(p1,z),(q1,i),(r1,j)]):Binds K fd [p,q,r,p1,q1,r1] []:=F.binds fun a b c d e g us hl=>by
 obtain ⟨u,t,rfl,h1⟩:=len_cons hl;obtain ⟨v,t,rfl,h2⟩:=len_cons h1;obtain ⟨y,t,rfl,h3⟩:=len_cons h2;obtain ⟨z,t,rfl,h4⟩:=len_cons h3;obtain ⟨i,t,rfl,h5⟩:=len_cons h4;obtain ⟨j,t,rfl,h6⟩:=len_cons h5;cases List.eq_nil_of_length_eq_zero h6;exact h u v y z i j a b c d e g
end
theorem all_mk{P:Program}{w:World}{K:PySem.W.Frag}{h:Heap}{mg:Str→Option Value}{fa dA dS CR CK CW CP CFd CC CF CN g0 g1 g2 g3 g4 g5 g6 g7 g8 g9 g10 g11 g12 g13 g14 g15 g16 g17 g18 h0 h1 h2 h3 h4 h5 h6 h7 h8 h9 h10 h11 h12 h13 h14 h15 h16 h17 h18:Addr}{epA epS:Nat}{VO VP VQ tS1 VR VS VT VU VW VX VY VZ V0 V1 V2 V3 V4 V5 V6 V7 Sn So Sq Sr Ss Su Sv Sw Sx Sy Sz SA SD SE SG SH SI SJ:Tok}(X:K.In h)(G:h.Ns mainGlobals mg)(hfa:mg "answers"=some (.ref fa))
  (Ki:nsIn K mainGlobals "Reader"=some (some (.ref CR)))
  (Kj:nsIn K mainGlobals "Code"=some (some (.ref CK)))
  (Kk:nsIn K mainGlobals "Walk"=some (some (.ref CW)))
  (Kl:nsIn K mainGlobals "Parting"=some (some (.ref CP)))
  (CU:nsIn K mainGlobals "Field"=some (some (.ref CFd)))
  (Km:nsIn K mainGlobals "Calls"=some (some (.ref CC)))
  (Kn:nsIn K mainGlobals "Fault"=some (some (.ref CF)))
  (Ko:nsIn K mainGlobals "NotATree"=some (some (.ref CN)))
  (Kp:Cls K CR)
  (Kq:makesIn K CR=true)
  (Kr:keepIn K (.ref CR)=true)
  (Ks:Cls K CK)
  (Kt:makesIn K CK=true)
  (Ku:keepIn K (.ref CK)=true)
  (Kv:Cls K CW)
  (Kw:makesIn K CW=true)
  (Kx:keepIn K (.ref CW)=true)
  (Ky:Cls K CP)
  (Kz:makesIn K CP=true)
  (KA:keepIn K (.ref CP)=true)
  (CV:Cls K CFd)
  (CY:makesIn K CFd=true)
  (CZ:keepIn K (.ref CFd)=true)
  (KC:Cls K CC)
  (KD:makesIn K CC=true)
  (KG:keepIn K (.ref CC)=true)
  (KH:vq K CF)
  (KI:hasDictIn K CF=true)
  (KJ:findIn K (.ref CF) "__setattr__"=some (some (.builtin "object.__setattr__")))
  (KL:keepIn K (.ref CF)=true)
  (KN:vq K CN)
  (KO:hasDictIn K CN=true)
  (KP:findIn K (.ref CN) "__setattr__"=some (some (.builtin "object.__setattr__")))
  (KQ:keepIn K (.ref CN)=true)
  (KR:findIn K (.ref CF) "__getattribute__"=some (some (.builtin "BaseException.__getattribute__")))
  (KS:findIn K (.ref CF) "__getattr__"=some none)
  (j6:aP K CR "words")
  (jd:aP K CR "length")
  (je:aP K CR "passed")
  (mY:aP K CK "text")
  (j7:aP K CK "holes")
  (mZ:aP K CK "kind")
  (j8:aP K CK "names")
  (ie:aP K CK "notches")
  (dN:aP K CK "by_notches")
  (m4:aP K CW "code")
  (jf:aP K CW "wanted")
  (j9:aP K CW "ahead")
  (kb:aP K CW "parts")
  (d8:aP K CW "needlings")
  (kc:aP K CW "depth")
  (jg:aP K CP "shares")
  (d9:aP K CP "unneedled")
  (m6:aP K CP "left")
  (ke:aP K CFd "code")
  (ig:aP K CC "numbers")
  (kg:aP K CC "taken")
  (kh:aP K CF "place")
  (m7:MeA K CR "__init__" "Reader.__init__" IE)
  (ki:MeA K CR "ended" "Reader.ended" tU)
  (m8:MeA K CR "here" "Reader.here" IF)
  (m9:MeA K CR "word" "Reader.word" IG)
  (ng:MeA K CR "sees" "Reader.sees" IH)
  (nh:MeA K CR "skip" "Reader.skip" II)
  (ee:MeA K CR "take_name" "Reader.take_name" IJ)
  (df:MeA K CR "take_decimal" "Reader.take_decimal" OP)
  (ni:MeA K CK "__init__" "Code.__init__" mKI)
  (nj:MeA K CW "__init__" "Walk.__init__" mWI)
  (ny:MeA K CW "over" "Walk.over" mWO)
  (ij:MeA K CW "come_to" "Walk.come_to" mWC)
  (jh:MeA K CW "needle" "Walk.needle" mWN)
  (nz:MeA K CP "__init__" "Parting.__init__" mPI)
  (ji:MeA K CP "stayed" "Parting.stayed" mPS)
  (jj:MeA K CP "fallen" "Parting.fallen" mPF)
  (kj:MeA K CP "alike" "Parting.alike" mPA)
  (kl:MeA K CFd "__init__" "Field.__init__" Pq)
  (nE:MeA K CC "__init__" "Calls.__init__" mCI)
  (nF:MeA K CC "done" "Calls.done" mCD)
  (dC:MeA K CC "take_number" "Calls.take_number" mCN)
  (eu:MeA K CC "take_list" "Calls.take_list" mCL)
  (dO:MeA K CC "take_given" "Calls.take_given" mCG)
  (nG:MeA K CF "__init__" "Fault.__init__" mFI)
  (nI:MeA K CN "__init__" "NotATree.__init__" mNI)
  (uA:CtA K "BLANK" 32)
  (km:CtA K "LINE_END" 10)
  (yP:CtA K "ZERO" 48)
  (yQ:CtA K "NINE" 57)
  (eA:CtA K "FIRST_LETTER" 97)
  (fu:CtA K "LAST_LETTER" 122)
  (eB:CtA K "MOST_LETTERS" 12)
  (fz:CtA K "MOST_DIGITS" 4)
  (ik:CtA K "MOST_HOLES" 8)
  (fC:CtA K "MOST_VALUES" 70)
  (fF:CtA K "MOST_WEIGHT" 1000)
  (fJ:CtA K "VALUES_TOLD" 0)
  (il:CtA K "BY_WEIGHTS" 1)
  (jk:CtA K "BY_CHOICE" 2)
  (KU:CtA K "NO" 0)
  (C0:CtA K "YES" 1)
  (kn:CtA K "NEEDLING" 2)
  (jl:CtA K "NONE_LEFT" 0)
  (fP:CtA K "WANTED_LEFT" 1)
  (fQ:CtA K "OTHERS_LEFT" 2)
  (jm:CtA K "BOTH_LEFT" 3)
  (ip:CtA K "MOST_BYTES" 2000)
  (cK:CtA K "MOST_HOLES_LABELLED" 5)
  (cQ:CtA K "MOST_HOLES_COUNTED" 60)
  (jo:CtA K "NOT_BYTES" (-1))
  (nJ:CtA K "NO_TREE" (-2))
  (fR:CtA K "NOT_COUNTED" (-2))
  (iq:CtA K "NOT_RISING" (-4))
  (ko:CtA K "NO_VALUE" (-5))
  (eC:CtA K "NOT_LABELLED" (-7))
  (uC:CtA K "FAULT" (-1000))
  (KW:∃ t,nsIn K mainGlobals "FIRST_TEXT"=some (some (.str mV t)))
  (Dc:NoA K "ord")
  (Dd:NoA K "len")
  (jq:NoA K "enumerate")
  (De:NoA K "all")
  (uD:NoA K "range")
  (Df:NoA K "str")
  (Dg:NoA K "sum")
  (Dh:NoA K "min")
  (Di:NoA K "max")
  (yR:NoA K "list")
  (ir:NoA K "ValueError")
  (aA:nsIn K mainGlobals "ANSWERS"=some (some (.ref dA)))
  (lA:K.lookup dA=some ⟨.type "dict",none,.dict #[⟨0,.int 0 VO,.ref g0⟩,⟨1,.int 1 VQ,.ref g1⟩,⟨2,.int 2 VR,.ref g2⟩,⟨3,.int 3 VT,.ref g3⟩,⟨4,.int 4 VW,.ref g4⟩,⟨5,.int 5 VY,.ref g5⟩,⟨6,.int 6 V0,.ref g6⟩,⟨7,.int 7 V2,.ref g7⟩,⟨8,.int 8 V4,.ref g8⟩,⟨9,.int 9 V6,.ref g9⟩,⟨10,.int 10 Sn,.ref g10⟩,⟨11,.int 11 Sq,.ref g11⟩,⟨12,.int 12 Ss,.ref g12⟩,⟨13,.int 13 Sv,.ref g13⟩,⟨14,.int 14 Sx,.ref g14⟩,⟨15,.int 15 Sz,.ref g15⟩,⟨16,.int 16 SD,.ref g16⟩,⟨17,.int 17 SG,.ref g17⟩,⟨18,.int 18 SI,.ref g18⟩] epA,#[]⟩)
  (aS:nsIn K mainGlobals "SHAPES"=some (some (.ref dS)))
  (lS:K.lookup dS=some ⟨.type "dict",none,.dict #[⟨0,.int 0 VP,.ref h0⟩,⟨1,.int 1 tS1,.ref h1⟩,⟨2,.int 2 VS,.ref h2⟩,⟨3,.int 3 VU,.ref h3⟩,⟨4,.int 4 VX,.ref h4⟩,⟨5,.int 5 VZ,.ref h5⟩,⟨6,.int 6 V1,.ref h6⟩,⟨7,.int 7 V3,.ref h7⟩,⟨8,.int 8 V5,.ref h8⟩,⟨9,.int 9 V7,.ref h9⟩,⟨10,.int 10 So,.ref h10⟩,⟨11,.int 11 Sr,.ref h11⟩,⟨12,.int 12 Su,.ref h12⟩,⟨13,.int 13 Sw,.ref h13⟩,⟨14,.int 14 Sy,.ref h14⟩,⟨15,.int 15 SA,.ref h15⟩,⟨16,.int 16 SE,.ref h16⟩,⟨17,.int 17 SH,.ref h17⟩,⟨18,.int 18 SJ,.ref h18⟩] epS,#[]⟩)
  (U0:∀ H:Hp,SqT K H h0 [.int 0,.int 1])
  (U1:∀ H:Hp,SqT K H h1 [.int 0,.int 0])
  (U2:∀ H:Hp,SqT K H h2 [.int 1,.int 0])
  (U3:∀ H:Hp,SqT K H h3 [.int 0,.int 1])
  (U4:∀ H:Hp,SqT K H h4 [.int 1,.int 0])
  (U5:∀ H:Hp,SqT K H h5 [.int 0,.int 1])
  (U6:∀ H:Hp,SqT K H h6 [.int 0,.int 1])
  (U7:∀ H:Hp,SqT K H h7 [.int 0,.int 0])
  (U8:∀ H:Hp,SqT K H h8 [.int 0,.int 0])
  (U9:∀ H:Hp,SqT K H h9 [.int 0,.int 0])
  (PJ:∀ H:Hp,SqT K H h10 [.int 0,.int 1])
  (PL:∀ H:Hp,SqT K H h11 [.int 0,.int 1])
  (PM:∀ H:Hp,SqT K H h12 [.int 0,.int 1])
  (PN:∀ H:Hp,SqT K H h13 [.int 0,.int 2])
  (PQ:∀ H:Hp,SqT K H h14 [.int 0,.int 1])
  (PR:∀ H:Hp,SqT K H h15 [.int 0,.int 2])
  (PU:∀ H:Hp,SqT K H h16 [.int 1,.int 0])
  (PV:∀ H:Hp,SqT K H h17 [.int 2,.int 0])
  (PX:∀ H:Hp,SqT K H h18 [.int 0,.int 0])
  (Va:FnE K "answer_code" "answer_code" JN g0)
  (fa1:FnE K "answer_text" "answer_text" JC g1)
  (Vb:FnE K "answer_marks" "answer_marks" CG g2)
  (Vc:FnE K "answer_value" "answer_value" CH g3)
  (Vd:FnE K "answer_name" "answer_name" JD g4)
  (Ve:FnE K "answer_find" "answer_find" JO g5)
  (Vf:FnE K "answer_falls" "answer_falls" yL g6)
  (Vg:FnE K "answer_clean" "answer_clean" CI g7)
  (Vh:FnE K "answer_nearest" "answer_nearest" JX g8)
  (Vi:FnE K "answer_slips" "answer_slips" CJ g9)
  (PY:FnE K "answer_fewest" "answer_fewest" yM g10)
  (PZ:FnE K "answer_tree" "answer_tree" J9 g11)
  (P0:FnE K "answer_depth" "answer_depth" CL g12)
  (P8:FnE K "answer_check" "answer_check" CM g13)
  (P9:FnE K "answer_labels" "answer_labels" yN g14)
  (Qa:FnE K "answer_accept" "answer_accept" yO g15)
  (Qb:FnE K "answer_most" "answer_most" JE g16)
  (Qc:FnE K "answer_range" "answer_range" CO g17)
  (Qe:FnE K "answer_counts" "answer_counts" yJ g18)
  (kr:FnA K "bytes_of" jV)
  (ku:FnA K "words_of" pj)
  (nM:FnA K "is_name" pk)
  (iu:FnA K "is_decimal" fe)
  (jr:FnA K "number_of" lE)
  (kx:FnA K "notch_at" jW)
  (iw:FnA K "notches_of" mI)
  (kz:FnA K "marks_of" pz)
  (nO:FnA K "weighed" t7)
  (fU:FnA K "all_weighed" j3)
  (uE:FnA K "grown" Co)
  (iy:FnA K "all_chosen" i8)
  (eE:FnA K "read_weights" i7)
  (iz:FnA K "read_marks" mJ)
  (iA:FnA K "read_value" mM)
  (fX:FnA K "read_values" jZ)
  (kD:FnA K "numbered" lH)
  (js:FnA K "read_code" iQ)
  (qw:FnA K "walked" yI)
  (jt:FnA K "shares_of" yD)
  (dP:FnA K "all_unneedled" Mn)
  (kE:FnA K "all_left" E5)
  (cT:FnA K "least_by_needling" Ms)
  (fY:FnA K "least_table" dLT)
  (uF:FnA K "added" CD)
  (qx:FnA K "deeper" yG)
  (cY:FnA K "fewest_needlings" dFN)
  (eF:FnA K "least_depths" dLD)
  (dD:FnA K "first_hole_met" dFH)
  (ju:FnA K "tree_told" dTT)
  (eG:FnA K "all_accepted" dAA)
  (nR:FnA K "is_text" su)
  (uG:FnA K "rises" Cw)
  (nV:FnA K "counted" uj)
  (jv:FnA K "has_value" Pr)
  (iB:FnA K "are_values" Pt)
  (kJ:FnA K "how_many" Pz)
  (nX:FnA K "answers" uw) :
  ∃ fd:FuncData,(∀ (s:Shared) (us:List Value),us.length=(["calls"]:List Str).length→BindsTo s fd ⟨us,[]⟩ ((["calls"]:List Str).zip us))∧∀ base:Heap,K.In base→base.Ns mainGlobals mg→aF P w K mg base CX0 11 fa fd ["calls"] (lO K):=by
 have NI:mg "ord"=none:=mg_none_of X G Dc;have dE:mg "len"=none:=mg_none_of X G Dd;have dZ:mg "enumerate"=none:=mg_none_of X G jq;have NJ:mg "all"=none:=mg_none_of X G De;have gY:mg "range"=none:=mg_none_of X G uD;have SK:mg "str"=none:=mg_none_of X G Df;have SM:mg "sum"=none:=mg_none_of X G Dg;have SN:mg "min"=none:=mg_none_of X G Dh;have NK:mg "max"=none:=mg_none_of X G Di;have KY:mg "list"=none:=mg_none_of X G yR;have pP:mg "ValueError"=none:=mg_none_of X G ir;have MK:=cv X G uA;have Dj:=cv X G km;have Qg:=cv X G yP;have Qh:=cv X G yQ;have uI:=cv X G eA;have vE:=cv X G fu;have uJ:=cv X G eB;have vF:=cv X G fz;have yS:=cv X G ik;have ma:=cv X G fC;have vG:=cv X G fF;have vH:=cv X G fJ;have yT:=cv X G il;have AV:=cv X G jk;have Vj:=cv X G KU;have SO:=cv X G C0;have Dk:=cv X G kn;have AW:=cv X G jl;have vI:=cv X G fP;have vJ:=cv X G fQ;have AX:=cv X G jm;have yU:=cv X G ip;have jG:=cv X G cK;have kK:=cv X G cQ;have AY:=cv X G jo;have GZ:=cv X G nJ;have vK:=cv X G fR;have yV:=cv X G iq;have Dl:=cv X G ko;have uK:=cv X G eC;have ML:=cv X G uC;have Vk:∃ t,mg "FIRST_TEXT"=some (.str mV t):=let ⟨t,e⟩:=KW; ⟨t,mg_of X G e⟩;obtain ⟨Dm,Dq,AZ,fZ⟩:=kr;have nY:=mg_of X G Dq;have nZ:=bd1 fZ fun _ _ _ _ _ _ _=>rfl;obtain ⟨Qi,Dr,NL,uL⟩:=ku;have Ds:=mg_of X G Dr;have Dt:=bd1 uL fun _ _ _ _ _ _ _=>rfl;obtain ⟨QL,G0,Qj,xl⟩:=nM;have G1:=mg_of X G G0;have G2:=bd1 xl fun _ _ _ _ _ _ _=>rfl;obtain ⟨MM,yW,K9,pQ⟩:=iu;have yX:=mg_of X G yW;have yY:=bd1 pQ fun _ _ _ _ _ _ _=>rfl;obtain ⟨NM,A0,MN,rj⟩:=jr;have Ba:=mg_of X G A0;have Bb:=bd1 rj fun _ _ _ _ _ _ _=>rfl;obtain ⟨Qk,Du,NN,f6⟩:=kx;have n4:=mg_of X G Du;have n8:=bd1 f6 fun _ _ _ _ _ _ _=>rfl;obtain ⟨yZ,y4,vL,cU⟩:=iw;have eO:=mg_of X G y4;have eP:=bd1 cU fun _ _ _ _ _ _ _=>rfl;obtain ⟨Ql,Dv,NO,n9⟩:=kz;have Dx:=mg_of X G Dv;have Dy:=bd2 n9 fun _ _ _ _ _ _ _ _=>rfl;obtain ⟨G3,G4,Dz,qy⟩:=nO;have G5:=mg_of X G G4;have G6:=bd2 qy fun _ _ _ _ _ _ _ _=>rfl;obtain ⟨vM,vN,uM,iC⟩:=fU;have vO:=mg_of X G vN;have vP:=bd1 iC fun _ _ _ _ _ _ _=>rfl;obtain ⟨MO,MP,KZ,y6⟩:=uE;have MQ:=mg_of X G MP;have MR:=bd2 y6 fun _ _ _ _ _ _ _ _=>rfl;obtain ⟨y8,y9,vQ,jw⟩:=iy;have za:=mg_of X G y9;have zb:=bd2 jw fun _ _ _ _ _ _ _ _=>rfl;obtain ⟨uN,uO,rN,f7⟩:=eE;have uP:=mg_of X G uO;have uQ:=bd2 f7 fun _ _ _ _ _ _ _ _=>rfl;obtain ⟨zc,zd,vR,jx⟩:=iz;have ze:=mg_of X G zd;have zf:=bd2 jx fun _ _ _ _ _ _ _ _=>rfl;obtain ⟨zg,zh,vT,jy⟩:=iA;have zi:=mg_of X G zh;have zj:=bd4 jy fun _ _ _ _ _ _ _ _ _ _=>rfl;obtain ⟨vU,vV,uR,iD⟩:=fX;have vW:=mg_of X G vV;have vX:=bd4 iD fun _ _ _ _ _ _ _ _ _ _=>rfl;obtain ⟨DE,DG,Bc,oa⟩:=kD;have DJ:=mg_of X G DG;have DO:=bd1 oa fun _ _ _ _ _ _ _=>rfl;obtain ⟨NP,Bd,MS,kP⟩:=js;have Be:=mg_of X G Bd;have Bf:=bd1 kP fun _ _ _ _ _ _ _=>rfl;obtain ⟨SQ,K0,QM,uS⟩:=qw;have K1:=mg_of X G K0;have K2:=bd3 uS fun _ _ _ _ _ _ _ _ _=>rfl;obtain ⟨NQ,Bg,MT,kQ⟩:=jt;have Bh:=mg_of X G Bg;have Bi:=bd1 kQ fun _ _ _ _ _ _ _=>rfl;obtain ⟨Hw,rO,G7,eI⟩:=dP;have rP:=mg_of X G rO;have rQ:=bd1 eI fun _ _ _ _ _ _ _=>rfl;obtain ⟨Qm,DQ,NR,oe⟩:=kE;have DX:=mg_of X G DQ;have DY:=bd4 oe fun _ _ _ _ _ _ _ _ _ _=>rfl;obtain ⟨Bv,lT,Bj,cZ⟩:=cT;have lU:=mg_of X G lT;have lV:=bd4 cZ fun _ _ _ _ _ _ _ _ _ _=>rfl;obtain ⟨La,vY,K3,iE⟩:=fY;have vZ:=mg_of X G vY;have wb:=bd2 iE fun _ _ _ _ _ _ _ _=>rfl;obtain ⟨Tz,MU,SR,zk⟩:=uF;have MV:=mg_of X G MU;have MW:=bd2 zk fun _ _ _ _ _ _ _ _=>rfl;obtain ⟨SS,K4,QN,uT⟩:=qx;have K5:=mg_of X G K4;have K6:=bd2 uT fun _ _ _ _ _ _ _ _=>rfl;obtain ⟨DZ,og,Bw,dh⟩:=cY;have oh:=mg_of X G og;have oj:=bd1 dh fun _ _ _ _ _ _ _=>rfl;obtain ⟨K7,uU,Hx,gb⟩:=eF;have uV:=mg_of X G uU;have uW:=bd1 gb fun _ _ _ _ _ _ _=>rfl;obtain ⟨G8,qz,Fx,dQ⟩:=dD;have qA:=mg_of X G qz;have qB:=bd3 dQ fun _ _ _ _ _ _ _ _ _=>rfl;obtain ⟨NS,Bk,MX,kY⟩:=ju;have Bl:=mg_of X G Bk;have Bm:=bd1 kY fun _ _ _ _ _ _ _=>rfl;obtain ⟨K8,uX,Hy,gf⟩:=eG;have uY:=mg_of X G uX;have uZ:=bd2 gf fun _ _ _ _ _ _ _ _=>rfl;obtain ⟨QO,G9,Qn,qC⟩:=nR;have Hc:=mg_of X G G9;have Hd:=bd1 qC fun _ _ _ _ _ _ _=>rfl;obtain ⟨TB,MY,SU,zl⟩:=uG;have MZ:=mg_of X G MY;have M0:=bd3 zl fun _ _ _ _ _ _ _ _ _=>rfl;obtain ⟨QP,He,Qo,qD⟩:=nV;have Hf:=mg_of X G He;have Hg:=bd1 qD fun _ _ _ _ _ _ _=>rfl;obtain ⟨NT,Bn,Na,kZ⟩:=jv;have Bo:=mg_of X G Bn;have Bp:=bd2 kZ fun _ _ _ _ _ _ _ _=>rfl;obtain ⟨Nb,zm,Lb,jz⟩:=iB;have zo:=mg_of X G zm;have zp:=bd2 jz fun _ _ _ _ _ _ _ _=>rfl;obtain ⟨Qp,D0,NU,om⟩:=kJ;have D3:=mg_of X G D0;have D4:=bd1 om fun _ _ _ _ _ _ _=>rfl;obtain ⟨QQ,Hh,vb,xn⟩:=nX;have Hi:=mg_of X G Hh;obtain ⟨Vl,Vm⟩:=Va;have V9:=bd2 Vm fun _ _ _ _ _ _ _ _=>rfl;obtain ⟨fda1,Vn⟩:=fa1;have Wa:=bd2 Vn fun _ _ _ _ _ _ _ _=>rfl;obtain ⟨Vo,Vp⟩:=Vb;have Wb:=bd2 Vp fun _ _ _ _ _ _ _ _=>rfl;obtain ⟨Vq,Vr⟩:=Vc;have Wc:=bd2 Vr fun _ _ _ _ _ _ _ _=>rfl;obtain ⟨Vs,Vt⟩:=Vd;have Wd:=bd2 Vt fun _ _ _ _ _ _ _ _=>rfl;obtain ⟨Vu,Vv⟩:=Ve;have We:=bd2 Vv fun _ _ _ _ _ _ _ _=>rfl;obtain ⟨Vw,Vx⟩:=Vf;have Wf:=bd2 Vx fun _ _ _ _ _ _ _ _=>rfl;obtain ⟨Vy,Vz⟩:=Vg;have Wg:=bd2 Vz fun _ _ _ _ _ _ _ _=>rfl;obtain ⟨VA,VB⟩:=Vh;have Wh:=bd2 VB fun _ _ _ _ _ _ _ _=>rfl;obtain ⟨VC,VD⟩:=Vi;have Wi:=bd2 VD fun _ _ _ _ _ _ _ _=>rfl;obtain ⟨SV,Qq⟩:=PY;have VE:=bd2 Qq fun _ _ _ _ _ _ _ _=>rfl;obtain ⟨SW,Qr⟩:=PZ;have VF:=bd2 Qr fun _ _ _ _ _ _ _ _=>rfl;obtain ⟨SX,Qs⟩:=P0;have VG:=bd2 Qs fun _ _ _ _ _ _ _ _=>rfl;obtain ⟨SY,Qt⟩:=P8;have VH:=bd2 Qt fun _ _ _ _ _ _ _ _=>rfl;obtain ⟨Tc,Qu⟩:=P9;have VI:=bd2 Qu fun _ _ _ _ _ _ _ _=>rfl;obtain ⟨Td,Qw⟩:=Qa;have VJ:=bd2 Qw fun _ _ _ _ _ _ _ _=>rfl;obtain ⟨Te,Qx⟩:=Qb;have VL:=bd2 Qx fun _ _ _ _ _ _ _ _=>rfl;obtain ⟨Tf,Qy⟩:=Qc;have VM:=bd2 Qy fun _ _ _ _ _ _ _ _=>rfl;obtain ⟨Tg,Qz⟩:=Qe;have VN:=bd2 Qz fun _ _ _ _ _ _ _ _=>rfl;obtain ⟨Hj,xo,QA,xq⟩:=m7;have D5:=bd2 xq fun _ _ _ _ _ _ _ _=>rfl;obtain ⟨oo,oq,k7,jA⟩:=ki;have k8:=bd1 jA fun _ _ _ _ _ _ _=>rfl;obtain ⟨qE,Hk,ou,xr⟩:=m8;have D6:=bd1 xr fun _ _ _ _ _ _ _=>rfl;obtain ⟨qF,xt,ow,xu⟩:=m9;have vc:=bd1 xu fun _ _ _ _ _ _ _=>rfl;obtain ⟨qG,Hl,ox,xx⟩:=ng;have D7:=bd2 xx fun _ _ _ _ _ _ _ _=>rfl;obtain ⟨Hm,Hn,D8,xy⟩:=nh;have D9:=bd2 xy fun _ _ _ _ _ _ _ _=>rfl;obtain ⟨vd,ve,rR,lg⟩:=ee;have rT:=bd1 lg fun _ _ _ _ _ _ _=>rfl;obtain ⟨pR,pS,oy,gZ⟩:=df;have oz:=bd3 gZ fun _ _ _ _ _ _ _ _ _=>rfl;obtain ⟨Ho,xA,QB,xB⟩:=ni;have Ea:=bd6 xB fun _ _ _ _ _ _ _ _ _ _ _ _=>rfl;obtain ⟨Hq,xC,QC,xD⟩:=nj;have Eb:=bd3 xD fun _ _ _ _ _ _ _ _ _=>rfl;obtain ⟨QR,Hr,QD,xE⟩:=ny;have Ec:=bd1 xE fun _ _ _ _ _ _ _=>rfl;obtain ⟨Nc,zq,Lc,pT⟩:=ij;have wc:=bd2 pT fun _ _ _ _ _ _ _ _=>rfl;obtain ⟨NW,Bq,Nd,rl⟩:=jh;have zr:=bd2 rl fun _ _ _ _ _ _ _ _=>rfl;obtain ⟨Hs,xF,QE,xG⟩:=nz;have Ed:=bd3 xG fun _ _ _ _ _ _ _ _ _=>rfl;obtain ⟨NX,Br,Nf,rp⟩:=ji;have zt:=bd3 rp fun _ _ _ _ _ _ _ _ _=>rfl;obtain ⟨NY,Bs,Ng,rq⟩:=jj;have zu:=bd3 rq fun _ _ _ _ _ _ _ _ _=>rfl;obtain ⟨QF,Ee,NZ,vf⟩:=kj;have Bt:=bd2 vf fun _ _ _ _ _ _ _ _=>rfl;obtain ⟨Ef,vg,N0,vh⟩:=kl;have Bu:=bd1 vh fun _ _ _ _ _ _ _=>rfl;obtain ⟨Ht,xH,QG,xI⟩:=nE;have Eg:=bd2 xI fun _ _ _ _ _ _ _ _=>rfl;obtain ⟨QS,Hu,QH,xJ⟩:=nF;have Eh:=bd1 xJ fun _ _ _ _ _ _ _=>rfl;obtain ⟨qH,dR,pU,iR⟩:=dC;have dF:=bd1 iR fun _ _ _ _ _ _ _=>rfl;obtain ⟨vi,vj,rV,lh⟩:=eu;have rW:=bd1 lh fun _ _ _ _ _ _ _=>rfl;obtain ⟨Hz,rX,Hv,jE⟩:=dO;have qI:=bd2 jE fun _ _ _ _ _ _ _ _=>rfl;obtain ⟨qJ,xK,Ei,eY⟩:=nG;have gi:=bd2 eY fun _ _ _ _ _ _ _ _=>rfl;obtain ⟨xM,xN,QI,xO⟩:=nI;have Ej:=bd1 xO fun _ _ _ _ _ _ _=>rfl;have Th:=mg_of X G Ki;have Ti:=mg_of X G Kj;have Tj:=mg_of X G Kk;have Tn:=mg_of X G Kl;have QJ:=mg_of X G CU;have To:=mg_of X G Km;have Tq:=mg_of X G Kn;have Tr:=mg_of X G Ko;have Ts:Mk K CR Hj:=⟨Kq,xo.at_,xo.fn,Kr⟩;have Tu:Mk K CK Ho:=⟨Kt,xA.at_,xA.fn,Ku⟩;have Tv:Mk K CW Hq:=⟨Kw,xC.at_,xC.fn,Kx⟩;have Tw:Mk K CP Hs:=⟨Kz,xF.at_,xF.fn,KA⟩;have QK:Mk K CFd Ef:=⟨CY,vg.at_,vg.fn,CZ⟩;have Tx:Mk K CC Ht:=⟨KD,xH.at_,xH.fn,KG⟩;have XM_CF:XMk K CF qJ:=⟨⟨KH,KI,KJ⟩,xK.at_,xK.fn,KL⟩;have XM_CN:XMk K CN xM:=⟨⟨KN,KO,KP⟩,xN.at_,xN.fn,KQ⟩;have TWw:TW mg:=⟨dZ,dE,NJ,MK,Dj,Qg,Qh,uI,vE,uJ,vF⟩;have TRr:TR K CR:=⟨Kp,j6,jd,je⟩;have TFt:TF K mg CF qJ:=⟨XM_CF,kh,pP,Tq⟩;have TKk:TK K CK:=⟨Ks,mY,j7,mZ,j8,ie,dN⟩;have TNn:TN K mg CN xM:=⟨XM_CN,pP,Tr⟩;have TWk_:TWk K CW:=⟨Kv,m4,jf,j9,kb,d8,kc⟩;have TPc_:TPc K CP:=⟨Ky,jg,d9,m6⟩;have TFd_:TFd K CFd:=⟨CV,ke⟩;have TCc:TC K CC:=⟨KC,ig,kg⟩;have TPt_:TPt mg:=⟨dE,dZ,SM,AW,vI,vJ,AX⟩;have TTr_:TTr mg:=⟨Vj,SO,Dk⟩;have TAa:TA_ mg:=⟨dE,dZ,gY,AY,GZ,vK,yV,Dl,uK,ML,jG,kK⟩;have XGg:LD K CF:=⟨KR,KS⟩;have e:=hfa.symm.trans Hi;injection e with e;injection e with e;subst e;have hbind:∀ (s:Shared) (us:List Value),us.length=(["calls"]:List Str).length→BindsTo s vb ⟨us,[]⟩ ((["calls"]:List Str).zip us):=by
  obtain ⟨oc,od,kV,doc,pm,an,cdv,ct,osl,hfd,_,_⟩:=xn.ex;rw [hfd];exact fun s us hu=>match us,hu with | [_],_=>.of_eq rfl
 refine ⟨vb,hbind,fun base KB GB=>?_⟩;have gE:aF P w K mg base CX0 1 oo k7 ["self"] (pw CR):=tV jA TWw TRr;have gH:aF P w K mg base CX0 2 qE ou ["self"] (Ca CR):=L6 xr TWw TRr jA oq k8;have gW:aF P w K mg base CX0 2 qF ow ["self"] (yr CR):=L7 xu TWw TRr jA oq k8;have gS:aF P w K mg base CX0 3 qG ox ["self","signs"] (Cb CR):=L8 xx TWw NI TRr gW xt vc fZ nY nZ;have GRr:GR P w K mg base CR oo qE qF qG k7 ou ow ox:=⟨gE,gH,gW,gS,oq,Hk,xt,Hl,k8,D6,vc,D7⟩;have GXx:GX P w K mg base CR CF Hm vd pR D8 rR oy:=⟨L9 xy TRr TFt eY gi GRr,yt lg TWw TRr TFt eY gi GRr xl G1 G2,An gZ TWw TRr TFt eY gi GRr pQ yX yY rj Ba Bb,Hn,ve,pS,D9,rT,oz⟩;have oNO:aF P w K mg base CX0 2 yZ vL ["marks"] (cG K):=vx cU f6 n4 n8;have oRM:aF P w K mg base (CXF P w CF) 5 zc vR ["reader","holes"] (jY CR CF):=vy (fI:=qJ) (fdI:=Ei) jx TRr GRr GXx;have oRV:aF P w K mg base (CXF P w CF) 6 zg vT ["reader","holes","names","notches"] (j0 CR CF):=vz jy TRr TFt eY gi GRr GXx oRM ze jx.kp zf oNO eO cU.kp eP;have oRVs:aF P w K mg base (CXF P w CF) 7 vU uR ["reader","holes","names","notches"] (i5 CR CF):=t6 iD TRr dE ma GRr GXx oRV zi jy.kp zj;have oWe:aF P w K mg base CX0 3 G3 Dz ["number","weights"] (qu K):=Cm qy dZ oNO eO cU.kp eP;have oAW:aF P w K mg base CX0 4 vM uM ["weights"] (i6 K):=t8 iC dE ma oWe G5 qy.kp G6;have oRW:aF P w K mg base (CXF P w CF) 5 uN rN ["reader","holes"] (ib CR CF):=rK (fE:=oo) (fH:=qE) (fW:=qF) (fS:=qG) (fdE:=k7) (fdH:=ou) (fdW:=ow) (fdS:=ox) f7 TRr dE vG GXx oAW vO iC.kp vP;have oGr:aF P w K mg base CX0 1 MO KZ ["chosen","holes"] yB:=IZ y6 dE gY;have oAC:aF P w K mg base CX0 3 y8 vQ ["size","holes"] j4:=vB jw gY oGr MQ y6.kp MR oNO eO cU.kp eP;have oBy:aF P w K mg base CX0 1 Dm AZ ["signs"] eU:=qV fZ NI;have oNu:aF P w K mg base CX0 2 DE Bc ["notches"] (mT K):=Ar oa dE gY SK oBy nY fZ.kp nZ;have DR:Cn P w K mg base 2 "Reader" CR ["self","text"] (yq K CR):=⟨_,_,IK xq TWw TRr uL Ds Dt,Ts,Th,D5⟩;have DK:Cn P w K mg base 1 "Code" CK ["self","text","holes","kind","names","notches"] (O3 CK):=⟨_,_,Rw xB dZ TKk,Tu,Ti,Ea⟩;have DBy:Dn P w K mg base CX0 1 "bytes_of" ["signs"] eU:=⟨_,_,oBy,nY,fZ.kp,nZ⟩;have DRC:Dn P w K mg base (CXF P w CF) 8 "read_code" ["text"] (ja CF CK):=⟨_,_,yC kP TRr TFt eY gi GRr GXx yS vH yT AV DR DK ⟨_,_,oRVs,vW,iD.kp,vX⟩ ⟨_,_,oRW,uP,f7.kp,uQ⟩ ⟨_,_,oAC,za,jw.kp,zb⟩ ⟨_,_,oNu,DJ,oa.kp,DO⟩,Be,kP.kp,Bf⟩;have DNA:Dn P w K mg base CX0 1 "notch_at" ["hole"] eV:=⟨_,_,jX f6,n4,f6.kp,n8⟩;have DNO:Dn P w K mg base CX0 2 "notches_of" ["marks"] (cG K):=⟨_,_,oNO,eO,cU.kp,eP⟩;have DMO:Dn P w K mg base CX0 2 "marks_of" ["notches","holes"] lG:=⟨_,_,Ao n9 gY f6 n4 n8,Dx,n9.kp,Dy⟩;have DSh:Dn P w K mg base CX0 1 "shares_of" ["holes"] um:=⟨_,_,Gs kQ dE,Bh,kQ.kp,Bi⟩;have DUn:Dn P w K mg base CX0 1 "all_unneedled" ["holes"] Jq:=⟨_,_,O8 eI gY,rP,eI.kp,rQ⟩;have DLe:Dn P w K mg base CX0 3 "all_left" ["code","wanted","shares","unneedled"] (CB CK):=⟨_,_,Mp oe TPt_ TKk DMO,DX,oe.kp,DY⟩;have DP:Cn P w K mg base 4 "Parting" CP ["self","code","wanted"] (yH CK CP):=⟨_,_,RN xG TPc_ TKk DSh DUn DLe,Tw,Tn,Ed⟩;have GPp:GP P w K mg base CP:=⟨TPc_,⟨_,_,RR rp TPc_,Br,zt⟩,⟨_,_,RS rq TPc_,Bs,zu⟩,⟨_,_,RT vf TPc_ TPt_,Ee,Bt⟩⟩;have DLB:Dn P w K mg base CX0 2 "least_by_needling" ["parting","known","table","together"] (Fc P w K mg base CP):=⟨_,_,Pf cZ GPp SN,lU,cZ.kp,lV⟩;have DLT:Dn P w K mg base CX0 3 "least_table" ["parting","together"] (Mu P w K mg base CP):=⟨_,_,RV iE GPp dE gY DLB,vZ,iE.kp,wb⟩;have DAd:Dn P w K mg base CX0 1 "added" ["stay","fall"] (rb fun a b=>a+b):=⟨_,_,Ju zk,MV,zk.kp,MW⟩;have DDe:Dn P w K mg base CX0 1 "deeper" ["stay","fall"] (rb fun a b=>if b > a then b else a):=⟨_,_,Gu uT NK,K5,uT.kp,K6⟩;have DFN:Dn P w K mg base CX0 4 "fewest_needlings" ["parting"] (vC CP (· + ·)):=⟨_,_,RW dh DLT DAd,oh,dh.kp,oj⟩;have DLD:Dn P w K mg base CX0 4 "least_depths" ["parting"] (vC CP max):=⟨_,_,RX gb DLT DDe,uV,gb.kp,uW⟩;have DFH:Dn P w K mg base CX0 2 "first_hole_met" ["parting","known","fewest"] (Pg CP):=⟨_,_,RZ dQ GPp,qA,dQ.kp,qB⟩;have DTT:Dn P w K mg base CX0 5 "tree_told" ["parting"] (Ph CP):=⟨_,_,R3 kY GPp TPt_ TTr_ DFN DFH,Bl,kY.kp,Bm⟩;have DAA:Dn P w K mg base CX0 3 "all_accepted" ["parting","labels"] (Pj CP):=⟨_,_,R5 gf GPp TPt_ DLB DAd,uY,gf.kp,uZ⟩;have DWI:Cn P w K mg base 1 "Walk" CW ["self","code","wanted"] (Pn CW CK):=⟨_,_,R8 xD TWk_ TKk dE gY KY,Tv,Tj,Eb⟩;have GWw:GWk P w K mg base CW CK:=⟨TWk_,⟨_,_,Sa xE TWk_ dE,Hr,Ec⟩,⟨_,_,Se pT TWk_ NK,zq,wc⟩,⟨_,_,Sh rl TWk_ TKk DNA,Bq,zr⟩⟩;have DWa:Dn P w K mg base (CXF P w CN) 3 "walked" ["row","code","wanted"] (uu CW CK):=⟨_,_,GF uS GWw TKk TNn xO Ej TTr_ dE DWI,K1,uS.kp,K2⟩;have DIT:Dn P w K mg base CX0 1 "is_text" ["row"] (pL K):=⟨_,_,Cz qC dE NJ yU,Hc,qC.kp,Hd⟩;have DRi:Dn P w K mg base CX0 1 "rises" ["row","least","most"] (pK K):=⟨_,_,Jl zl,MZ,zl.kp,M0⟩;have DCo:Dn P w K mg base CX0 1 "counted" ["row"] dM:=⟨_,_,Cy qD dE,Hf,qD.kp,Hg⟩;have DHa:Dn P w K mg base CX0 1 "has_value" ["code","value"] (AM CK):=⟨_,_,Pw kZ TKk dE,Bo,kZ.kp,Bp⟩;have DAr:Dn P w K mg base CX0 2 "are_values" ["code","row"] (rh CK):=⟨_,_,Px jz TKk dE DRi,zo,jz.kp,zp⟩;have DHo:Dn P w K mg base CX0 1 "how_many" ["notches"] J5:=⟨_,_,PB om,D3,om.kp,D4⟩;have DFd:Cn P w K mg base 9 "Field" CFd ["self"] (JF CFd CK):=⟨_,_,Pu vh TFd_ Vk DBy DRC,QK,QJ,Bu⟩;have rA:tf P w K dA (kvsOf [(0,VO,.ref g0),(1,VQ,.ref g1),(2,VR,.ref g2),(3,VT,.ref g3),(4,VW,.ref g4),(5,VY,.ref g5),(6,V0,.ref g6),(7,V2,.ref g7),(8,V4,.ref g8),(9,V6,.ref g9),(10,Sn,.ref g10),(11,Sq,.ref g11),(12,Ss,.ref g12),(13,Sv,.ref g13),(14,Sx,.ref g14),(15,Sz,.ref g15),(16,SD,.ref g16),(17,SG,.ref g17),(18,SI,.ref g18)]):=uz (by show ∀ i∈([0,1,2,3,4,5,6,7,8,9,10,11,12,13,14,15,16,17,18]:List Int),i=hashInt i; decide) (by show ([Sum.inl 0,Sum.inl 1,Sum.inl 2,Sum.inl 3,Sum.inl 4,Sum.inl 5,Sum.inl 6,Sum.inl 7,Sum.inl 8,Sum.inl 9,Sum.inl 10,Sum.inl 11,Sum.inl 12,Sum.inl 13,Sum.inl 14,Sum.inl 15,Sum.inl 16,Sum.inl 17,Sum.inl 18]:List Key).Nodup; decide) lA;have rS:tf P w K dS (kvsOf [(0,VP,.ref h0),(1,tS1,.ref h1),(2,VS,.ref h2),(3,VU,.ref h3),(4,VX,.ref h4),(5,VZ,.ref h5),(6,V1,.ref h6),(7,V3,.ref h7),(8,V5,.ref h8),(9,V7,.ref h9),(10,So,.ref h10),(11,Sr,.ref h11),(12,Su,.ref h12),(13,Sw,.ref h13),(14,Sy,.ref h14),(15,SA,.ref h15),(16,SE,.ref h16),(17,SH,.ref h17),(18,SJ,.ref h18)]):=uz (by show ∀ i∈([0,1,2,3,4,5,6,7,8,9,10,11,12,13,14,15,16,17,18]:List Int),i=hashInt i; decide) (by show ([Sum.inl 0,Sum.inl 1,Sum.inl 2,Sum.inl 3,Sum.inl 4,Sum.inl 5,Sum.inl 6,Sum.inl 7,Sum.inl 8,Sum.inl 9,Sum.inl 10,Sum.inl 11,Sum.inl 12,Sum.inl 13,Sum.inl 14,Sum.inl 15,Sum.inl 16,Sum.inl 17,Sum.inl 18]:List Key).Nodup; decide) lS;have TDd:TD P w K mg base CFd CK:=by
  refine ⟨⟨dS,_,mg_of X G aS,rS,fun p n k hs=>?_⟩,⟨dA,_,mg_of X G aA,rA,fun p n k hs=>?_⟩⟩
  ·unfold PyVbenab.shape at hs;have fin:∀ {a b:Nat} {t:Addr},some (a,b)=some (n,k)→(∀ H:Hp,SqT K H t [.int (a:Int),.int (b:Int)])→∀ H:Hp,SqT K H t [.int (n:Int),.int (k:Int)]:=fun e q=>by
    injection e with e;injection e with e1 e2;subst e1 e2;exact q
   by_cases z0:p=0
   ·rw [if_pos z0] at hs;subst z0;exact ⟨h0,by rfl,fin hs U0⟩
   rw [if_neg z0] at hs;by_cases z1:p=1
   ·rw [if_pos z1] at hs;subst z1;exact ⟨h1,by rfl,fin hs U1⟩
   rw [if_neg z1] at hs;by_cases z2:p=2
   ·rw [if_pos z2] at hs;subst z2;exact ⟨h2,by rfl,fin hs U2⟩
   rw [if_neg z2] at hs;by_cases z3:p=3
   ·rw [if_pos z3] at hs;subst z3;exact ⟨h3,by rfl,fin hs U3⟩
   rw [if_neg z3] at hs;by_cases z4:p=4
   ·rw [if_pos z4] at hs;subst z4;exact ⟨h4,by rfl,fin hs U4⟩
   rw [if_neg z4] at hs;by_cases z5:p=5
   ·rw [if_pos z5] at hs;subst z5;exact ⟨h5,by rfl,fin hs U5⟩
   rw [if_neg z5] at hs;by_cases z6:p=6
   ·rw [if_pos z6] at hs;subst z6;exact ⟨h6,by rfl,fin hs U6⟩
   rw [if_neg z6] at hs;by_cases z7:p=7
   ·rw [if_pos z7] at hs;subst z7;exact ⟨h7,by rfl,fin hs U7⟩
   rw [if_neg z7] at hs;by_cases z8:p=8
   ·rw [if_pos z8] at hs;subst z8;exact ⟨h8,by rfl,fin hs U8⟩
   rw [if_neg z8] at hs;by_cases z9:p=9
   ·rw [if_pos z9] at hs;subst z9;exact ⟨h9,by rfl,fin hs U9⟩
   rw [if_neg z9] at hs;by_cases z10:p=10
   ·rw [if_pos z10] at hs;subst z10;exact ⟨h10,by rfl,fin hs PJ⟩
   rw [if_neg z10] at hs;by_cases z11:p=11
   ·rw [if_pos z11] at hs;subst z11;exact ⟨h11,by rfl,fin hs PL⟩
   rw [if_neg z11] at hs;by_cases z12:p=12
   ·rw [if_pos z12] at hs;subst z12;exact ⟨h12,by rfl,fin hs PM⟩
   rw [if_neg z12] at hs;by_cases z13:p=13
   ·rw [if_pos z13] at hs;subst z13;exact ⟨h13,by rfl,fin hs PN⟩
   rw [if_neg z13] at hs;by_cases z14:p=14
   ·rw [if_pos z14] at hs;subst z14;exact ⟨h14,by rfl,fin hs PQ⟩
   rw [if_neg z14] at hs;by_cases z15:p=15
   ·rw [if_pos z15] at hs;subst z15;exact ⟨h15,by rfl,fin hs PR⟩
   rw [if_neg z15] at hs;by_cases z16:p=16
   ·rw [if_pos z16] at hs;subst z16;exact ⟨h16,by rfl,fin hs PU⟩
   rw [if_neg z16] at hs;by_cases z17:p=17
   ·rw [if_pos z17] at hs;subst z17;exact ⟨h17,by rfl,fin hs PV⟩
   rw [if_neg z17] at hs;by_cases z18:p=18
   ·rw [if_pos z18] at hs;subst z18;exact ⟨h18,by rfl,fin hs PX⟩
   rw [if_neg z18] at hs;cases hs
  ·unfold PyVbenab.shape at hs;by_cases z0:p=0
   ·subst z0;exact ⟨g0,Vl,9,by decide,by rfl,Vm.kp,MA Vm TFd_ TKk TAa TFt XGg DIT DRC,V9⟩
   rw [if_neg z0] at hs;by_cases z1:p=1
   ·subst z1;exact ⟨g1,fda1,2,by decide,by rfl,Vn.kp,Mx Vn TFd_ TKk DCo,Wa⟩
   rw [if_neg z1] at hs;by_cases z2:p=2
   ·subst z2;exact ⟨g2,Vo,3,by decide,by rfl,Vp.kp,JJ Vp TFd_ TKk TAa DHa DMO DCo,Wb⟩
   rw [if_neg z2] at hs;by_cases z3:p=3
   ·subst z3;exact ⟨g3,Vq,3,by decide,by rfl,Vr.kp,JK Vr TFd_ TKk TAa DRi DNO,Wc⟩
   rw [if_neg z3] at hs;by_cases z4:p=4
   ·subst z4;exact ⟨g4,Vs,2,by decide,by rfl,Vt.kp,My (fun c g l v hv=>ID g l hv) Vt TFd_ TKk TAa DHa DCo,Wd⟩
   rw [if_neg z4] at hs;by_cases z5:p=5
   ·subst z5;exact ⟨g5,Vu,2,by decide,by rfl,Vv.kp,MB Vv TFd_ TKk TAa DIT,We⟩
   rw [if_neg z5] at hs;by_cases z6:p=6
   ·subst z6;exact ⟨g6,Vw,3,by decide,by rfl,Vx.kp,JV Vx TFd_ TKk TAa DRi DNO DCo,Wf⟩
   rw [if_neg z6] at hs;by_cases z7:p=7
   ·subst z7;exact ⟨g7,Vy,1,by decide,by rfl,Vz.kp,JW Vz TFd_ TKk TAa,Wg⟩
   rw [if_neg z7] at hs;by_cases z8:p=8
   ·subst z8;exact ⟨g8,VA,2,by decide,by rfl,VB.kp,MG VB TFd_ TKk TAa DHo,Wh⟩
   rw [if_neg z8] at hs;by_cases z9:p=9
   ·subst z9;exact ⟨g9,VC,2,by decide,by rfl,VD.kp,J8 VD TFd_ TKk TAa DNA,Wi⟩
   rw [if_neg z9] at hs;by_cases z10:p=10
   ·subst z10;exact ⟨g10,SV,6,by decide,by rfl,Qq.kp,GS Qq TFd_ TKk TAa DAr DP DFN,VE⟩
   rw [if_neg z10] at hs;by_cases z11:p=11
   ·subst z11;exact ⟨g11,SW,6,by decide,by rfl,Qr.kp,MI Qr TFd_ TKk TAa DAr DP DTT,VF⟩
   rw [if_neg z11] at hs;by_cases z12:p=12
   ·subst z12;exact ⟨g12,SX,6,by decide,by rfl,Qs.kp,Ke Qs TFd_ TKk TAa DAr DP DLD,VG⟩
   rw [if_neg z12] at hs;by_cases z13:p=13
   ·subst z13;exact ⟨g13,SY,4,by decide,by rfl,Qt.kp,Kg Qt TFd_ TKk TWk_ TAa TNn DAr DWa,VH⟩
   rw [if_neg z13] at hs;by_cases z14:p=14
   ·subst z14;exact ⟨g14,Tc,6,by decide,by rfl,Qu.kp,GU Qu TFd_ TKk TAa DAr DP DFN,VI⟩
   rw [if_neg z14] at hs;by_cases z15:p=15
   ·subst z15;exact ⟨g15,Td,6,by decide,by rfl,Qw.kp,GY Qw TFd_ TKk TAa DAr DP DAA,VJ⟩
   rw [if_neg z15] at hs;by_cases z16:p=16
   ·subst z16;exact ⟨g16,Te,1,by decide,by rfl,Qx.kp,Mz Qx TAa,VL⟩
   rw [if_neg z16] at hs;by_cases z17:p=17
   ·subst z17;exact ⟨g17,Tf,6,by decide,by rfl,Qy.kp,Kh Qy TFd_ TKk TAa KY DHa DP DFN DLD,VM⟩
   rw [if_neg z17] at hs;by_cases z18:p=18
   ·subst z18;exact ⟨g18,Tg,1,by decide,by rfl,Qz.kp,GH Qz TFd_ TKk TAa,VN⟩
   rw [if_neg z18] at hs;cases hs
 have GCc:∀ sb,GC P w K mg base CC sb:=fun sb=>by
  have gN:aF P w K mg base CX0 1 qH pU ["self"] (Jn K CC sb):=RE iR TCc;have gL:aF P w K mg base CX0 2 vi rV ["self"] (O7 K CC sb):=RG lh TCc gN dR dF;exact ⟨TCc,⟨_,_,RC xJ dE TCc,Hu,Eh⟩,⟨_,_,gN,dR,dF⟩,⟨_,_,RK jE TCc dE gN dR dF gL vj rW,rX,qI⟩⟩
 exact CS xn TDd GCc DFd (fun sb=>⟨_,_,Ry xI TCc,Tx,To,Eg⟩) DCo
end NC
namespace PySem.W.Fast
theorem tw7973906332590587694:True:=trivial
theorem tw15752064908762435327:True:=trivial
theorem tw17105141700428068040:True:=trivial
theorem tw9748476402439655961:True:=trivial
theorem tw11603764102204380153:True:=trivial
theorem tw510889923498738427:True:=trivial
theorem tw6217634018953141588:True:=trivial
theorem tw8736781171278678798:True:=trivial
theorem tw13008875706208304042:True:=trivial
theorem tw18235064286599588295:True:=trivial
theorem tw16797318139156640743:True:=trivial
theorem tw1780289384950143379:True:=trivial
theorem tw9348956102819578791:True:=trivial
theorem tw7135791273148851645:True:=trivial
theorem tw11121982501952866522:True:=trivial
theorem tw7997094431501981261:True:=trivial
theorem tw5346743987249445789:True:=trivial
theorem tw9036171706157454833:True:=trivial
theorem tw2066211358234512895:True:=trivial
theorem tw10868771680688137704:True:=trivial
theorem tw17256280653311657220:True:=trivial
theorem tw7179363709868649072:True:=trivial
theorem tw15637365292870569450:True:=trivial
theorem tw5948218063937709353:True:=trivial
theorem tw11082089466281433978:True:=trivial
theorem tw3232010998314417957:True:=trivial
theorem tw11130817985695482220:True:=trivial
theorem tw7241840025969485085:True:=trivial
theorem tw6253048391691472405:True:=trivial
theorem tw6231929689813717547:True:=trivial
theorem tw5155970429304834990:True:=trivial
theorem tw1642863764358849213:True:=trivial
theorem tw17624311479239819093:True:=trivial
theorem tw5528812271129194070:True:=trivial
theorem tw9681633193995580683:True:=trivial
theorem tw4877883360651141437:True:=trivial
theorem tw17817798272019645051:True:=trivial
theorem tw9824154481220442841:True:=trivial
theorem tw17182798011993773308:True:=trivial
theorem tw16245941227038829048:True:=trivial
theorem tw9116142383045123098:True:=trivial
theorem tw2764272102034495107:True:=trivial
theorem tw13751085755194254087:True:=trivial
theorem tw11350472973065036255:True:=trivial
theorem tw1284081827991790807:True:=trivial
theorem tw13884617634244246253:True:=trivial
theorem tw3692741523041211046:True:=trivial
theorem tw14735272862110766328:True:=trivial
theorem tw9067516788537931702:True:=trivial
theorem tw12110421445476606489:True:=trivial
theorem tw8671932587098267827:True:=trivial
theorem tw4218682229536093389:True:=trivial
theorem tw6795052631684009682:True:=trivial
theorem tw2896678953634600605:True:=trivial
theorem tw9769490449009557014:True:=trivial
theorem tw9819922005729783140:True:=trivial
theorem tw16302341210638358448:True:=trivial
theorem tw13091199792789178917:True:=trivial
theorem tw527611701618660203:True:=trivial
theorem tw7321532960102973809:True:=trivial
theorem tw11596697772275701986:True:=trivial
theorem tw15808970533900096100:True:=trivial
theorem tw5670091344748485929:True:=trivial
theorem tw7707871774353490003:True:=trivial
theorem tw16305899143076515051:True:=trivial
theorem tw5614806573874626314:True:=trivial
theorem tw10157786316337030003:True:=trivial
theorem tw6975995705342576097:True:=trivial
theorem tw5676541401731687694:True:=trivial
theorem tw4622801356074840991:True:=trivial
theorem tw1526174877806519945:True:=trivial
theorem tw10599054140282848624:True:=trivial
theorem tw16088833545089360968:True:=trivial
theorem tw7603542166338736376:True:=trivial
theorem tw6630478322762241456:True:=trivial
theorem tw15967189861419319875:True:=trivial
theorem tw15729097864228716284:True:=trivial
theorem tw16163298295696920779:True:=trivial
theorem tw3316029172206661067:True:=trivial
theorem tw1682016012761167572:True:=trivial
theorem tw16424711285097939212:True:=trivial
theorem tw8989281344676565599:True:=trivial
theorem tw15182665435458468645:True:=trivial
theorem tw14396469459460475530:True:=trivial
theorem tw17991182496918438225:True:=trivial
theorem tw7654072460833662893:True:=trivial
theorem tw11979446543119171791:True:=trivial
theorem tw412808467658961806:True:=trivial
theorem tw13576259171706732632:True:=trivial
theorem tw3529188968214744882:True:=trivial
theorem tw7726762973170714552:True:=trivial
theorem tw5010258939296708308:True:=trivial
theorem tw5106160385053512103:True:=trivial
theorem tw1540006896209068565:True:=trivial
theorem tw10301401633700410446:True:=trivial
theorem tw62527612945026418:True:=trivial
theorem tw4427923816487556682:True:=trivial
theorem tw11479268259047493886:True:=trivial
theorem tw1440386631746936977:True:=trivial
theorem tw9868426727417712990:True:=trivial
theorem tw7345020616362768779:True:=trivial
theorem tw12062549471412390003:True:=trivial
theorem tw2561030975792283224:True:=trivial
theorem tw12127888883087629108:True:=trivial
theorem tw10469638177319972977:True:=trivial
theorem tw3301359502837760067:True:=trivial
theorem tw14214993193684971401:True:=trivial
theorem tw10502789689085656417:True:=trivial
theorem tw9733293406731678352:True:=trivial
theorem tw9549584818941196463:True:=trivial
theorem tw13968223675265030139:True:=trivial
theorem tw12346414682674878616:True:=trivial
theorem tw16761219819689423311:True:=trivial
theorem tw15351654242826502666:True:=trivial
theorem tw6160744375376747937:True:=trivial
theorem tw5519146817865569298:True:=trivial
theorem tw13993767102331325722:True:=trivial
theorem tw932813970576633221:True:=trivial
theorem tw18202109481546758095:True:=trivial
theorem tw12605388826851445248:True:=trivial
theorem tw15701037484815802096:True:=trivial
theorem tw1210559492647233318:True:=trivial
theorem tw15413656499056198709:True:=trivial
theorem tw7014281214348373627:True:=trivial
theorem tw14060584867622346768:True:=trivial
theorem tw7167413615648281074:True:=trivial
theorem tw2674522505308027246:True:=trivial
theorem tw18012948622555990645:True:=trivial
theorem tw11018117794864212290:True:=trivial
theorem tw7191800639604343438:True:=trivial
theorem tw5799911003470936575:True:=trivial
theorem tw11763527793811890010:True:=trivial
theorem tw16527403970621899689:True:=trivial
theorem tw9964477222096928258:True:=trivial
theorem tw317887995276007436:True:=trivial
theorem tw2813357284554558730:True:=trivial
theorem tw16075714412889518832:True:=trivial
theorem tw6960894174981304962:True:=trivial
theorem tw11547666606658433905:True:=trivial
theorem tw2303100246620878847:True:=trivial
theorem tw8158791274599865929:True:=trivial
theorem tw6085357160730339812:True:=trivial
theorem tw17362740577296946712:True:=trivial
theorem tw5841179505707034665:True:=trivial
theorem tw3277163514882962153:True:=trivial
theorem tw6097326737633015595:True:=trivial
theorem tw10108009801494849348:True:=trivial
theorem tw1868326334344157295:True:=trivial
theorem tw5134733741273060644:True:=trivial
theorem tw9171958252233055662:True:=trivial
theorem tw13000326362199354484:True:=trivial
theorem tw11557001578917930108:True:=trivial
theorem tw15353386211065014871:True:=trivial
theorem tw17412807468723635967:True:=trivial
theorem tw14491209125103966346:True:=trivial
theorem tw10348594949832910442:True:=trivial
theorem tw9045996993890571823:True:=trivial
theorem tw15159255204920423189:True:=trivial
theorem tw16481655636703206077:True:=trivial
theorem tw17779154596500182839:True:=trivial
theorem tw10894786557677274828:True:=trivial
theorem tw8782792871446142000:True:=trivial
theorem tw5323213187352029377:True:=trivial
theorem tw15822674038498094286:True:=trivial
theorem tw5422044491421818111:True:=trivial
theorem tw12609234900766097001:True:=trivial
theorem tw17766643354128613122:True:=trivial
theorem tw2312424137906667129:True:=trivial
theorem tw7277854814214820485:True:=trivial
theorem tw5115830987204091623:True:=trivial
theorem tw16231415426620269599:True:=trivial
theorem tw14812632546596530103:True:=trivial
theorem tw16497978709188154789:True:=trivial
theorem tw15191257115532805800:True:=trivial
theorem tw15897576039177631417:True:=trivial
theorem tw10642989215183060644:True:=trivial
theorem tw7348565420933014003:True:=trivial
theorem tw6356093318059273297:True:=trivial
theorem tw1408605415124343445:True:=trivial
theorem tw13239119740485619879:True:=trivial
theorem tw6460087149291358919:True:=trivial
theorem tw2397412040781422653:True:=trivial
theorem tw11223000184292131912:True:=trivial
theorem tw6806385660235303143:True:=trivial
theorem tw12059821599553941821:True:=trivial
theorem tw3291569523739030900:True:=trivial
theorem tw13780959011517796311:True:=trivial
theorem tw10812445513022051011:True:=trivial
theorem tw6460786277625778320:True:=trivial
theorem tw9719646240000889056:True:=trivial
theorem tw5826997118825100177:True:=trivial
theorem tw3340840945801676780:True:=trivial
theorem tw4404063788259658377:True:=trivial
theorem tw118889068212399355:True:=trivial
theorem tw7109749386905455213:True:=trivial
theorem tw5004451972661062085:True:=trivial
theorem tw16881330870586906788:True:=trivial
theorem tw13886614349280637140:True:=trivial
theorem tw906672742312265807:True:=trivial
theorem tw5237371743786750352:True:=trivial
theorem tw16747018206964705561:True:=trivial
theorem tw5762986735107437605:True:=trivial
theorem tw8271085913227979132:True:=trivial
theorem tw2916080595199441863:True:=trivial
theorem tw2926745574555342527:True:=trivial
theorem tw566628499282770226:True:=trivial
theorem tw17869902335099137234:True:=trivial
theorem tw5708409553644790324:True:=trivial
theorem tw11617425847754346028:True:=trivial
theorem tw6828963502829678538:True:=trivial
theorem tw1827699444206896293:True:=trivial
theorem tw14697515567963466043:True:=trivial
theorem tw6989982846807315961:True:=trivial
theorem tw17282329223822615068:True:=trivial
theorem tw5247684389034018116:True:=trivial
theorem tw1343710834834646281:True:=trivial
theorem tw11448909652116747851:True:=trivial
theorem tw2867189272691449375:True:=trivial
theorem tw16456144797906915777:True:=trivial
theorem tw5341432321888968803:True:=trivial
theorem tw13968308764777547365:True:=trivial
theorem tw1169326413706057916:True:=trivial
theorem tw4977181363306616807:True:=trivial
theorem tw11959558901239125664:True:=trivial
theorem tw6445925539801476479:True:=trivial
theorem tw15387261447944672396:True:=trivial
theorem tw1695922610579471899:True:=trivial
theorem tw8347250781681441587:True:=trivial
theorem tw8438497994003397893:True:=trivial
theorem tw3386842083018245785:True:=trivial
theorem tw16498933812122582118:True:=trivial
theorem tw10054944453381044113:True:=trivial
theorem tw6987280180640992776:True:=trivial
theorem tw8675902225651775230:True:=trivial
theorem tw5163268593155607949:True:=trivial
theorem tw15991177684963946202:True:=trivial
theorem tw15609737277044886938:True:=trivial
theorem tw1591524154173363298:True:=trivial
theorem tw14801723878174846099:True:=trivial
theorem tw13769037759321824371:True:=trivial
theorem tw709322630351538459:True:=trivial
theorem tw12885842800985923084:True:=trivial
theorem tw406665562533674160:True:=trivial
theorem tw1214277256399750358:True:=trivial
theorem tw4336860034201228913:True:=trivial
theorem tw7015868253111651841:True:=trivial
theorem tw15870957805536956221:True:=trivial
theorem tw11910454354707682810:True:=trivial
theorem tw6685211448986425656:True:=trivial
theorem tw16065847026592006424:True:=trivial
theorem tw1104568261823058600:True:=trivial
theorem tw13698198297509693283:True:=trivial
theorem tw17772648721225216964:True:=trivial
theorem tw6848810201131996015:True:=trivial
theorem tw4117795880712715080:True:=trivial
theorem tw5274865622961161787:True:=trivial
theorem tw17407298880543745241:True:=trivial
theorem tw13705218056858817645:True:=trivial
theorem tw6503481957594552025:True:=trivial
theorem tw12275452642619084460:True:=trivial
theorem tw999859589649498105:True:=trivial
theorem tw1791271710090081892:True:=trivial
theorem tw15031496559979260786:True:=trivial
theorem tw1251758676933780025:True:=trivial
theorem tw403414435206978076:True:=trivial
theorem tw1443585508765327420:True:=trivial
theorem tw13673796104079360360:True:=trivial
theorem tw6702137346016272277:True:=trivial
theorem tw545648795634973053:True:=trivial
theorem tw4415426154591565412:True:=trivial
theorem tw2265789028754630540:True:=trivial
theorem tw16408071484827898349:True:=trivial
theorem tw1924521612429686704:True:=trivial
theorem tw7404134669344572329:True:=trivial
theorem tw12839485842682969889:True:=trivial
theorem tw12696130685583745845:True:=trivial
theorem tw5621259246929620779:True:=trivial
theorem tw5437364284107705298:True:=trivial
theorem tw5257383988790608306:True:=trivial
theorem tw6853973660381072416:True:=trivial
theorem tw1793129347895938821:True:=trivial
theorem tw16448142090975542578:True:=trivial
theorem tw9346088034170725241:True:=trivial
theorem tw6548293852185645391:True:=trivial
theorem tw6293995847013667817:True:=trivial
theorem tw13762137730643566712:True:=trivial
theorem tw2459131406252415625:True:=trivial
theorem tw201271143874931504:True:=trivial
theorem tw563737250916380222:True:=trivial
theorem tw16880818607203090379:True:=trivial
theorem tw5619298840986316451:True:=trivial
theorem tw18365238041389613696:True:=trivial
theorem tw11214287324206837945:True:=trivial
theorem tw7272251404334547738:True:=trivial
theorem tw4501072784966622182:True:=trivial
theorem tw3622924116212529430:True:=trivial
theorem tw16932582570316815546:True:=trivial
theorem tw13529570296608773823:True:=trivial
theorem tw8404514867424921405:True:=trivial
theorem tw6696127844961469788:True:=trivial
theorem tw6161029798191497845:True:=trivial
theorem tw10476851579040694097:True:=trivial
theorem tw8386906387648643871:True:=trivial
theorem tw4977686708641895820:True:=trivial
theorem tw14893998465266944122:True:=trivial
theorem tw11944567280362005953:True:=trivial
theorem tw7452174260692822119:True:=trivial
theorem tw15653494270584776677:True:=trivial
theorem tw9423657539624371226:True:=trivial
theorem tw329592493646596661:True:=trivial
theorem tw14477692802930716874:True:=trivial
theorem tw14075671561225028458:True:=trivial
theorem tw12091466562699876811:True:=trivial
theorem tw11990241987454342214:True:=trivial
theorem tw14523130610387758319:True:=trivial
theorem tw9378509458221447361:True:=trivial
theorem tw13657218702498687892:True:=trivial
theorem tw12179329221933987410:True:=trivial
theorem tw8037153917929890147:True:=trivial
theorem tw2985991554898743483:True:=trivial
theorem tw1041321897943008199:True:=trivial
theorem tw7889842156190116427:True:=trivial
theorem tw3452126254758402058:True:=trivial
theorem tw14437177285104387357:True:=trivial
theorem tw12799513408292854757:True:=trivial
theorem tw11413842768515661755:True:=trivial
theorem tw5664840135839775556:True:=trivial
theorem tw5129571158796510429:True:=trivial
theorem tw10307577666582028214:True:=trivial
theorem tw16916896735379850173:True:=trivial
theorem tw9016671889166919062:True:=trivial
theorem tw5122791895071583448:True:=trivial
theorem tw4842040030391615393:True:=trivial
theorem tw16528759243024646151:True:=trivial
theorem tw10864423724928963874:True:=trivial
theorem tw8587910108061739867:True:=trivial
theorem tw5790358425268441184:True:=trivial
theorem tw2441571897111406096:True:=trivial
theorem tw17668393902811438145:True:=trivial
theorem tw16752792574113236000:True:=trivial
theorem tw13721000155858980552:True:=trivial
theorem tw3774771614369233954:True:=trivial
theorem tw2340082367322649045:True:=trivial
theorem tw8610400137191626395:True:=trivial
theorem tw6741614106445128009:True:=trivial
theorem tw4087400798577188911:True:=trivial
theorem tw13077117900165005268:True:=trivial
theorem tw15208916254165747330:True:=trivial
theorem tw8781581238673256539:True:=trivial
theorem tw570673059913360031:True:=trivial
theorem tw13513916825607501039:True:=trivial
theorem tw16589657589679451590:True:=trivial
theorem tw10392776057665207213:True:=trivial
theorem tw9954704162040786207:True:=trivial
theorem tw12770288638514345156:True:=trivial
theorem tw5314252946821937086:True:=trivial
theorem tw12533319824278820043:True:=trivial
theorem tw12816859012755701992:True:=trivial
theorem tw12902698633655891251:True:=trivial
theorem tw16812293489391986573:True:=trivial
theorem tw17453043177357576764:True:=trivial
theorem tw14014899326629080374:True:=trivial
theorem tw9392645948521493517:True:=trivial
theorem tw6098409834278424263:True:=trivial
theorem tw7708643349282889067:True:=trivial
theorem tw5280905838294857887:True:=trivial
theorem tw4320017969298121082:True:=trivial
theorem tw14864137708223813359:True:=trivial
theorem tw14746615031359864364:True:=trivial
theorem tw7723061870919601164:True:=trivial
theorem tw10582425834340318920:True:=trivial
theorem tw6126329528131598602:True:=trivial
theorem tw3773047917924334826:True:=trivial
theorem tw18006334737502809901:True:=trivial
theorem tw17329560615551268656:True:=trivial
theorem tw10559771820422390930:True:=trivial
theorem tw9021667881777700359:True:=trivial
theorem tw13171735547811592763:True:=trivial
theorem tw10337105693268177995:True:=trivial
theorem tw17320935784193870998:True:=trivial
theorem tw13292231920546801568:True:=trivial
theorem tw9022197469676714612:True:=trivial
theorem tw14696112245291654789:True:=trivial
theorem tw12625371192683820106:True:=trivial
theorem tw9485079703820220152:True:=trivial
theorem tw8506442845559835401:True:=trivial
theorem tw6699992283281706448:True:=trivial
theorem tw2782273190294207663:True:=trivial
theorem tw13654737781455601713:True:=trivial
theorem tw1313647641650035227:True:=trivial
theorem tw16759242823804811209:True:=trivial
theorem tw948257363664200538:True:=trivial
theorem tw16665501072788698077:True:=trivial
theorem tw7651796522554495464:True:=trivial
theorem tw13614503802903727030:True:=trivial
theorem tw13556205210044721304:True:=trivial
theorem tw12917418788070418732:True:=trivial
theorem tw866786405158243141:True:=trivial
theorem tw6530159456752853589:True:=trivial
theorem tw4190533028001875766:True:=trivial
theorem tw3771070470239827519:True:=trivial
theorem tw15940692064069753697:True:=trivial
theorem tw15854526811228723271:True:=trivial
theorem tw1228975963992668024:True:=trivial
theorem tw13953253229440778063:True:=trivial
theorem tw16432486296735633444:True:=trivial
theorem tw14736058465812269286:True:=trivial
theorem tw925758505420658570:True:=trivial
theorem tw7915810629084207090:True:=trivial
theorem tw6226953978953697949:True:=trivial
theorem tw948871998627096893:True:=trivial
theorem tw6126539557099148924:True:=trivial
theorem tw432794874837752630:True:=trivial
theorem tw2158411969944647090:True:=trivial
theorem tw13577356424588083046:True:=trivial
theorem tw1250300385786112289:True:=trivial
theorem tw11288299588822452695:True:=trivial
theorem tw10087351965789879108:True:=trivial
theorem tw5400799408065293303:True:=trivial
theorem tw5206415097634856330:True:=trivial
theorem tw366942998217229734:True:=trivial
theorem tw12730219307151638306:True:=trivial
theorem tw3977280593228077013:True:=trivial
end PySem.W.Fast
open PySem PySem.W PyProof.Rows
namespace NC
open LX L2
theorem clsMk{K:PySem.W.Frag}{C:Addr}(a:plainGet K C Str.empty=true)(b:hasDictIn K C=true)(c:plainOver K C=true)(d:findIn K (.ref C) "__setattr__"=some (some (.builtin "object.__setattr__"))):Cls K C:=⟨a,b,c,d⟩
theorem xclsMk{K:PySem.W.Frag}{C:Addr}{nm q:Str}{N:Addr}{bs:List Value}{hdct:Bool}{sn:List Str}{sub:List Value}{ab:Bool}{col:Option Bool}{dd:Option Addr}{k0 k1 k2 k3 k5:Option Value}(hk:K.lookup C=some (excClassObj nm q C N bs LX.vbm hdct sn sub ab col dd k0 k1 k2 k3 k5 "ValueError.__new__")):vq K C:=⟨_,_,_,_,_,_,_,_,_,_,_,_,_,_,_,hk⟩
theorem strMk{K:PySem.W.Frag}{x s:Str}{t:Tok}(h:nsIn K mainGlobals x=some (some (.str s t))):∃ t,nsIn K mainGlobals x=some (some (.str s t)):=⟨t,h⟩
theorem nogMk{K:PySem.W.Frag}{x:Str}(h:nsIn K mainGlobals x=some none):NoA K x:=h
theorem case_s{K:PySem.W.Frag}{H:L2.Hp}{p:Addr}(a:Codec.denoteAll PySem.Challenge.rw_notchcodes_s01_answers.args)(hwi:Codec.withinAll PySem.Challenge.rw_notchcodes_s01_answers.args a=true)(hask:Codec.app PySem.Challenge.rw_notchcodes_s01_answers.args PySem.Challenge.rw_notchcodes_s01_answers.asked a=true)(hs:L2.SqL K H p (List.map L2.V.int a.1)):NC.lO K [L2.V.ref p] H (fun v H'=>L2.Dw K H' v (PySem.Challenge.rw_notchcodes_s01_answers.ret.enc (Codec.app PySem.Challenge.rw_notchcodes_s01_answers.args PySem.Challenge.rw_notchcodes_s01_answers.f a))) fun _ _ _=>False:=by
 have q:((Codec.inLen 0 16000 a.1&&a.1.all (Codec.inInt (Int.negSucc 9223372036854775807) (Int.ofNat 9223372036854775807)))&&true)=true:=hwi;rw [Bool.and_eq_true,Bool.and_eq_true] at q;exact ⟨_,a.1,rfl,hs,(Codec.inNat_iff.mp q.1.1).2,hask,fun H' p hp=>.lst (L2.SqL.of hp) (L2.EC _)⟩
theorem noMk{K:PySem.W.Frag}{C:Addr}{f:Str}(h:findIn K (.ref C) f=some none):aP K C f:=h
end NC
set_option maxRecDepth 100000 in
set_option maxHeartbeats 0 in
theorem PySem.Challenge.cw_notchcodes_s01_answers_holds : PySem.Challenge.rw_notchcodes_s01_answers.Holds := by
 w_on; k_headS; (case hw=>exact ⟨[.list [.int 7]],by decide +kernel,by decide +kernel⟩)
 k_fillS
 refine L2.BO (r:=PySem.Challenge.rw_notchcodes_s01_answers) (k:=11) (CX:=L2.CX0) (ps:=["calls"]) (sp:=NC.lO) (by decide +kernel) rfl rfl ⟨rfl,by decide,by decide⟩ (fun w h Y=>kIn_of Y) ?F ?S (fun _ _ _ _ z=>z)
 case F=>
  intro w mg fa h Y KX G hmg
  refine' NC.all_mk KX G hmg ?Ki ?Kj ?Kk ?Kl ?CU ?Km ?Kn ?Ko ?Kp ?Kq ?Kr ?Ks ?Kt ?Ku ?Kv ?Kw ?Kx ?Ky ?Kz ?KA ?CV ?CY ?CZ ?KC ?KD ?KG ?KH ?KI ?KJ ?KL ?KN ?KO ?KP ?KQ ?KR ?KS ?j6 ?jd ?je ?mY ?j7 ?mZ ?j8 ?ie ?dN ?m4 ?jf ?j9 ?kb ?d8 ?kc ?jg ?d9 ?m6 ?ke ?ig ?kg ?kh ?m7 ?ki ?m8 ?m9 ?ng ?nh ?ee ?df ?ni ?nj ?ny ?ij ?jh ?nz ?ji ?jj ?kj ?kl ?nE ?nF ?dC ?eu ?dO ?nG ?nI ?uA ?km ?yP ?yQ ?eA ?fu ?eB ?fz ?ik ?fC ?fF ?fJ ?il ?jk ?KU ?C0 ?kn ?jl ?fP ?fQ ?jm ?ip ?cK ?cQ ?jo ?nJ ?fR ?iq ?ko ?eC ?uC ?KW ?Dc ?Dd ?jq ?De ?uD ?Df ?Dg ?Dh ?Di ?yR ?ir ?aA ?lA ?aS ?lS ?U0 ?U1 ?U2 ?U3 ?U4 ?U5 ?U6 ?U7 ?U8 ?U9 ?PJ ?PL ?PM ?PN ?PQ ?PR ?PU ?PV ?PX ?Va ?fa1 ?Vb ?Vc ?Vd ?Ve ?Vf ?Vg ?Vh ?Vi ?PY ?PZ ?P0 ?P8 ?P9 ?Qa ?Qb ?Qc ?Qe ?kr ?ku ?nM ?iu ?jr ?kx ?iw ?kz ?nO ?fU ?uE ?iy ?eE ?iz ?iA ?fX ?kD ?js ?qw ?jt ?dP ?kE ?cT ?fY ?uF ?qx ?cY ?eF ?dD ?ju ?eG ?nR ?uG ?nV ?jv ?iB ?kJ ?nX
  (case Ki | Kj | Kk | Kl | CU | Km | Kn | Ko | aA | lA | aS | lS=>k_is)
  (case Kp | Ks | Kv | Ky | CV | KC=>(refine' NC.clsMk ?a ?b ?c ?d; (case a | b | c | d=>k_is)))
  (case Kq | Kr | Kt | Ku | Kw | Kx | Kz | KA | CY | CZ | KD | KG | KI | KJ | KL | KO | KP | KQ | KR | KS=>k_is)
  (case KH | KN=>(refine' NC.xclsMk ?a; (case a=>k_is)))
  (case j6 | jd | je | mY | j7 | mZ | j8 | ie | dN | m4 | jf | j9 | kb | d8 | kc | jg | d9 | m6 | ke | ig | kg | kh=>(refine' NC.noMk ?a; (case a=>k_is)))
  (case m7 | ki | m8 | m9 | ng | nh | ee | df | ni | nj | ny | ij | jh | nz | ji | jj | kj | kl | nE | nF | dC | eu | dO | nG | nI=>(refine' NC.meA ?a ?i ?l ?c ?k; (case a | i | l | c | k=>k_is)))
  (case uA | km | yP | yQ | eA | fu | eB | fz | ik | fC | fF | fJ | il | jk | KU | C0 | kn | jl | fP | fQ | jm | ip | cK | cQ | jo | nJ | fR | iq | ko | eC | uC=>(refine' NC.ctA ?a; (case a=>k_is)))
  (case KW=>(refine' NC.strMk ?a; (case a=>k_is)))
  (case Dc | Dd | jq | De | uD | Df | Dg | Dh | Di | yR | ir=>(refine' NC.nogMk ?a; (case a=>k_is)))
  (case U0 | U1 | U2 | U3 | U4 | U5 | U6 | U7 | U8 | U9 | PJ | PL | PM | PN | PQ | PR | PU | PV | PX=>(refine' NC.PH ?a; (case a=>k_is)))
  (case Va | fa1 | Vb | Vc | Vd | Ve | Vf | Vg | Vh | Vi | PY | PZ | P0 | P8 | P9 | Qa | Qb | Qc | Qe=>(refine' NC.fnE ?l ?c ?k; (case l | c | k=>k_is)))
  (case kr | ku | nM | iu | jr | kx | iw | kz | nO | fU | uE | iy | eE | iz | iA | fX | kD | js | qw | jt | dP | kE | cT | fY | uF | qx | cY | eF | dD | ju | eG | nR | uG | nV | jv | iB | kJ | nX=>(refine' NC.fnA ?a ?l ?c ?k; (case a | l | c | k=>k_is)))
 case S=>
  intro K H xs a hO hwi hask hx;cases hx with
  | cons h1 h2=>
   cases h2;cases h1 with
   | lst hs ha=>
    have e:=L2.ED a.1 _ ha;subst e;exact NC.case_s a hwi hask hs
