import PyProof.Rows.All
import Wide.All
import OpenK.AllK
import PySem.Challenge.RW_deedloom_k52_tables_do_the_same
set_option genSizeOf false
set_option compiler.extract_closed false
set_option Elab.async false
set_option linter.all false
set_option maxRecDepth 100000
set_option linter.all false
namespace Zq
open PySem
def zq0:=@Nat.le_refl
def zq1:=@List.length_map
def zq2:=@List.mem_singleton
def zq3:=@List.length_append
def zq4:=@List.getElem?_eq_getElem
def zq5:=@List.mem_cons_of_mem
def zq6:=@List.mem_cons
def zq7:=@Bool.false_ne_true
def zq8:=@List.mem_of_getElem?
def zq9:=@Heap.lt_size
def zq10:=@List.getElem?_eq_some_iff
noncomputable def bM:=@List.getElem?_map
noncomputable def c9:=@Heap.get?_push_of_some
noncomputable def cc:=@Nat.zero_le
noncomputable def cm:=@Nat.ne_of_lt
noncomputable def cy:=@List.length_singleton
def zq16:=@List.mem_append
noncomputable def cD:=@List.map_append
noncomputable def cL:=@Nat.le_trans
noncomputable def cM:=@List.map_cons
def zq20:=@List.mem_map
noncomputable def d8:=@Heap.get?_push_size
noncomputable def d9:=@List.length_take
noncomputable def dc:=@Bool.and_eq_true
noncomputable def dA:=@Nat.lt_of_lt_of_le
noncomputable def dB:=@List.length_cons
noncomputable def dF:=@Int.toNat_natCast
noncomputable def dG:=@List.take_succ_eq_append_getElem
noncomputable def dJ:=@List.mem_cons_self
noncomputable def dY:=@List.mem_append_right
noncomputable def dZ:=@List.take_length
noncomputable def eM:=@List.size_toArray
noncomputable def eN:=@List.getD_eq_getElem?_getD
noncomputable def fc:=@Int.emod_nonneg
def zq34:=@List.mem_range
def zq35:=@Option.map_eq_some_iff
noncomputable def fj:=@List.map_map
def zq37:=@List.all_eq_true
noncomputable def g9:=@List.length_range
def zq39:=@List.mem_filter
noncomputable def gH:=@List.append_nil
def zq41:=@List.nodup_cons
noncomputable def iJ:=@List.getElem?_append_right
noncomputable def iK:=@Int.emod_lt_of_pos
noncomputable def j3:=@List.getElem?_append_left
noncomputable def jZ:=@Heap.size_push
noncomputable def k8:=@List.take_of_length_le
noncomputable def kl:=@List.mem_append_left
noncomputable def kn:=@Bool.or_eq_true
noncomputable def ko:=@List.getElem_mem
noncomputable def kq:=@List.append_assoc
noncomputable def kr:=@List.prefix_refl
noncomputable def ku:=@List.length_dropLast
noncomputable def mF:=@Nat.lt_irrefl
noncomputable def mG:=@Nat.le_of_lt
noncomputable def mH:=@Bool.eq_iff_iff
noncomputable def mI:=@Nat.le_succ
noncomputable def mJ:=@Nat.sub_self
noncomputable def mK:=@List.map_take
noncomputable def pL:=@Nat.ne_of_gt
noncomputable def pM:=@List.length_set
noncomputable def pN:=@List.any_cons
noncomputable def pO:=@List.cons_append
noncomputable def pP:=@List.lookup_cons
noncomputable def pQ:=@Int.eq_ofNat_of_zero_le
def zq65:=@List.nodup_append
noncomputable def pR:=@Nat.le_add_right
def zq67:=@List.mem_iff_getElem?
noncomputable def qR:=@List.all_cons
noncomputable def qS:=@Bool.true_and
noncomputable def qT:=@Int.one_mul
noncomputable def qU:=@Int.pow_pos
noncomputable def qV:=@Nat.min_eq_left
noncomputable def qW:=@List.foldl_append
def zq74:=@List.length_pos_iff
noncomputable def uY:=@List.getElem?_set_ne
noncomputable def uZ:=@Bool.false_and
noncomputable def v0:=@Nat.le_of_eq
def zq78:=@List.any_eq_true
noncomputable def v7:=@Nat.sub_zero
def zq80:=@List.length_eq_zero_iff
def zq81:=@List.mem_flatten
noncomputable def v8:=@List.length_mapIdx
noncomputable def v9:=@List.concat_eq_append
noncomputable def yQ:=@List.getElem?_set_self
noncomputable def yR:=@Nat.lt_succ_self
noncomputable def yS:=@List.length_drop
noncomputable def yT:=@List.filter_append
noncomputable def yV:=@Nat.min_eq_right
noncomputable def yW:=@List.not_mem_nil
noncomputable def yX:=@List.nil_append
def zq91:=@List.pairwise_lt_range
noncomputable def yY:=@List.drop_length
noncomputable def yZ:=@List.nodup_range
noncomputable def AF:=@Nat.min_le_right
noncomputable def AG:=@Option.map_some
noncomputable def AH:=@List.nodup_nil
noncomputable def AI:=@List.length_filter_le
noncomputable def AJ:=@List.drop_zero
noncomputable def AK:=@List.drop_of_length_le
def zq100:=@List.mem_flatMap
noncomputable def tu:=@List.pairwise_cons
noncomputable def tw:=@List.mem_of_mem_take
noncomputable def tD:=@List.take_append_drop
noncomputable def tE:=@List.filter_cons
noncomputable def yn:=@List.filterMap_cons
noncomputable def yo:=@List.of_mem_zip
noncomputable def yp:=@List.getElem?_replicate
noncomputable def yq:=@List.length_replicate
noncomputable def yr:=@Heap.get?_update_self
noncomputable def yt:=@Nat.lt_of_le_of_lt
noncomputable def yu:=@Int.zero_add
noncomputable def yv:=@List.getElem?_cons_succ
noncomputable def yw:=@List.filter_map
noncomputable def yx:=@List.mem_of_find?_eq_some
noncomputable def yy:=@List.countP_cons
noncomputable def yz:=@List.range_succ
noncomputable def yA:=@List.map_congr_left
noncomputable def yB:=@Nat.pow_le_pow_right
noncomputable def yC:=@List.dropLast_concat_getLast
noncomputable def yD:=@List.prefix_append
noncomputable def yE:=@Nat.lt_succ_of_lt
noncomputable def yF:=@List.foldl_cons
noncomputable def yG:=@List.exists_mem_of_ne_nil
noncomputable def yH:=@List.map_drop
noncomputable def yJ:=@List.any_map
noncomputable def yK:=@List.getElem?_range
noncomputable def yL:=@List.getLastD_eq_getLast?
noncomputable def yM:=@List.getElem?_zip_eq_some
noncomputable def yN:=@List.flatten_cons
noncomputable def yO:=@Int.le_of_lt
noncomputable def yP:=@List.getElem?_dropLast
def zq132:=@Option.isSome_iff_exists
noncomputable def Bb:=@Heap.get?_update_other
noncomputable def Bc:=@List.getElem?_toArray
noncomputable def Bd:=@List.getElem?_reverse
def zq136:=@Option.isNone_iff_eq_none
noncomputable def Be:=@List.mem_or_eq_of_mem_set
noncomputable def Bf:=@List.take_append_of_le_length
noncomputable def Bg:=@List.perm_ext_iff_of_nodup
def zq140:=@Array.getElem?_eq_some_iff
noncomputable def Bh:=@List.drop_eq_getElem_cons
noncomputable def Bi:=@List.eq_nil_or_concat
noncomputable def Bj:=@List.getLast?_eq_getElem?
noncomputable def Bl:=@List.dropLast_eq_take
def zq145:=@Option.map_eq_none_iff
end Zq
open Zq
section
open PySem PySem.Spec PyProof.Rows
namespace L2
noncomputable abbrev Key:=Sum Int Str
noncomputable def iP:Key->Value->Bool
 | .inl k,v=>Value.isInt k v
 | .inr x,v=>Value.isStrOf x v
noncomputable def G4(w:World):Key->Int
 | .inl k=>hashInt k
 | .inr x=>hashStr w x
theorem bP:∀{k:Key} {v:Value},iP k v=true->(∃i t,k=Sum.inl i/\v=Value.int i t)\/(∃x t,k=Sum.inr x/\v=Value.str x t)
 | .inl i,v,h=>by
  obtain ⟨t,e⟩:=Value.isInt_shape (k:=i) (v:=v) h;exact .inl ⟨i,t,rfl,e⟩
 | .inr x,v,h=>by obtain ⟨t,e⟩:=Value.isStrOf_shape (x:=x) (v:=v) h;exact .inr ⟨x,t,rfl,e⟩
theorem ud(i:Int)(t:Tok):iP (.inl i) (.int i t)=true:=by simp [iP,Value.isInt]
theorem ue(x:Str)(t:Tok):iP (.inr x) (.str x t)=true:=by simp [iP,Value.isStrOf]
theorem BI(a b:Int):decide ((Sum.inl a:Key)=Sum.inl b)=(a==b):=by
 by_cases e:a=b
 ·subst e;simp
 ·have h:¬(Sum.inl a:Key)=Sum.inl b:=fun q=>e (Sum.inl.inj q);rw [decide_eq_false h];exact (beq_eq_false_iff_ne.mpr e).symm
theorem BM(a b:Str):decide ((Sum.inr a:Key)=Sum.inr b)=decide (a=b):=by
 by_cases e:a=b
 ·subst e;simp
 ·have h:¬(Sum.inr a:Key)=Sum.inr b:=fun q=>e (Sum.inr.inj q);rw [decide_eq_false h,decide_eq_false e]
theorem BJ(a:Int)(b:Str):decide ((Sum.inl a:Key)=Sum.inr b)=false:=decide_eq_false (fun q=>nomatch q)
theorem BL(a:Str)(b:Int):decide ((Sum.inr a:Key)=Sum.inl b)=false:=decide_eq_false (fun q=>nomatch q)
noncomputable def bg(prog:Program)(w:World):PySem.KeyKind prog w Key where
 is:=iP
 hash:=G4 w
 inj:=fun v a b ha hb=>by
  rcases bP ha with ⟨i,t,rfl,rfl⟩ | ⟨x,t,rfl,rfl⟩
  ·rcases bP hb with ⟨j,u,rfl,e⟩ | ⟨y,u,rfl,e⟩
   ·injection e with e1 _;rw [e1]
   ·exact nomatch e
  ·rcases bP hb with ⟨j,u,rfl,e⟩ | ⟨y,u,rfl,e⟩
   ·exact nomatch e
   ·injection e with e1 _;rw [e1]
 byValue:=fun k v h=>by rcases bP h with ⟨i,t,rfl,rfl⟩ | ⟨x,t,rfl,rfl⟩<;>rfl
 pyHash:=fun hv h=>by
  rcases bP hv with ⟨i,t,rfl,rfl⟩ | ⟨x,t,rfl,rfl⟩
  ·exact wpAny_pyHash_int h
  ·exact wpAny_pyHash_str h
 eqBool:=fun hu hv h=>by
  rcases bP hu with ⟨i,t,rfl,rfl⟩ | ⟨x,t,rfl,rfl⟩
  ·rcases bP hv with ⟨j,u,rfl,rfl⟩ | ⟨y,u,rfl,rfl⟩
   ·rw [BI] at h;exact wpAny_eqBool_int h
   ·rw [BJ] at h;exact SeqAt.EqAt.int_str i t y u _ _ _ _ h
  ·rcases bP hv with ⟨j,u,rfl,rfl⟩ | ⟨y,u,rfl,rfl⟩
   ·rw [BL] at h;exact SeqAt.EqAt.str_int x t j u _ _ _ _ h
   ·rw [BM] at h;exact wpAny_eqBool_str h
 «strs»:=fun k x t v h=>by
  rcases bP h with ⟨i,u,rfl,e⟩ | ⟨y,u,rfl,e⟩
  ·exact nomatch e
  ·injection e with e1 _;subst e1
   cases v<;>rfl
theorem oh(prog:Program)(w:World)(i:Int)(t:Tok):(bg prog w).is (.inl i) (.int i t)=true:=ud i t
theorem oi(prog:Program)(w:World)(x:Str)(t:Tok):(bg prog w).is (.inr x) (.str x t)=true:=ue x t
end L2
namespace L2
inductive V where
 |non | bl (b:Bool) | int (i:Int) | str (x:Str) | byt (b:Array UInt8) | flt (b:UInt64) | ref (a:Addr) | ty (n:String)
 deriving DecidableEq
noncomputable def RelV:V->Value->Prop
 | .non,u=>u=Value.none
 | .bl b,u=>u=Value.bool b
 | .int i,u=>∃t,u=Value.int i t
 | .str x,u=>∃t,u=Value.str x t
 | .byt b,u=>∃t,u=Value.bytes b t
 | .flt b,u=>∃t,u=Value.float b t
 | .ref a,u=>u=Value.ref a
 | .ty n,u=>u=Value.type n
noncomputable abbrev Vals:List V->List Value->Prop:=Paired RelV
theorem Vals.length{xs:List V}{us:List Value}(r:Vals xs us):xs.length=us.length:=Paired.length r
theorem Vals.get:∀{xs:List V} {us:List Value} {i:Nat} {x:V},Vals xs us->xs[i]?=some x->∃u,us[i]?=some u/\RelV x u
 |_,_,_,_,.nil,e=>by simp at e
 |_,_,0,_,.cons r _,e=>by simp at e;subst e;exact ⟨_,rfl,r⟩
 |_,_,i+1,x,.cons _ t,e=>by obtain ⟨u,h1,h2⟩:=Vals.get (i:=i) (x:=x) t (by simpa using e);exact ⟨u,by simpa using h1,h2⟩
theorem Vals.set{x:V}{u:Value}(r:RelV x u):∀{xs:List V} {us:List Value} (i:Nat),Vals xs us->Vals (xs.set i x) (us.set i u)
 |_,_,_,.nil=>.nil
 |_,_,0,.cons _ t=>.cons r t
 |_,_,i+1,.cons q t=>.cons q (Vals.set r i t)
theorem Vals.append:∀{xs ys:List V} {us ws:List Value},Vals xs us->Vals ys ws->Vals (xs++ys) (us++ws)
 |_,_,_,_,.nil,s=>s
 |_,_,_,_,.cons r t,s=>.cons r (Vals.append t s)
theorem Vals.take:∀{xs:List V} {us:List Value} (n:Nat),Vals xs us->Vals (xs.take n) (us.take n)
 |_,_,0,_=>.nil
 |_,_,_+1,.nil=>.nil
 |_,_,n+1,.cons r t=>.cons r (Vals.take n t)
theorem Vals.drop:∀{xs:List V} {us:List Value} (n:Nat),Vals xs us->Vals (xs.drop n) (us.drop n)
 |_,_,0,r=>r
 |_,_,_+1,.nil=>.nil
 |_,_,n+1,.cons _ t=>Vals.drop n t
noncomputable def RelO:Option V->Option Value->Prop
 |some v,some u=>RelV v u
 |none,none=>True
 |_,_=>False
noncomputable def KV{κ:Type}:List (κ×V)->List (κ×Value)->Prop:=Paired fun (p:κ×V) (q:κ×Value)=>p.1=q.1/\RelV p.2 q.2
noncomputable def kV:Key->V
 | .inl i=>.int i
 | .inr x=>.str x
inductive HO where
 /-- a list -/
 |lst (xs:List V)
 /-- a tuple (never changes) -/
 |tup (xs:List V)
 /-- a dict whose keys are ints and texts;one whose keys are tuples of ints and texts (the empty one is both) -/
 |dK (kvs:List (Key×V)) | dT (kvs:List (List Key×V))
 /-- a set of ints: its members,its size -/
 |set (S:Int->Bool) (n:Nat)
 /-- an instance of the class at C,its dict at dx,its attributes -/
 |ins (C dx:Addr) (fs:List (Str×V))
 /-- the dict of the instance at x -/
 |own (x:Addr)
 /-- the dict of an exception -/
 |xd (fs:List (Str×V))
 /-- a bound method,f of x -/
 |met (f x:Addr)
 /-- a range object lo,lo+1,.. below hi -/
 |rng (lo hi:Int)
 /-- a thing that is known to the object (the script;a dict while a loop walks it): read,never written while it is so -/
 |frz (o:Obj) (u:HO)
 /-- a code object's table -/
 |tbl (ps:Array Value)
 /-- any other thing,by what is true of its one object (a def of one's own: SetO a S n:=HO.ext fun h=>..) -/
 |ext (φ:Heap->Prop)
noncomputable abbrev Hp:=Addr->Option HO
variable {b:Addr} {u:HO}
noncomputable def upd(H:Hp)(a:Addr)(o:HO):Hp:=fun b=>if b=a then some o else H b
theorem af{H:Hp}{a:Addr}{o:HO}:upd H a o a=some o:=by unfold upd;rw [if_pos rfl]
theorem av{H:Hp}{a:Addr}{o:HO}(h:b≠a):upd H a o b=H b:=by unfold upd;rw [if_neg h]
theorem Ar{H:Hp}{a:Addr}{o:HO}:upd (upd H a o) a u=upd H a u:=by funext b;unfold upd;split<;>rfl
theorem df{H:Hp}{a:Addr}{o:HO}(h:H a=some o)(h':H b=some u)(d:o≠u):a≠b:=by intro e;subst e;rw [h] at h';exact d (Option.some.inj h')
theorem ao{H:Hp}{a:Addr}{o:HO}(h:H a=some o)(h':H b=none):a≠b:=by intro e;subst e;rw [h] at h';cases h'
section
variable (P:Program) (w:World)
noncomputable def ObjOk(H:Hp)(h:Heap)(a:Addr):HO->Prop
 | .lst xs=>xs.length<=sizeLine/\∃(its:List Value)(n:Nat),Vals xs its/\h.get? a=some {cls:=.type "list",data:=.seq its.toArray n}
 | .tup xs=>xs.length<=sizeLine/\∃its:List Value,Vals xs its/\IsTup h a its.toArray
 | .dK kvs=>kvs.length<=sizeLine/\(a==sysModules)=false/\∃vs,KV kvs vs/\h.DictOf (bg P w) a vs
 | .dT kvs=>kvs.length<=sizeLine/\(a==sysModules)=false/\∃xs:List (List Key×Addr×Value),
   Paired (fun (p:List Key×V) (q:List Key×Addr×Value)=>p.1=q.1/\H q.2.1=some (.tup (p.1.map kV))/\RelV p.2 q.2.2) kvs xs/\
   ∃o es ep,h.get? a=some o/\o.ExactDict/\o.data=.dict es ep/\es.toList=xs.map (entryOfKey (tupleKind (bg P w)))/\(xs.map (·.1)).Nodup
 | .set S n=>h.SetOf (intKind P w) a S n
 | .ins C dx fs=>H dx=some (.own a)/\fs.length<=1000/\dx≠a/\h.get? a=some (W.instObj C dx)/\
   ∃mA,h.Ns1 dx mA/\(∀f,RelO (fs.lookup f) (mA f))/\PySem.Within mA (fs.map (·.1))
 | .own _=>∃o,h.get? a=some o
 | .xd fs=>∃mA,h.Ns1 a mA/\∀f,RelO (fs.lookup f) (mA f)
 | .rng lo hi=>∃t u v,h.get? a=some {cls:=.type "range",data:=.fields #[.int lo t,.int hi u,.int 1 v]}
 | .frz o u=>h.get? a=some o/\ObjOk H h a u
 | .tbl ps=>h.get? a=some {cls:=.none,data:=.fields ps}
 | .met f x=>h.get? a=some (W.methodObj (.ref f) (.ref x))
 | .ext φ=>φ h/\(∃o,h.get? a=some o)/\∀h1 h2:Heap,φ h1->(∀o,h1.get? a=some o->h2.get? a=some o)->φ h2
noncomputable def HOk(H:Hp)(h:Heap):Prop:=∀a o,H a=some o->ObjOk P w H h a o
end
section
variable {P:Program} {w:World} {H H':Hp} {h h':Heap} {a:Addr} {o:HO}
theorem ObjOk.lt(x:ObjOk P w H h a o):a<h.objs.size:=by
 cases o with
 |lst xs=>obtain ⟨_,_,_,_,e⟩:=x;exact zq9 e
 |tup xs=>obtain ⟨_,_,_,p⟩:=x;exact p.lt
 |dK kvs=>obtain ⟨_,_,_,_,o,_,_,e,_⟩:=x;exact zq9 e
 |dT kvs=>obtain ⟨_,_,_,_,o,_,_,e,_⟩:=x;exact zq9 e
 |set S n=>obtain ⟨o,_,_,_,e,_⟩:=x;exact zq9 e
 |ins C dx fs=>obtain ⟨_,_,_,e,_⟩:=x;exact zq9 e
 |own y=>obtain ⟨_,e⟩:=x;exact zq9 e
 |xd fs=>obtain ⟨_,⟨_,_,_,e,_⟩,_⟩:=x;exact zq9 e
 |rng lo hi=>obtain ⟨_,_,_,e⟩:=x;exact zq9 e
 |frz ob u=>obtain ⟨e,_⟩:=x;exact zq9 e
 |tbl ps=>exact zq9 (show h.get? a=some _ from x)
 |met f y=>exact zq9 (show h.get? a=some _ from x)
 |ext φ=>obtain ⟨_,⟨_,e⟩,_⟩:=x;exact zq9 e
theorem Paired.mapP{α β:Type}{F G:α->β->Prop}:∀{l₁:List α} {l₂:List β},Paired F l₁ l₂->(∀a b,F a b->G a b)->Paired G l₁ l₂
 |_,_,.nil,_=>.nil
 |_,_,.cons r t,f=>.cons (f _ _ r) (Paired.mapP t f)
theorem ObjOk.stay(x:ObjOk P w H h a o)(k:∀b u,(b=a\/H b=some (.own a))->h.get? b=some u->h'.get? b=some u)
  (ho:∀b,H b=some (.own a)->H' b=some (.own a)) (ht:∀b xs,H b=some (.tup xs)->H' b=some (.tup xs)):ObjOk P w H' h' a o:=by
 induction o with
 |lst xs=>obtain ⟨z,its,n,r,e⟩:=x;exact ⟨z,its,n,r,k _ _ (.inl rfl) e⟩
 |tup xs=>obtain ⟨z,its,r,ob,e,c⟩:=x;exact ⟨z,its,r,ob,k _ _ (.inl rfl) e,c⟩
 |dK kvs=>obtain ⟨z,y,vs,r,ob,es,ep,e,c⟩:=x;exact ⟨z,y,vs,r,ob,es,ep,k _ _ (.inl rfl) e,c⟩
 |dT kvs=>
  obtain ⟨z,y,xs,r,ob,es,ep,e,c⟩:=x;exact ⟨z,y,xs,Paired.mapP r fun p q z=>⟨z.1,ht _ _ z.2.1,z.2.2⟩,ob,es,ep,k _ _ (.inl rfl) e,c⟩
 |set S n=>obtain ⟨ob,es,ep,t,e,c⟩:=x;exact ⟨ob,es,ep,t,k _ _ (.inl rfl) e,c⟩
 |ins C dx fs=>
  obtain ⟨d,z,ne,e,mA,⟨od,es,ep,e2,c⟩,r⟩:=x;exact ⟨ho _ d,z,ne,k _ _ (.inl rfl) e,mA,⟨od,es,ep,k _ _ (.inr d) e2,c⟩,r⟩
 |own y=>obtain ⟨ob,e⟩:=x;exact ⟨ob,k _ _ (.inl rfl) e⟩
 |xd fs=>obtain ⟨mA,⟨od,es,ep,e,c⟩,r⟩:=x;exact ⟨mA,⟨od,es,ep,k _ _ (.inl rfl) e,c⟩,r⟩
 |rng lo hi=>obtain ⟨t,u,v,e⟩:=x;exact ⟨t,u,v,k _ _ (.inl rfl) e⟩
 |frz ob u ih=>obtain ⟨e,q⟩:=x;exact ⟨k _ _ (.inl rfl) e,ih q⟩
 |tbl ps=>
  have e:h.get? a=some {cls:=.none,data:=.fields ps}:=x;show h'.get? a=some {cls:=.none,data:=.fields ps};exact k a _ (.inl rfl) e
 |met f y=>
  have e:h.get? a=some (W.methodObj (.ref f) (.ref y)):=x;show h'.get? a=some (W.methodObj (.ref f) (.ref y));exact k a _ (.inl rfl) e
 |ext φ=>obtain ⟨p,⟨o,e⟩,st⟩:=x;exact ⟨st _ _ p fun o q=>k _ _ (.inl rfl) q,⟨o,k _ _ (.inl rfl) e⟩,st⟩
theorem HOk.lt(x:HOk P w H h)(e:H a=some o):a<h.objs.size:=(x a o e).lt
theorem HOk.fresh(x:HOk P w H h)(e:h.objs.size<=a):H a=none:=by
 cases q:H a with
 |none=>rfl
 |some u=>exact absurd (dA (x.lt q) e) (mF _)
theorem HOk.kept(x:HOk P w H h)(k:∀b u,h.get? b=some u->h'.get? b=some u):HOk P w H h':=fun a o e=>(x a o e).stay (fun b u _ q=>k b u q) (fun _ q=>q) fun _ _ q=>q
theorem HOk.laid(x:HOk P w H h)(k:∀b u,h.get? b=some u->h'.get? b=some u)(hp:h.objs.size<=a)(new:ObjOk P w (upd H a o) h' a o):HOk P w (upd H a o) h':=fun b u e=>by
 have hn:=x.fresh hp
 by_cases hb:b=a
 ·subst hb;rw [af] at e;cases e;exact new
 ·rw [av hb] at e;exact (x b u e).stay (fun c v _ q=>k c v q) (fun c q=>by rw [av (ao q hn)];exact q) fun c xs q=>by rw [av (ao q hn)];exact q
end
noncomputable def Rd(H:Hp)(a:Addr)(u:HO):Prop:=H a=some u\/∃o,H a=some (.frz o u)
theorem Rd.ok{P:Program}{w:World}{H:Hp}{h:Heap}{a:Addr}(r:Rd H a u)(x:HOk P w H h):ObjOk P w H h a u:=by
 rcases r with r | ⟨o,r⟩
 ·exact x a u r
 ·obtain ⟨_,q⟩:=x a _ r;exact q
noncomputable def Mut:Option HO->Prop
 |some (.lst _)=>True
 |some (.dK _)=>True
 |some (.dT _)=>True
 |some (.set _ _)=>True
 |some (.ins _ _ _)=>True
 |some (.ext _)=>True
 |_=>False
section
variable {P:Program} {w:World} {H:Hp} {h h':Heap} {x e:Addr} {o':HO}
theorem HOk.write(ok:HOk P w H h)(mu:Mut (H x))(he:e=x\/H e=some (.own x))(k:∀b u,b≠e->h.get? b=some u->h'.get? b=some u)(heo:∃u,h'.get? e=some u)
  (new:ObjOk P w (upd H x o') h' x o'):HOk P w (upd H x o') h':=fun b u q=>by
 have nown:∀c y,H c=some (.own y)->c≠x:=fun c y r z=>by subst z;rw [r] at mu;exact mu
 have ntup:∀c xs,H c=some (.tup xs)->c≠x:=fun c xs r z=>by subst z;rw [r] at mu;exact mu
 by_cases hb:b=x
 ·subst hb;rw [af] at q;cases q;exact new
 ·rw [av hb] at q
  by_cases hbe:b=e
  ·have q':H b=some (.own x):=by
    rcases he with z | z
    ·exact absurd (hbe.trans z) hb
    ·rw [hbe];exact z
   rw [q] at q';cases q';obtain ⟨v,hv⟩:=heo;exact ⟨v,by rw [hbe];exact hv⟩
  ·refine (ok b u q).stay (fun c v hc r=>k c v ?_ r) (fun c r=>by rw [av (nown c b r)];exact r) fun c xs r=>by rw [av (ntup c xs r)];exact r
   rcases hc with rfl | hc
   ·exact hbe
   ·rintro rfl;rcases he with z | z
    ·exact nown c b hc z
    ·rw [hc] at z;cases z;exact hb rfl
end
structure Un(fs ex:List Addr)(H H':Hp)(h h':Heap):Prop where
 keep:∀b o,h.get? b=some o->H b=none->b∉fs->b∉ex->h'.get? b=some o
 slot:∀b o,h.get? b=some o->H b=none->b∈fs->b∉ex->∃sl,h'.get? b=some {o with slots:=sl}
 free:∀b o,h.get? b=some o->H b=none->b∉ex->H' b=none
 there:∀b o,h.get? b=some o->b∉ex->∃o',h'.get? b=some o'
 tups:∀b xs,H b=some (.tup xs)->H' b=some (.tup xs)
 frzs:∀b o u,H b=some (.frz o u)->H' b=some (.frz o u)
 tbls:∀b ps,H b=some (.tbl ps)->∃more,H' b=some (.tbl (ps++more))
section
variable {fs fs' ex ex':List Addr} {H H1 H2:Hp} {h h1 h2 h':Heap} {a x e:Addr} {o:HO}
theorem Un.any(u:Un fs ex H H1 h h1){ob:Obj}(q:h.get? b=some ob)(n:H b=none)(hx:b∉ex):∃sl,h1.get? b=some {ob with slots:=sl}:=by
 by_cases hb:b∈fs
 ·exact u.slot b ob q n hb hx
 ·exact ⟨ob.slots,u.keep b ob q n hb hx⟩
theorem Un.kept(k:∀b u,h.get? b=some u->h'.get? b=some u):Un fs ex H H h h':=
 ⟨fun b ob q _ _ _=>k b ob q,fun b ob q _ _ _=>⟨ob.slots,k b ob q⟩,fun _ _ _ n _=>n,fun b ob q _=>⟨ob,k b ob q⟩,fun _ _ q=>q,fun _ _ _ q=>q,fun _ ps q=>⟨#[],by rw [q];simp⟩⟩
theorem Un.refl:Un fs ex H H h h:=Un.kept fun _ _ q=>q
theorem Un.laid(k:∀b u,h.get? b=some u->h'.get? b=some u)(hp:h.objs.size<=a)(hn:H a=none):Un fs ex H (upd H a o) h h' where
 keep:=fun b u q _ _ _=>k b u q
 slot:=fun b u q _ _ _=>⟨u.slots,k b u q⟩
 free:=fun b u q n _=>by rw [av (cm (dA (zq9 q) hp))];exact n
 there:=fun b u q _=>⟨u,k b u q⟩
 tups:=fun b xs q=>by rw [av (ao q hn)];exact q
 frzs:=fun b u xs q=>by rw [av (ao q hn)];exact q
 tbls:=fun b ps q=>⟨#[],by rw [av (ao q hn),q];simp⟩
theorem Un.write(mu:Mut (H x))(he:e=x\/H e=some (.own x))(k:∀b u,b≠e->h.get? b=some u->h'.get? b=some u)(heo:∃u,h'.get? e=some u):Un fs ex H (upd H x o) h h':=by
 have hx:∀b,H b=none->b≠x:=fun b n z=>by subst z;rw [n] at mu;exact mu
 have hb:∀b,H b=none->b≠e:=fun b n z=>by
  subst z;rcases he with r | r
  ·exact hx b n r
  ·rw [n] at r;cases r
 have hm:∀b u,H b=some u->¬Mut (some u)->b≠x:=fun b u q nm z=>by subst z;rw [q] at mu;exact nm mu
 refine ⟨fun b u q n _ _=>k b u (hb b n) q,fun b u q n _ _=>⟨u.slots,k b u (hb b n) q⟩,fun b u q n _=>by rw [av (hx b n)];exact n,fun b u q _=>?_,
  fun b xs q=>by rw [av (hm b _ q fun z=>z)];exact q,fun b u xs q=>by rw [av (hm b _ q fun z=>z)];exact q,fun b ps q=>⟨#[],by rw [av (hm b _ q fun z=>z),q];simp⟩⟩
 by_cases hbe:b=e
 ·subst hbe;exact heo
 ·exact ⟨u,k b u hbe q⟩
end
noncomputable def trk(h:Heap)(H:Hp):List Addr:=(List.range h.objs.size).filter fun a=>(H a).isSome
noncomputable def lT(h:Heap)(H:Hp):Heap:=W.hideAll h (trk h H)
theorem tY(h:Heap)(H:Hp):(lT h H).objs.size=h.objs.size:=W.hideAll_size _ _
theorem vI{h:Heap}{H:Hp}{o:Obj}(e:h.get? b=some o)(n:H b=none):(lT h H).get? b=some o:=
 W.hideAll_get _ e fun hm=>by have q:(H b).isSome=true:=(zq39.mp hm).2;rw [n] at q;simp at q
theorem zy{h:Heap}{H:Hp}{o:Obj}(e:(lT h H).get? b=some o):h.get? b=some o/\H b=none:=by
 have e':h.get? b=some o:=W.of_hideAll (trk h H) e;refine ⟨e',?_⟩
 cases q:H b with
 |none=>rfl
 |some x=>have hm:b∈trk h H:=zq39.mpr ⟨zq34.mpr (zq9 e'),by simp [q]⟩;have z:(lT h H).get? b=none:=W.hideAll_none (trk h H) hm;rw [z] at e;cases e
noncomputable def z8(g h:Heap)(L:Addr):List (Addr×Obj):=(List.range h.objs.size).filterMap fun a=>if a=L\/(g.get? a).isSome=true then none else (h.get? a).map fun o=>(a,o)
noncomputable def fD(g h:Heap)(L d:Addr):List (Addr×Obj):=(z8 g h L).filter fun p=>decide (p.1≠d)
end L2
namespace L2
structure Mod(K:W.Frag)(mg:Str->Option Value)(base:Heap):Prop where
 kin:K.In base
 glob:base.Ns mainGlobals mg
 blt:∃mb,base.Ns builtinsNs mb/\∀x:Str,x≠"__name__"->mb x=bootBuiltins x
 nolimit:base.NoLimit
structure Cx where
 prog:Program
 w:World
 K:W.Frag
 mg:Str->Option Value
 base:Heap
 A:Around
 N:List Str
 s₀:Shared
 H₀:Hp
 env:Env
 outer:List Env
 stack:List Env
 ex:List Addr
 fn:Str->Bool
 calm:Bool
 pn:List (Addr×Obj)
 xe:Value->Shared->Prop
noncomputable def frs(l:List Env):List Addr:=l.filterMap (·.frame)
noncomputable abbrev Cx.fs (X:Cx):List Addr:=frs X.outer
noncomputable def Vis(sc:Scope)(x:Str):Prop:=sc.names.lookup x=some .local\/sc.names.lookup x=some .cell\/sc.names.lookup x=some .free
noncomputable def Loc(sc:Scope)(x:Str):Prop:=sc.names.lookup x=some .local\/sc.names.lookup x=some .cell
noncomputable def FV(env:Env)(h:Heap)(m:Str->Option Value)(x:Str)(u:Value):Prop:=
 (env.kindOf x=some .local/\m x=some u)\/((env.kindOf x=some .cell\/env.kindOf x=some .free)/\∃c,env.cells.lookup x=some c/\h.IsCell c (some u))
structure Cx.Ok(X:Cx):Prop where
 mod:Mod X.K X.mg X.base
 kind:X.env.scope.kind=.function
 glob:X.env.globals=mainGlobals
 blt:X.env.builtins=builtinsNs
 above:X.s₀.heap.objs.size<=X.env.locals
 inj:∀x y c,X.env.cells.lookup x=some c->X.env.cells.lookup y=some c->x=y
 has:∀x,(X.env.kindOf x=some .cell\/X.env.kindOf x=some .free)->∃c,X.env.cells.lookup x=some c
 cab:∀x c,X.fn x=true->X.env.cells.lookup x=some c->X.s₀.heap.objs.size<=c
 hd:X.calm=true->X.A.handled=none
 frames:X.A.frames=some X.stack
 stk:X.stack=X.outer\/(X.stack=X.env::X.outer/\X.env.frame=some X.env.locals)
 exf:∀b∈X.ex,b≠X.env.locals/\∀x c,X.env.cells.lookup x=some c->c≠b
 bs:∀b o,X.base.get? b=some o->X.s₀.heap.get? b=some o/\X.H₀ b=none
 bsz:X.base.objs.size<=X.s₀.heap.objs.size
 noex:∀b o,X.base.get? b=some o->b∉X.ex
 exfs:∀b∈X.ex,b∉X.fs
 funs:X.s₀.heap.FunFrames X.base X.outer
 frf:∀b∈X.fs,X.H₀ b=none
structure Inv(X:Cx)(pins:List (Addr×Obj))(σ:List (Option V))(H:Hp)(s:Shared):Prop where
 ok:X.Ok
 os:s.os=X.s₀.os
 bare:AllBare s.gens
 base:Un X.fs X.ex X.H₀ H X.s₀.heap s.heap
 loc:∃m,s.heap.Ns X.env.locals m/\∀(i:Nat)(x:Str)(v:V),X.N[i]?=some x->σ[i]?=some (some v)->Vis X.env.scope x->∃u,RelV v u/\FV X.env s.heap m x u
 cell:∀x c,X.env.cells.lookup x=some c->∃v,s.heap.IsCell c v
 free:H X.env.locals=none
 freeC:∀x c,X.env.cells.lookup x=some c->H c=none
 pin:∀p∈X.pn++pins,s.heap.get? p.1=some p.2/\H p.1=none/\p.1≠X.env.locals/\p.1∉X.fs/\∀v,p.2.data≠.cell v
 hok:HOk X.prog X.w H s.heap
 len:σ.length=X.N.length
section
variable {X:Cx} {pins:List (Addr×Obj)} {σ:List (Option V)} {H H':Hp} {s:Shared} {h':Heap}
theorem Cx.Ok.nofr(ok:X.Ok){b:Addr}{o:Obj}(e:X.base.get? b=some o):b∉X.fs:=fun hb=>by have:=(ok.funs.mem hb).1;rw [e] at this;cases this
theorem Inv.bs(I:Inv X pins σ H s):∀b o,X.base.get? b=some o->s.heap.get? b=some o/\H b=none:=fun b o e=>⟨I.base.keep b o (I.ok.bs b o e).1 (I.ok.bs b o e).2 (I.ok.nofr e) (I.ok.noex b o e),I.base.free b o (I.ok.bs b o e).1 (I.ok.bs b o e).2 (I.ok.noex b o e)⟩
theorem Inv.bk(I:Inv X pins σ H s):∀b o,X.base.get? b=some o->s.heap.get? b=some o:=fun b o e=>(I.bs b o e).1
theorem Inv.mod(I:Inv X pins σ H s):Mod X.K X.mg X.base:=I.ok.mod
theorem Inv.kIn(I:Inv X pins σ H s):X.K.In s.heap:=I.ok.mod.kin.keeps I.bk
theorem Inv.lt(I:Inv X pins σ H s):X.env.locals<s.heap.objs.size:=let ⟨_,hn,_⟩:=I.loc;hn.lt
theorem Inv.sz(I:Inv X pins σ H s):X.s₀.heap.objs.size<=s.heap.objs.size:=cL I.ok.above (mG I.lt)
theorem Inv.nofs(I:Inv X pins σ H s){a:Addr}(h:s.heap.objs.size<=a):a∉X.fs:=fun hb=>by obtain ⟨_,o,ho,_⟩:=I.ok.funs.mem hb;exact absurd (dA (zq9 ho) (cL I.sz h)) (mF _)
theorem Inv.cne(I:Inv X pins σ H s):∀x c,X.env.cells.lookup x=some c->c≠X.env.locals:=fun x c e z=>by obtain ⟨v,o,ho,hd⟩:=I.cell x c e;obtain ⟨m,⟨o',es,ep,ho',hd',_⟩,_⟩:=I.loc;rw [z,ho'] at ho;cases ho;rw [hd'] at hd;cases hd
theorem Inv.funs(I:Inv X pins σ H s):s.heap.FunFrames X.base X.outer:=by
 have all:∀(l:List Env),(∀b∈frs l,b∈X.fs)->X.s₀.heap.FunFrames X.base l->s.heap.FunFrames X.base l:=by
  intro l
  induction l with
  |nil=>intro _ _;trivial
  |cons env r ih=>intro hs hl;obtain ⟨hk,⟨L,o,hf,hn,ho,hd⟩,hr⟩:=hl;have hL:L∈X.fs:=hs L (by unfold frs;rw [yn,hf];exact dJ);obtain ⟨sl,e⟩:=I.base.slot L o ho (I.ok.frf L hL) hL fun z=>I.ok.exfs L z hL;exact ⟨hk,⟨L,_,hf,hn,e,hd⟩,ih (fun b hb=>hs b (by unfold frs;rw [yn,hf];exact zq5 _ hb)) hr⟩
 exact all X.outer (fun _ hb=>hb) I.ok.funs
theorem Inv.stack(I:Inv X pins σ H s):s.heap.FunFrames X.base X.stack:=by
 rcases I.ok.stk with e | ⟨e,hf⟩
 ·rw [e];exact I.funs
 ·rw [e];obtain ⟨m,hn,_⟩:=I.loc;refine .cons (by rw [I.ok.kind];decide) hf hn ?_ I.funs;exact Heap.get?_none_of_le (cL I.ok.bsz I.ok.above)
theorem Inv.stkSub(I:Inv X pins σ H s):∀b∈frs X.stack,b∈X.env.locals::X.fs:=fun b hb=>by
 rcases I.ok.stk with e | ⟨e,hf⟩
 ·rw [e] at hb;exact zq5 _ hb
 ·rw [e] at hb;unfold frs at hb;rw [yn,hf] at hb;exact hb
theorem Inv.stkFree(I:Inv X pins σ H s):∀b∈frs X.stack,H b=none:=fun b hb=>by
 rcases zq6.mp (I.stkSub b hb) with e | hb
 ·rw [e];exact I.free
 ·obtain ⟨_,o,ho,_⟩:=I.ok.funs.mem hb;exact I.base.free b o ho (I.ok.frf b hb) fun z=>I.ok.exfs b z hb
theorem Inv.step{g':Array GenState}{t':Nat}{d':Drawn}{ch:List Addr}(I:Inv X pins σ H s)
  (hch:∀b∈ch,(b∈X.ex\/X.s₀.heap.objs.size<=b)/\b≠X.env.locals/\(∀x c,X.env.cells.lookup x=some c->c≠b)/\∀p∈X.pn++pins,p.1≠b)
  (keep:∀b o,b≠X.env.locals->b∉X.fs->b∉ch->s.heap.get? b=some o->H b=none->h'.get? b=some o)
  (slot:∀b o,b≠X.env.locals->b∈X.fs->b∉ch->s.heap.get? b=some o->H b=none->∃sl,h'.get? b=some {o with slots:=sl}) (free:∀b o,b∉ch->s.heap.get? b=some o->H b=none->H' b=none)
  (there:∀b o,b∉ch->s.heap.get? b=some o->∃o',h'.get? b=some o')
  (tups:∀b xs,H b=some (.tup xs)->H' b=some (.tup xs)) (frzs:∀b o u,H b=some (.frz o u)->H' b=some (.frz o u)) (tbls:∀b ps,H b=some (.tbl ps)->∃more,H' b=some (.tbl (ps++more)))
  (ns:∀m,s.heap.Ns X.env.locals m->h'.Ns X.env.locals m) (hok:HOk X.prog X.w H' h') (hg:AllBare g') :
  Inv X pins σ H' {s with heap:=h',gens:=g',drawn:=d',toks:=t'}:=by
 have neL:∀b o,X.s₀.heap.get? b=some o->b≠X.env.locals:=fun b o e=>cm (dA (zq9 e) I.ok.above);have neC:∀b o,X.s₀.heap.get? b=some o->b∉X.ex->b∉ch:=fun b o e hx hb=>by
  rcases (hch b hb).1 with z | z
  ·exact hx z
  ·exact absurd (dA (zq9 e) z) (mF _)
 have cellK:∀x c,X.env.cells.lookup x=some c->∀v,s.heap.IsCell c v->h'.IsCell c v:=fun x c e v ⟨o,ho,hd⟩=>by
  have nch:c∉ch:=fun z=>(hch c z).2.2.1 x c e rfl
  by_cases hc:c∈X.fs
  ·obtain ⟨sl,q⟩:=slot c o (I.cne x c e) hc nch ho (I.freeC x c e);exact ⟨_,q,hd⟩
  ·exact ⟨o,keep c o (I.cne x c e) hc nch ho (I.freeC x c e),hd⟩
 refine ⟨I.ok,I.os,hg,⟨fun b o e n hb hx=>?_,fun b o e n hb hx=>?_,fun b o e n hx=>?_,fun b o e hx=>?_,fun b xs e=>tups b xs (I.base.tups b xs e),fun b o xs e=>frzs b o xs (I.base.frzs b o xs e),fun b ps e=>?_⟩,?_,fun x c e=>?_,?_,fun x c e=>?_,fun p hp=>?_,hok,I.len⟩
 ·exact keep b o (neL b o e) hb (neC b o e hx) (I.base.keep b o e n hb hx) (I.base.free b o e n hx)
 ·obtain ⟨sl,e1⟩:=I.base.slot b o e n hb hx;obtain ⟨sl',e2⟩:=slot b _ (neL b o e) hb (neC b o e hx) e1 (I.base.free b o e n hx);exact ⟨sl',e2⟩
 ·obtain ⟨o',e1⟩:=I.base.there b o e hx;exact free b o' (neC b o e hx) e1 (I.base.free b o e n hx)
 ·obtain ⟨o',e1⟩:=I.base.there b o e hx;exact there b o' (neC b o e hx) e1
 ·obtain ⟨m1,e1⟩:=I.base.tbls b ps e;obtain ⟨m2,e2⟩:=tbls b _ e1;exact ⟨m1++m2,by rw [e2,Array.append_assoc]⟩
 ·obtain ⟨m,hn,hl⟩:=I.loc;refine ⟨m,ns m hn,fun i x v e1 e2 e3=>?_⟩;obtain ⟨u,r,l⟩:=hl i x v e1 e2 e3;refine ⟨u,r,?_⟩;rcases l with l | ⟨k,c,e,z⟩
  ·exact .inl l
  ·exact .inr ⟨k,c,e,cellK x c e _ z⟩
 ·obtain ⟨v,z⟩:=I.cell x c e;exact ⟨v,cellK x c e v z⟩
 ·obtain ⟨m,⟨o,_,_,ho,_⟩,_⟩:=I.loc;exact free _ o (fun z=>(hch _ z).2.1 rfl) ho I.free
 ·obtain ⟨v,o,ho,hd⟩:=I.cell x c e;exact free c o (fun z=>(hch c z).2.2.1 x c e rfl) ho (I.freeC x c e)
 ·obtain ⟨e,n,ne,nf,d⟩:=I.pin p hp;have nch:p.1∉ch:=fun z=>(hch p.1 z).2.2.2 p hp rfl;exact ⟨keep p.1 p.2 ne nf nch e n,free p.1 p.2 nch e n,ne,nf,d⟩
theorem Inv.un{t':Nat}(I:Inv X pins σ H s)(u:Un X.fs [] H H' s.heap h')(hok:HOk X.prog X.w H' h'):Inv X pins σ H' {s with heap:=h',toks:=t'}:=by obtain ⟨m,⟨o,es,ep,ho,r⟩,_⟩:=id I.loc;obtain ⟨sl,hL⟩:=u.any ho I.free (by simp);exact I.step (g':=s.gens) (d':=s.drawn) (ch:=[]) (fun _ z=>nomatch z) (fun b o _ hb _ e n=>u.keep b o e n hb (by simp)) (fun b o _ hb _ e n=>u.slot b o e n hb (by simp)) (fun b o _ e n=>u.free b o e n (by simp)) (fun b o _ e=>u.there b o e (by simp)) u.tups u.frzs u.tbls (fun m' hm=>by obtain ⟨o',es',ep',ho',r'⟩:=hm;rw [ho] at ho';cases ho';exact ⟨_,es',ep',hL,r'⟩) hok I.bare
theorem Inv.call{g':Array GenState}{t':Nat}{d':Drawn}{ch:List Addr}(I:Inv X pins σ H s)(u:Un (frs X.stack) ch H H' s.heap h')(hok:HOk X.prog X.w H' h')(hg:AllBare g')
  (hch:∀b∈ch,(b∈X.ex\/X.s₀.heap.objs.size<=b)/\b≠X.env.locals/\(∀x c,X.env.cells.lookup x=some c->c≠b)/\∀p∈X.pn++pins,p.1≠b) :
  Inv X pins σ H' {s with heap:=h',gens:=g',drawn:=d',toks:=t'}:=by
 obtain ⟨m,⟨o,es,ep,ho,r⟩,_⟩:=id I.loc;obtain ⟨sl,hL⟩:=u.any ho I.free fun z=>(hch _ z).2.1 rfl;exact I.step (ch:=ch) hch (fun b o hL hb hc e n=>u.keep b o e n (fun z=>(zq6.mp (I.stkSub b z)).elim hL hb) hc) (fun b o _ _ hc e n=>u.any e n hc) (fun b o hc e n=>u.free b o e n hc) (fun b o hc e=>u.there b o e hc) u.tups u.frzs u.tbls (fun m' hm=>by obtain ⟨o',es',ep',ho',r'⟩:=hm;rw [ho] at ho';cases ho';exact ⟨_,es',ep',hL,r'⟩) hok hg
theorem Inv.turned{t':Nat}{it:Addr}(I:Inv X pins σ H s)(k:∀b o,b≠it->s.heap.get? b=some o->h'.get? b=some o)(hn:H it=none)(hL:it≠X.env.locals)
  (h1:it∈X.ex\/X.s₀.heap.objs.size<=it) (h2:∀x c,X.env.cells.lookup x=some c->c≠it) (h3:∀p∈X.pn++pins,p.1≠it):Inv X pins σ H {s with heap:=h',toks:=t'}:=by
 have nit:∀b u,H b=some u->b≠it:=fun b u e z=>by rw [z,hn] at e;cases e
 refine I.step (g':=s.gens) (d':=s.drawn) (ch:=[it]) (fun b hb=>?_) (fun b o _ _ hc e _=>k b o (fun z=>hc (by simp [z])) e) (fun b o _ _ hc e _=>⟨o.slots,k b o (fun z=>hc (by simp [z])) e⟩) (fun _ _ _ _ n=>n)
  (fun b o hc e=>⟨o,k b o (fun z=>hc (by simp [z])) e⟩) (fun _ _ e=>e) (fun _ _ _ e=>e) (fun b ps e=>⟨#[],by rw [e];simp⟩) (fun m hm=>?_) (fun b u e=>?_) I.bare
 ·have e:b=it:=by simpa using hb
  subst e;exact ⟨h1,hL,h2,h3⟩
 ·obtain ⟨o,es,ep,ho,r⟩:=hm;exact ⟨o,es,ep,k _ o (Ne.symm hL) ho,r⟩
 ·refine (I.hok b u e).stay (fun c v hc q=>k c v ?_ q) (fun _ q=>q) fun _ _ q=>q;rcases hc with z | z
  ·rw [z];exact nit b u e
  ·exact nit c _ z
theorem Inv.tok(I:Inv X pins σ H s)(t:Nat):Inv X pins σ H {s with toks:=t}:=I.un (h':=s.heap) (t':=t) Un.refl I.hok
theorem Inv.kept{t':Nat}(I:Inv X pins σ H s)(k:∀b u,s.heap.get? b=some u->h'.get? b=some u):Inv X pins σ H {s with heap:=h',toks:=t'}:=I.un (Un.kept k) (I.hok.kept k)
theorem Inv.laid{a:Addr}{o:HO}{t':Nat}(I:Inv X pins σ H s)(k:∀b u,s.heap.get? b=some u->h'.get? b=some u)(hp:s.heap.objs.size<=a)(new:ObjOk X.prog X.w (upd H a o) h' a o):
  Inv X pins σ (upd H a o) {s with heap:=h',toks:=t'}:=I.un (Un.laid k hp (I.hok.fresh hp)) (I.hok.laid k hp new)
theorem Inv.write{x e:Addr}{o:HO}{t':Nat}(I:Inv X pins σ H s)(mu:Mut (H x))(he:e=x\/H e=some (.own x))(k:∀b u,b≠e->s.heap.get? b=some u->h'.get? b=some u)(heo:∃u,h'.get? e=some u)
  (new:ObjOk X.prog X.w (upd H x o) h' x o):Inv X pins σ (upd H x o) {s with heap:=h',toks:=t'}:=I.un (Un.write mu he k heo) (I.hok.write mu he k heo new)
theorem Inv.pins_of{pins':List (Addr×Obj)}(I:Inv X pins σ H s)(h:∀p∈pins',s.heap.get? p.1=some p.2/\H p.1=none/\p.1≠X.env.locals/\p.1∉X.fs/\∀v,p.2.data≠.cell v):Inv X pins' σ H s:=
 ⟨I.ok,I.os,I.bare,I.base,I.loc,I.cell,I.free,I.freeC,fun p hp=>(zq16.mp hp).elim (fun z=>I.pin p (kl _ z)) (h p),I.hok,I.len⟩
theorem oo{N:List Str}(hN:N.Nodup){i j:Nat}{x:Str}(a:N[i]?=some x)(b:N[j]?=some x):i=j:=by obtain ⟨h1,e1⟩:=zq10.mp a;obtain ⟨h2,e2⟩:=zq10.mp b;exact (List.getElem_inj hN).mp (e1.trans e2.symm)
theorem uP{M:Model}{A:Around}{E:Value->Shared->Prop}{i:Nat}{x:Str}{v:V}{u:Value}{Q:Unit->Shared->Prop}(I:Inv X pins σ H s)(hN:X.N.Nodup)(hi:X.N[i]?=some x)(hx:Loc X.env.scope x)(r:RelV v u)
  (h:∀s',Inv X pins (σ.set i (some v)) H s'->(∃a,Heap.SameBut a s.heap s'.heap/\(a=X.env.locals\/X.env.cells.lookup x=some a))->Q () s') (hf:X.fn x=true\/X.env.scope.names.lookup x=some .local:=by first | exact .inl rfl | exact .inr rfl | assumption):wpAny M A (storeName X.env x u) Q E s:=by
 obtain ⟨m,hn,hl⟩:=id I.loc;have hcls:(X.env.scope.kind==.class || (X.env.scope.kind==.module&&X.env.locals != X.env.globals))=false:=by rw [I.ok.kind];rfl
 have hiσ:i<σ.length:=by rw [I.len];exact (zq10.mp hi).1
 have cne:=I.cne;have tracked:∀{a:Addr} {h':Heap},(∃o,s.heap.get? a=some o/\H a=none)->Heap.SameBut a s.heap h'->HOk X.prog X.w H h':=fun {a h'} ha hs b ob e=>by
  obtain ⟨_,_,hfree⟩:=ha;refine (I.hok b ob e).stay (fun c w' hc q=>(hs.2 c ?_).trans q) (fun _ q=>q) fun _ _ q=>q;rintro rfl;rcases hc with rfl | hc
  ·rw [hfree] at e;cases e
  ·rw [hfree] at hc;cases hc
 rcases hx with hk | hk
 ·refine wpAny_storeName_local hk hn (fun h' hn' hs=>?_) hcls;obtain ⟨oL,_,_,hoL,_⟩:=id hn;refine h _ ⟨I.ok,I.os,I.bare,⟨fun b o e n hb hx=>?_,fun b o e n hb hx=>?_,I.base.free,fun b o e hx=>?_,I.base.tups,I.base.frzs,I.base.tbls⟩,⟨_,hn',fun j y v' e1 e2 e3=>?_⟩,fun y c e=>?_,I.free,I.freeC,fun p hp=>?_,tracked ⟨oL,hoL,I.free⟩ hs,by simpa using I.len⟩ ⟨_,hs,.inl rfl⟩
  ·exact (hs.2 b (cm (dA (zq9 e) I.ok.above))).trans (I.base.keep b o e n hb hx)
  ·obtain ⟨sl,e1⟩:=I.base.slot b o e n hb hx;exact ⟨sl,(hs.2 b (cm (dA (zq9 e) I.ok.above))).trans e1⟩
  ·obtain ⟨o',e1⟩:=I.base.there b o e hx;exact ⟨o',(hs.2 b (cm (dA (zq9 e) I.ok.above))).trans e1⟩
  ·by_cases hj:j=i
   ·subst hj;rw [hi] at e1;cases e1;rw [yQ hiσ] at e2
    cases e2
    exact ⟨u,r,.inl ⟨hk,by simp⟩⟩
   ·rw [uY (Ne.symm hj)] at e2;obtain ⟨u',r',q⟩:=hl j y v' e1 e2 e3;refine ⟨u',r',?_⟩;rcases q with ⟨k,e⟩ | ⟨k,c,e,z⟩
    ·refine .inl ⟨k,?_⟩;have:y≠x:=fun e=>hj (oo hN e1 (e ▸ hi));simp [this,e]
    ·exact .inr ⟨k,c,e,z.sameBut hs (cne y c e)⟩
  ·obtain ⟨w',z⟩:=I.cell y c e;exact ⟨w',z.sameBut hs (cne y c e)⟩
  ·obtain ⟨e,n,ne,nf,d⟩:=I.pin p hp;exact ⟨(hs.2 p.1 ne).trans e,n,ne,nf,d⟩
 ·have hfn:X.fn x=true:=by
   rcases hf with z | z
   ·exact z
   ·rw [z] at hk;cases hk
  obtain ⟨c,hc⟩:=I.ok.has x (.inl hk);obtain ⟨w',z⟩:=I.cell x c hc;refine wpAny_storeName_cell I.ok.kind hk hc z (fun h' hc' hs=>?_);obtain ⟨oc,hoc,hocd⟩:=id z;refine h {s with heap:=h'} ⟨I.ok,I.os,I.bare,⟨fun b o e n hb hx=>?_,fun b o e n hb hx=>?_,I.base.free,fun b o e hx=>?_,I.base.tups,I.base.frzs,I.base.tbls⟩,⟨m,hn.sameBut hs (Ne.symm (cne x c hc)),fun j y v' e1 e2 e3=>?_⟩,fun y c' e=>?_,I.free,I.freeC,fun p hp=>?_,tracked ⟨oc,hoc,I.freeC x c hc⟩ hs,by simpa using I.len⟩ ⟨c,hs,.inr hc⟩
  ·exact (hs.2 b (cm (dA (zq9 e) (I.ok.cab x c hfn hc)))).trans (I.base.keep b o e n hb hx)
  ·obtain ⟨sl,e1⟩:=I.base.slot b o e n hb hx;exact ⟨sl,(hs.2 b (cm (dA (zq9 e) (I.ok.cab x c hfn hc)))).trans e1⟩
  ·obtain ⟨o',e1⟩:=I.base.there b o e hx;exact ⟨o',(hs.2 b (cm (dA (zq9 e) (I.ok.cab x c hfn hc)))).trans e1⟩
  ·by_cases hj:j=i
   ·subst hj;rw [hi] at e1;cases e1;rw [yQ hiσ] at e2
    cases e2
    exact ⟨u,r,.inr ⟨.inl hk,c,hc,hc'⟩⟩
   ·rw [uY (Ne.symm hj)] at e2;obtain ⟨u',r',q⟩:=hl j y v' e1 e2 e3;refine ⟨u',r',?_⟩;rcases q with q | ⟨k,c',e,z'⟩
    ·exact .inl q
    ·refine .inr ⟨k,c',e,z'.sameBut hs ?_⟩;rintro rfl;exact hj (oo hN e1 (I.ok.inj _ _ _ e hc ▸ hi))
  ·by_cases hcc:c'=c
   ·subst hcc;exact ⟨_,hc'⟩
   ·obtain ⟨w2,z2⟩:=I.cell y c' e;exact ⟨w2,z2.sameBut hs hcc⟩
  ·obtain ⟨e,n,ne,nf,d⟩:=I.pin p hp;refine ⟨(hs.2 p.1 ?_).trans e,n,ne,nf,d⟩;intro q;rw [q,hoc] at e;have q':oc=p.2:=Option.some.inj e;exact d w' (by rw [<- q'];exact hocd)
theorem pA{M:Model}{A:Around}{E:Value->Shared->Prop}{i:Nat}{x:Str}{v:V}{u:Value}{Q:Unit->Shared->Prop}(I:Inv X pins σ H s)(hN:X.N.Nodup)(hi:X.N[i]?=some x)(hx:Loc X.env.scope x)(r:RelV v u)
  (h:∀s',Inv X pins (σ.set i (some v)) H s'->Q () s') (hf:X.fn x=true\/X.env.scope.names.lookup x=some .local:=by first | exact .inl rfl | exact .inr rfl | assumption):wpAny M A (storeName X.env x u) Q E s:=
 uP I hN hi hx r (fun s' I' _=>h s' I') hf
theorem Inv.call'{s':Shared}{ch:List Addr}(I:Inv X pins σ H s)(ho:s'.os=s.os)(u:Un (frs X.stack) ch H H' s.heap s'.heap)(hok:HOk X.prog X.w H' s'.heap)(hg:AllBare s'.gens)
  (hch:∀b∈ch,(b∈X.ex\/X.s₀.heap.objs.size<=b)/\b≠X.env.locals/\(∀x c,X.env.cells.lookup x=some c->c≠b)/\∀p∈X.pn++pins,p.1≠b):Inv X pins σ H' s':=by
 obtain ⟨h',g',d',t',o'⟩:=s';have e:o'=s.os:=ho;subst e;exact I.call (g':=g') (t':=t') (d':=d') u hok hg hch
end
noncomputable abbrev XK:=Value->Option Addr->Hp->Prop
noncomputable abbrev St:=List (Option V)
noncomputable abbrev VK:=V->Hp->Prop
noncomputable abbrev TE:=St->Hp->VK->Prop
noncomputable abbrev TT:=St->Hp->(Bool->Hp->Prop)->Prop
noncomputable abbrev TA:=St->Hp->(List V->Hp->Prop)->Prop
structure d4 where
 nx:St->Hp->Prop
 rt:VK
 bk:St->Hp->Prop:=fun _ _=>False
 ct:St->Hp->Prop:=fun _ _=>False
noncomputable abbrev TS:=d4->St->Hp->Prop
noncomputable def EP(X:Cx)(pins:List (Addr×Obj))(σ:St)(Q:VK)(u:Value)(s':Shared):Prop:=∃v H',Inv X pins σ H' s'/\RelV v u/\Q v H'
noncomputable def TP(X:Cx)(pins:List (Addr×Obj))(σ:St)(Q:Bool->Hp->Prop)(b:Bool)(s':Shared):Prop:=∃H',Inv X pins σ H' s'/\Q b H'
noncomputable def AP(X:Cx)(pins:List (Addr×Obj))(σ:St)(Q:List V->Hp->Prop)(us:List Value)(s':Shared):Prop:=∃vs H',Inv X pins σ H' s'/\Vals vs us/\Q vs H'
noncomputable def SP(X:Cx)(pins:List (Addr×Obj))(D:d4)(f:Flow)(s':Shared):Prop:=
 match f with
 | .next=>∃σ' H',Inv X pins σ' H' s'/\D.nx σ' H'
 | .brk=>∃σ' H',Inv X pins σ' H' s'/\D.bk σ' H'
 | .cont=>∃σ' H',Inv X pins σ' H' s'/\D.ct σ' H'
 | .ret u=>∃v σ' H',Inv X pins σ' H' s'/\RelV v u/\D.rt v H'
noncomputable def PE(X:Cx)(e:Expr)(t:TE):Prop:=
 ∀(pins:List (Addr×Obj)) (s:Shared) (σ:St) (H:Hp) (Q:VK),Inv X pins σ H s->t σ H Q->wpAny (model X.prog X.w) X.A (eval e X.env) (EP X pins σ Q) X.xe s
noncomputable def PT(X:Cx)(e:Expr)(t:TT):Prop:=
 ∀(pins:List (Addr×Obj)) (s:Shared) (σ:St) (H:Hp) (Q:Bool->Hp->Prop),Inv X pins σ H s->t σ H Q->wpAny (model X.prog X.w) X.A (isTrue e X.env (eval e X.env)) (TP X pins σ Q) X.xe s
noncomputable def PW(X:Cx)(e:Expr)(t:TT):Prop:=
 ∀(whole:Sem Value)(pins:List (Addr×Obj)) (s:Shared) (σ:St) (H:Hp) (Q:Bool->Hp->Prop),Inv X pins σ H s->t σ H Q->wpAny (model X.prog X.w) X.A (isTrue e X.env whole) (TP X pins σ Q) X.xe s
theorem PW.pt{X:Cx}{e:Expr}{t:TT}(h:PW X e t):PT X e t:=h _
noncomputable def PA(X:Cx)(es:List Expr)(t:TA):Prop:=
 ∀(pos:Pos)(pins:List (Addr×Obj)) (s:Shared) (σ:St) (H:Hp) (Q:List V->Hp->Prop),Inv X pins σ H s->t σ H Q->wpAny (model X.prog X.w) X.A (spliced (backTo pos (starEach es X.env))) (AP X pins σ Q) X.xe s
noncomputable def PS(X:Cx)(st:Stmt)(t:TS):Prop:=
 ∀(pins:List (Addr×Obj)) (s:Shared) (σ:St) (H:Hp) (D:d4),Inv X pins σ H s->t D σ H->wpAny (model X.prog X.w) X.A (exec st X.env) (SP X pins D) X.xe s
noncomputable def PSs(X:Cx)(st:List Stmt)(t:TS):Prop:=
 ∀(pins:List (Addr×Obj)) (s:Shared) (σ:St) (H:Hp) (D:d4),Inv X pins σ H s->t D σ H->wpAny (model X.prog X.w) X.A (execs st X.env) (SP X pins D) X.xe s
theorem thn{α:Type}{t:Sem α}{Q Q':α->Shared->Prop}{M:Model}{A:Around}{E:Value->Shared->Prop}{s:Shared}(h:wpAny M A t Q E s)(hQ:∀a s,Q a s->Q' a s):wpAny M A t Q' E s:=wpAny_mono h hQ fun _ _ x=>x
end L2
namespace L2
variable {u:Value} {x:Str}
section
variable {X:Cx}
theorem bin{a b:Expr}{ta tb:TE}(ha:PE X a ta)(hb:PE X b tb){pins:List (Addr×Obj)}{s:Shared}{σ:St}{H:Hp}{R:V->V->Hp->Prop}(I:Inv X pins σ H s)(h:ta σ H fun x H1=>tb σ H1 fun y H2=>R x y H2)
  {α:Type} {Q:α->Shared->Prop} {f:Value->Value->Sem α}
  (hf:∀v u s2 x y H2,Inv X pins σ H2 s2->RelV x v->RelV y u->R x y H2->wpAny (model X.prog X.w) X.A (f v u) Q X.xe s2) :
  wpAny (model X.prog X.w) X.A (eval a X.env) (fun v s₁=>wpAny (model X.prog X.w) X.A (eval b X.env) (fun u s₂=>wpAny (model X.prog X.w) X.A (f v u) Q X.xe s₂) X.xe s₁) X.xe s:=by
 refine thn (ha pins s σ H _ I h) fun v s1 hhx=>?_;obtain ⟨x,H1,I1,r1,q1⟩:=hhx;refine thn (hb pins s1 σ H1 _ I1 q1) fun u s2 hhx=>?_;obtain ⟨y,H2,I2,r2,q2⟩:=hhx;exact hf v u s2 x y H2 I2 r1 r2 q2
noncomputable def Dc(i:Nat):TE:=fun σ H Q=>∃v,σ[i]?=some (some v)/\Q v H
noncomputable def tC(v:V):TE:=fun _ H Q=>Q v H
theorem C5{i:Nat}{pos:Pos}(hN:X.N[i]?=some x)(hv:Vis X.env.scope x)(hd:(x==("__debug__":Str))=false:=by decide) (hcd:(x==("__classdict__":Str))=false:=by decide):PE X (.Name x pos) (Dc i):=by
 intro pins s σ H Q I h;obtain ⟨v,e,h⟩:=h;obtain ⟨m,hn,hl⟩:=I.loc;obtain ⟨u,r,l⟩:=hl i x v hN e hv;have fin:EP X pins σ Q u s:=⟨v,H,I,r,h⟩
 rcases l with ⟨hk,hm⟩ | ⟨hk,c,hc,hcell⟩
 ·exact wpAny_Name (wpAny_loadName_local I.ok.kind hk hn hm fin) hd
 ·rcases hk with hk | hk
  ·exact wpAny_Name (wpAny_loadName_cell I.ok.kind hk hc hcell fin) hd
  ·exact wpAny_Name (wpAny_loadName_free I.ok.kind hk hc hcell fin hcd) hd
theorem wO{i j pos}:PE X (.Constant (.int i) j pos) (tC (.int i)):=fun _ _ _ H _ I h=>wpAny_Constant_int ⟨.int i,H,I.tok _,⟨_,rfl⟩,h⟩
theorem AT{b j pos}:PE X (.Constant (.bool b) j pos) (tC (.bl b)):=fun _ _ _ H _ I h=>Constant_bool ⟨.bl b,H,I,rfl,h⟩
theorem wU{j pos}:PE X (.Constant .none j pos) (tC .non):=fun _ _ _ H _ I h=>Constant_none ⟨.non,H,I,rfl,h⟩
theorem wV{x j pos}:PE X (.Constant (.str x) j pos) (tC (.str x)):=fun _ _ _ H _ I h=>Calls.Constant_str ⟨.str x,H,I.tok _,⟨_,rfl⟩,h⟩
noncomputable def Gl(X:Cx)(x:Str):Prop:=X.env.kindOf x=some .globalImplicit
theorem gX{E:Value->Shared->Prop}{pins:List (Addr×Obj)}{s:Shared}{σ:St}{H:Hp}{pos:Pos}{Q:Value->Shared->Prop}(I:Inv X pins σ H s)(hg:Gl X x)(hm:X.mg x=some u)(h:Q u s)
 (hd:(x==("__debug__":Str))=false:=by decide):wpAny (model X.prog X.w) X.A (eval (.Name x pos) X.env) Q E s:=
 Calls.Name_function_global I.ok.kind hg (Calls.loadGlobal_global (by rw [I.ok.glob];exact I.mod.glob.keeps I.bk) hm h) hd
theorem dW{E:Value->Shared->Prop}{pins:List (Addr×Obj)}{s:Shared}{σ:St}{H:Hp}{pos:Pos}{Q:Value->Shared->Prop}(I:Inv X pins σ H s)(hg:Gl X x)(hm:X.mg x=none)(hv:bootBuiltins x=some u)(h:Q u s)
 (hn:x≠"__name__":=by decide) (hd:(x==("__debug__":Str))=false:=by decide):wpAny (model X.prog X.w) X.A (eval (.Name x pos) X.env) Q E s:=by
 obtain ⟨mb,h1,h2⟩:=I.mod.blt;exact Calls.Name_function_global I.ok.kind hg (Calls.loadGlobal_builtin (by rw [I.ok.glob];exact I.mod.glob.keeps I.bk) hm (by rw [I.ok.blt];exact h1.keeps I.bk) ((h2 x hn).trans hv) h) hd
theorem zO{v:V}{pos:Pos}(hg:Gl X x)(hm:X.mg x=some u)(r:RelV v u)(hd:(x==("__debug__":Str))=false:=by decide):PE X (.Name x pos) (tC v):=
 fun _ _ _ H _ I h=>gX I hg hm ⟨v,H,I,r,h⟩ hd
theorem zM{v:V}{pos:Pos}(hg:Gl X x)(hm:X.mg x=none)(hv:bootBuiltins x=some u)(r:RelV v u)(hn:x≠"__name__":=by decide) (hd:(x==("__debug__":Str))=false:=by decide):PE X (.Name x pos) (tC v):=
 fun _ _ _ H _ I h=>dW I hg hm hv ⟨v,H,I,r,h⟩ hn hd
variable {a b:Expr} {ta tb:TE} {pos:Pos}
noncomputable def PC(X:Cx)(op:CmpOp)(a b:Expr)(t:TE):Prop:=
 ∀(pins:List (Addr×Obj)) (s:Shared) (σ:St) (H:Hp) (Q:VK),Inv X pins σ H s->t σ H Q->
  wpAny (model X.prog X.w) X.A (eval a X.env) (fun v s₁=>wpAny (model X.prog X.w) X.A (eval b X.env) (fun u s₂=>wpAny (model X.prog X.w) X.A (compareOp op v u) (EP X pins σ Q) X.xe s₂) X.xe s₁) X.xe s
theorem w6(b:Expr){op:CmpOp}(h:op≠.In)(h2:op≠.NotIn):behindInMarks op b=false:=by
 have e1:(op==CmpOp.In)=false:=by cases op<;>first | rfl | exact absurd rfl h
 have e2:(op==CmpOp.NotIn)=false:=by cases op<;>first | rfl | exact absurd rfl h2
 cases b<;>simp [behindInMarks,e1,e2]
noncomputable def tB(t:TE):TT:=fun σ H Q=>t σ H fun x H1=>∃c,x=.bl c/\Q c H1
variable {tA tB':TT} {fD:List Expr}
noncomputable def Fx(t u:TT):TT:=fun σ H Q=>t σ H fun c H1=>if c=true then u σ H1 Q else Q false H1
noncomputable def tOr(t u:TT):TT:=fun σ H Q=>t σ H fun c H1=>if c=true then Q true H1 else u σ H1 Q
noncomputable def FE(t:TT):TT:=fun σ H Q=>t σ H fun c H1=>Q (!c) H1
noncomputable def B4(ta tb:TE):TE:=fun σ H Q=>ta σ H fun x H1=>∃c,x=.bl c/\if c=true then tb σ H1 Q else Q (.bl false) H1
noncomputable def FF(ta tb:TE):TE:=fun σ H Q=>ta σ H fun x H1=>∃c,x=.bl c/\if c=true then Q (.bl true) H1 else tb σ H1 Q
noncomputable def B8(ta:TE):TE:=fun σ H Q=>ta σ H fun x H1=>∃c,x=.bl c/\Q (.bl (!c)) H1
noncomputable def tIf(t:TT)(ta tb:TE):TE:=fun σ H Q=>t σ H fun c H1=>if c=true then ta σ H1 Q else tb σ H1 Q
end
end L2
namespace L2
noncomputable def SqL(K:W.Frag)(H:Hp)(a:Addr)(xs:List V):Prop:=
 Rd H a (.lst xs)\/
  ∃(o:Obj)(its:Array Value)(n:Nat),K.lookup a=some o/\o.cls=.type "list"/\o.dict=none/\o.data=.seq its n/\its.size<=sizeLine/\Vals xs its.toList
noncomputable def SqT(K:W.Frag)(H:Hp)(a:Addr)(xs:List V):Prop:=
 Rd H a (.tup xs)\/
  ∃(o:Obj)(its:Array Value)(n:Nat),K.lookup a=some o/\o.cls=.type "tuple"/\o.data=.seq its n/\its.size<=sizeLine/\Vals xs its.toList
noncomputable def FY:Value->Option V
 | .none=>some .non
 | .bool b=>some (.bl b)
 | .int i _=>some (.int i)
 | .str x _=>some (.str x)
 | .bytes b _=>some (.byt b)
 | .float b _=>some (.flt b)
 | .ref a=>some (.ref a)
 | .type n=>some (.ty n)
 |_=>none
theorem RelV.abs{x:V}{u:Value}(r:RelV x u):FY u=some x:=by
 cases x with
 |non=>cases r;rfl
 |bl _=>cases r;rfl
 |int _=>obtain ⟨t,rfl⟩:=r;rfl
 |str _=>obtain ⟨t,rfl⟩:=r;rfl
 |byt _=>obtain ⟨t,rfl⟩:=r;rfl
 |flt _=>obtain ⟨t,rfl⟩:=r;rfl
 |ref _=>cases r;rfl
 |ty _=>cases r;rfl
theorem RelV.inj{x y:V}{u:Value}(r:RelV x u)(q:RelV y u):x=y:=Option.some.inj (r.abs.symm.trans q.abs)
theorem Vals.inj:∀{xs ys:List V} {us:List Value},Vals xs us->Vals ys us->xs=ys
 |_,_,_,.nil,.nil=>rfl
 |_,_,_,.cons r t,.cons r' t'=>by rw [r.inj r',Vals.inj t t']
section
variable {X:Cx} {pins:List (Addr×Obj)} {σ:St} {H:Hp} {s:Shared} {a:Addr} {xs ys:List V}
theorem SqL.of{K:W.Frag}(h:H a=some (.lst xs)):SqL K H a xs:=.inl (.inl h)
theorem SqT.of{K:W.Frag}(h:H a=some (.tup xs)):SqT K H a xs:=.inl (.inl h)
theorem Inv.list(I:Inv X pins σ H s)(h:SqL X.K H a xs):∃its:List Value,Vals xs its/\PlainL s.heap a its.toArray/\xs.length<=sizeLine:=by
 rcases h with h | ⟨o,its,n,hk,hc,hd,hs,hz,r⟩
 ·obtain ⟨z,its,n,r,e⟩:=h.ok I.hok;exact ⟨its,r,⟨_,n,e,rfl,rfl,rfl⟩,z⟩
 ·refine ⟨its.toList,r,⟨o,n,I.kIn a o hk,hc,hd,by simpa using hs⟩,?_⟩;have e:=r.length;simp only [Array.length_toList] at e;omega
theorem Inv.tuple(I:Inv X pins σ H s)(h:SqT X.K H a xs):∃its:List Value,Vals xs its/\IsTup s.heap a its.toArray/\xs.length<=sizeLine:=by
 rcases h with h | ⟨o,its,n,hk,hc,hs,hz,r⟩
 ·obtain ⟨z,its,r,p⟩:=h.ok I.hok;exact ⟨its,r,p,z⟩
 ·refine ⟨its.toList,r,⟨o,I.kIn a o hk,hc,n,by simpa using hs⟩,?_⟩;have e:=r.length;simp only [Array.length_toList] at e;omega
theorem Inv.list_inj(I:Inv X pins σ H s)(h:SqL X.K H a xs)(h':SqL X.K H a ys):xs=ys:=by
 obtain ⟨its,r,⟨o,n,e,_,_,d⟩,_⟩:=I.list h;obtain ⟨its',r',⟨o',n',e',_,_,d'⟩,_⟩:=I.list h';rw [e] at e';cases e';rw [d] at d';injection d' with d1 _;have:its=its':=by simpa using congrArg Array.toList d1
 subst this;exact r.inj r'
theorem Inv.tuple_inj(I:Inv X pins σ H s)(h:SqT X.K H a xs)(h':SqT X.K H a ys):xs=ys:=by
 obtain ⟨its,r,⟨o,e,_,n,d⟩,_⟩:=I.tuple h;obtain ⟨its',r',⟨o',e',_,n',d'⟩,_⟩:=I.tuple h';rw [e] at e';cases e';rw [d] at d';injection d' with d1 _;have:its=its':=by simpa using congrArg Array.toList d1
 subst this;exact r.inj r'
end
noncomputable abbrev Cx.wish (X:Cx) (E:Value->Shared->Prop):Cx:={X with xe:=E}
noncomputable abbrev Cx.nox (X:Cx):Cx:=X.wish fun _ _=>False
theorem Cx.Ok.wish{X:Cx}(ok:X.Ok)(E:Value->Shared->Prop):(X.wish E).Ok:=
 ⟨ok.mod,ok.kind,ok.glob,ok.blt,ok.above,ok.inj,ok.has,ok.cab,ok.hd,ok.frames,ok.stk,ok.exf,ok.bs,ok.bsz,ok.noex,ok.exfs,ok.funs,ok.frf⟩
theorem Cx.Ok.unwish{X:Cx}{E:Value->Shared->Prop}(ok:(X.wish E).Ok):X.Ok:=
 ⟨ok.mod,ok.kind,ok.glob,ok.blt,ok.above,ok.inj,ok.has,ok.cab,ok.hd,ok.frames,ok.stk,ok.exf,ok.bs,ok.bsz,ok.noex,ok.exfs,ok.funs,ok.frf⟩
section
variable {X:Cx} {pins:List (Addr×Obj)} {σ:St} {H:Hp} {s:Shared} {E:Value->Shared->Prop}
theorem Inv.wish(I:Inv X pins σ H s)(E:Value->Shared->Prop):Inv (X.wish E) pins σ H s:=⟨I.ok.wish E,I.os,I.bare,I.base,I.loc,I.cell,I.free,I.freeC,I.pin,I.hok,I.len⟩
theorem Inv.unwish(I:Inv (X.wish E) pins σ H s):Inv X pins σ H s:=⟨I.ok.unwish,I.os,I.bare,I.base,I.loc,I.cell,I.free,I.freeC,I.pin,I.hok,I.len⟩
theorem SP.unwish{D:d4}{f:Flow}{s':Shared}(h:SP (X.wish E) pins D f s'):SP X pins D f s':=by
 cases f with
 |next=>obtain ⟨σ',H',I,q⟩:=h;exact ⟨σ',H',I.unwish,q⟩
 |brk=>obtain ⟨σ',H',I,q⟩:=h;exact ⟨σ',H',I.unwish,q⟩
 |cont=>obtain ⟨σ',H',I,q⟩:=h;exact ⟨σ',H',I.unwish,q⟩
 |ret u=>obtain ⟨v,σ',H',I,r,q⟩:=h;exact ⟨v,σ',H',I.unwish,r,q⟩
theorem PSs.nox{st:List Stmt}{t:TS}(h:PSs X.nox st t):PSs X st t:=fun pins s σ H D I hw=>wpAny_mono (h pins s σ H D (I.wish _) hw) (fun _ _ q=>q.unwish) fun _ _ z=>False.elim z
end
section
variable {X:Cx} {st:Stmt} {fD:List Stmt} {t u:TS} {e:Expr} {te:TE} {pos:Pos}
noncomputable def B7:TS:=fun D σ H=>D.nx σ H
noncomputable def Da(t u:TS):TS:=fun D σ H=>t {D with nx:=u D} σ H
theorem Inv.quiet{pins:List (Addr×Obj)}{σ:St}{H:Hp}{s:Shared}(I:Inv X pins σ H s):interactive X.env=false:=by simp [interactive,I.ok.kind]
noncomputable def B6(te:TE):TS:=fun D σ H=>te σ H fun _ H1=>D.nx σ H1
noncomputable def xX(te:TE):TS:=fun D σ H=>te σ H D.rt
noncomputable def D8(c:TT)(t u:TS):TS:=fun D σ H=>c σ H fun b H1=>if b=true then t D σ H1 else u D σ H1
end
noncomputable abbrev TG:=V->St->Hp->(St->Hp->Prop)->Prop
noncomputable abbrev TGs:=List V->St->Hp->(St->Hp->Prop)->Prop
noncomputable def PG(X:Cx)(target:Expr)(t:TG):Prop:=
 ∀(pins:List (Addr×Obj)) (s:Shared) (σ:St) (H:Hp) (v:V) (u:Value) (Q:St->Hp->Prop),Inv X pins σ H s->RelV v u->t v σ H Q->
  wpAny (model X.prog X.w) X.A (assign target X.env u) (fun _ s'=>∃σ' H',Inv X pins σ' H' s'/\Q σ' H') X.xe s
noncomputable def PGs(X:Cx)(ts:List Expr)(t:TGs):Prop:=
 ∀(pins:List (Addr×Obj)) (s:Shared) (σ:St) (H:Hp) (vs:List V) (us:List Value) (Q:St->Hp->Prop),Inv X pins σ H s->Vals vs us->t vs σ H Q->
  wpAny (model X.prog X.w) X.A (assignInOrder ((assignEach ts X.env).map (·.2)) us) (fun _ s'=>∃σ' H',Inv X pins σ' H' s'/\Q σ' H') X.xe s
noncomputable abbrev vg:=V->V->V->Hp->(Hp->Prop)->Prop
noncomputable def Bn(X:Cx)(t:vg):Prop:=
 ∀(pins:List (Addr×Obj)) (s:Shared) (σ:St) (H:Hp) (o i v:V) (ov iv u:Value) (Q:Hp->Prop),Inv X pins σ H s->RelV o ov->RelV i iv->RelV v u->t o i v H Q->
  wpAny (model X.prog X.w) X.A (setItem ov iv u) (fun _ s'=>∃H',Inv X pins σ H' s'/\Q H') X.xe s
section
variable {X:Cx} {pos:Pos}
noncomputable def bG(i:Nat):TG:=fun v σ H Q=>Q (σ.set i (some v)) H
theorem sg{i:Nat}{x:Str}(hN:X.N.Nodup)(hi:X.N[i]?=some x)(hx:Loc X.env.scope x)(hf:X.fn x=true\/X.env.scope.names.lookup x=some .local:=by first | exact .inl rfl | exact .inr rfl | assumption):PG X (.Name x pos) (bG i):=by intro pins s σ H v u Q I r h;exact wpAny_assign_Name (pA I hN hi hx r (fun s' I'=>⟨_,H,I',h⟩) hf)
noncomputable def DA:TGs:=fun vs σ H Q=>vs=[]/\Q σ H
noncomputable def AN(t:TG)(u:TGs):TGs:=fun vs σ H Q=>∃v r,vs=v::r/\t v σ H fun σ' H'=>u r σ' H' Q
noncomputable def DB(K:W.Frag)(n:Nat)(t:TGs):TG:=fun v σ H Q=>∃a xs,v=.ref a/\SqT K H a xs/\xs.length=n/\t xs σ H Q
noncomputable def BA(to ti:TE)(t:vg):TG:=fun v σ H Q=>to σ H fun o H1=>ti σ H1 fun i H2=>t o i v H2 fun H3=>Q σ H3
theorem C6{o i:Expr}{to ti:TE}{t:vg}(ho:PE X o to)(hi:PE X i ti)(hs:Bn X t)
  (ha:∀v,assign (.Subscript o i pos) X.env v=(do
   let ov <- holding [v] (eval o X.env)
   let iv <- holding [v,ov] (eval i X.env)
   standAt pos
   holding [v,ov,iv] (setItem ov iv v)
   release [v,ov,iv] []):=by intro _;rfl):PG X (.Subscript o i pos) (BA to ti t):=by
 intro pins s σ H v u Q I r h;rw [ha];refine wpAny_bind (wpAny_holding (thn (ho pins s σ H _ I h) fun ov s1 hhx=>?_));obtain ⟨x,H1,I1,r1,q1⟩:=hhx;refine wpAny_bind (wpAny_holding (thn (hi pins s1 σ H1 _ I1 q1) fun iv s2 hhx=>?_));obtain ⟨y,H2,I2,r2,q2⟩:=hhx;refine wpAny_bind (wpAny_standAt (wpAny_bind (wpAny_holding (thn (hs pins s2 σ H2 x y v ov iv u _ I2 r1 r2 r q2) fun _ s3 hhx=>?_))));obtain ⟨H3,I3,q3⟩:=hhx;exact wpAny_release ⟨σ,H3,I3,q3⟩
noncomputable def Aq(te:TE)(g:TG):TS:=fun D σ H=>te σ H fun x H1=>g x σ H1 D.nx
theorem Cb{i:Nat}{x:Str}{e:Expr}{te:TE}{pos':Pos}(hN:X.N.Nodup)(hi:X.N[i]?=some x)(hx:Loc X.env.scope x)(he:PE X e te)(hs:swapsWith e (some (.Name x pos')) pos.line X.env=pure false:=by rfl)(hf:X.fn x=true\/X.env.scope.names.lookup x=some .local:=by first | exact .inl rfl | exact .inr rfl | assumption):
  PS X (.Assign [.Name x pos'] e pos) (Aq te (bG i)):=by
 intro pins s σ H D I h;refine wpAny_Assign_Name (thn (he pins s σ H _ I h) fun v s1 hhx=>?_) hs;obtain ⟨y,H1,I1,r1,q1⟩:=hhx;exact pA I1 hN hi hx r1 (fun s2 I2=>⟨_,H1,I2,q1⟩) hf
end
section
variable {X:Cx} {pos:Pos}
noncomputable def xY(c:TT)(tb:TS):TS:=fun D σ H=>∃W:Nat->St->Hp->Prop,(∃m,W m σ H)/\∀m σ H,W m σ H->
 c σ H fun b H1=>if b=true then ∃N:St->Hp->Prop,(∀σ' H',N σ' H'->∃m',m'<m/\W m' σ' H')/\tb {D with nx:=N,ct:=N,bk:=D.nx} σ H1 else D.nx σ H1
end
structure It where
 go:Nat->Hp->Prop
 yld:Nat->Hp->V->Hp->Prop
 stop:Nat->Hp->Prop
noncomputable def iU(X:Cx)(pins:List (Addr×Obj))(H:Hp)(b:Addr):Prop:=
 H b=none/\b≠X.env.locals/\b∉X.fs/\(b∈X.ex\/X.s₀.heap.objs.size<=b)/\(∀x c,X.env.cells.lookup x=some c->c≠b)/\∀p∈X.pn++pins,p.1≠b
theorem Inv.fpOk{X:Cx}{pins:List (Addr×Obj)}{σ:St}{H H':Hp}{s:Shared}{b:Addr}(I:Inv X pins σ H s)(hb:s.heap.objs.size<=b)(hn:H' b=none):iU X pins H' b:=by
 refine ⟨hn,pL (dA I.lt hb),I.nofs hb,.inr (cL I.sz hb),fun x c e z=>?_,fun p hp z=>?_⟩
 ·obtain ⟨v,q⟩:=I.cell x c e;exact absurd (dA q.lt (by rw [z];exact hb)) (mF _)
 ·exact absurd (dA (zq9 (I.pin p hp).1) (by rw [z];exact hb)) (mF _)
structure kc(P:Program)(w:World)(K:W.Frag)(tg:Expr)(J:It)(fp:List Addr)(it:Addr)(tn:Nat->Heap->Prop):Prop where
 mem:it∈fp
 obj:∀i h,tn i h->∀b∈fp,∃o,h.get? b=some o/\∀v,o.data≠.cell v
 keep:∀i h h',tn i h->(∀b∈fp,∀o,h.get? b=some o->h'.get? b=some o)->tn i h'
 item:∀(X:Cx),X.prog=P->X.w=w->X.K=K->X.calm=true->∀(i:Nat)(pins:List (Addr×Obj)) (s:Shared) (σ:St) (H:Hp) (E:Value->Shared->Prop),Inv X pins σ H s->(∀b∈fp,iU X pins H b)->tn i s.heap->J.go i H->
  wpAny (model P w) X.A (pyNext (.ref it)) (fun r s1=>∃u,r=some u/\
   wpAny (model P w) X.A (letOwnedTupleGo tg (.ref it) u) (fun _ s2=>∃x H',Inv X pins σ H' s2/\RelV x u/\J.yld i H x H'/\tn (i+1) s2.heap/\∀b∈fp,H' b=none) E s1) E s
 done:∀(X:Cx),X.prog=P->X.w=w->X.K=K->X.calm=true->∀(i:Nat)(pins:List (Addr×Obj)) (s:Shared) (σ:St) (H:Hp) (E:Value->Shared->Prop),Inv X pins σ H s->(∀b∈fp,iU X pins H b)->tn i s.heap->J.stop i H->
  wpAny (model P w) X.A (pyNext (.ref it)) (fun r s1=>r=none/\Inv X pins σ H s1) E s
 self:∀(A:Around)(i:Nat)(s:Shared)(Q:Value->Shared->Prop)(E:Value->Shared->Prop),tn i s.heap->Q (.ref it) s->wpAny (model P w) A (pyIter (.ref it)) Q E s
noncomputable abbrev TI:=St->Hp->(It->Hp->Prop)->Prop
variable {P:Program}
noncomputable def PIE(X:Cx)(pins:List (Addr×Obj))(σ:St)(tg:Expr)(R:It->Hp->Prop)(itv:Value)(s2:Shared):Prop:=
 ∃(it:Addr)(fp:List Addr)(tn:Nat->Heap->Prop)(J:It)(H':Hp),itv=.ref it/\Inv X pins σ H' s2/\kc X.prog X.w X.K tg J fp it tn/\tn 0 s2.heap/\(∀b∈fp,iU X pins H' b)/\R J H'
noncomputable def PI(X:Cx)(tg iter:Expr)(wi:TI):Prop:=
 ∀(pins:List (Addr×Obj)) (s:Shared) (σ:St) (H:Hp) (R:It->Hp->Prop),Inv X pins σ H s->wi σ H R->
  wpAny (model X.prog X.w) X.A (eval iter X.env) (fun v s1=>wpAny (model X.prog X.w) X.A (pyIter v) (PIE X pins σ tg R) X.xe s1) X.xe s
theorem rM{M:Model}{A:Around}{E:Value->Shared->Prop}{s:Shared}{tg:Expr}{it:Addr}{u:Value}{o:Obj}{n:String}{vs:Array Value}{Q:Unit->Shared->Prop}(ho:s.heap.get? it=some o)(hc:o.cls=.type n)(hd:o.data=.fields vs)
 (hn:["enumerate","zip","dict_itemiterator","dict_reverseitemiterator","odict_iterator","itertools.zip_longest","itertools.pairwise"].contains n=false) (hQ:Q () s):wpAny M A (letOwnedTupleGo tg (.ref it) u) Q E s:=by
  unfold letOwnedTupleGo
  cases tg<;>first
    |exact wpAny_pure hQ
    | (cases u<;>first
        |exact wpAny_pure hQ
        | (refine wpAny_bind (wpAny_load ho ?_)
           rw [hc,hd];show wpAny M A (if (["enumerate","zip","dict_itemiterator","dict_reverseitemiterator","odict_iterator","itertools.zip_longest","itertools.pairwise"].contains n&&vs[0]?==some (rawInt _))=true then _ else _) Q E s;rw [if_neg (by intro h;rw [hn,uZ] at h;cases h)];exact wpAny_pure hQ))
noncomputable def Itl(K:W.Frag)(a:Addr):It:=
 ⟨fun i H=>∃xs x,SqL K H a xs/\xs[i]?=some x,fun i H x H'=>H'=H/\∀xs,SqL K H a xs->xs[i]?=some x,fun i H=>∃xs,SqL K H a xs/\xs.length<=i⟩
noncomputable def Itt(K:W.Frag)(a:Addr):It:=
 ⟨fun i H=>∃xs x,SqT K H a xs/\xs[i]?=some x,fun i H x H'=>H'=H/\∀xs,SqT K H a xs->xs[i]?=some x,fun i H=>∃xs,SqT K H a xs/\xs.length<=i⟩
noncomputable def Itr(lo:Int)(n:Nat):It:=⟨fun i _=>i<n,fun i H x H'=>H'=H/\x=.int (lo+i),fun i _=>n<=i⟩
theorem uR{w:World}{K:W.Frag}{tg:Expr}(a it:Addr):kc P w K tg (Itl K a) [it] it (fun i h=>h.IsListIter it a i) where
 mem:=by simp
 obj:=fun i h st b hb=>by
  have e:b=it:=by simpa using hb
  subst e;obtain ⟨o,e,c,d⟩:=st;exact ⟨o,e,fun v z=>by rw [d] at z;cases z⟩
 keep:=fun i h h' st k=>st.at fun o e=>k it (by simp) o e
 item:=by intro X hP hw hK hc i pins s σ H E I hf st hg;subst hP hw hK;obtain ⟨xs,x,hq,hx⟩:=hg;obtain ⟨its,rv,p,hz⟩:=I.list hq;obtain ⟨u,hu,ru⟩:=rv.get hx;obtain ⟨f0,f1,f2,f3,f4,f5⟩:=hf it (by simp);refine wpAny_pyNext_list_item st p.isList (x:=u) (by simpa using hu) fun h' st' sb=>?_;have I1:Inv X pins σ H {s with heap:=h'}:=I.turned (t':=s.toks) (fun b o hb e=>(sb.2 b hb).trans e) f0 f1 f3 f4 f5;obtain ⟨o,e,c,d⟩:=id st';exact ⟨u,rfl,rM (s:={s with heap:=h'}) e c d (by decide) ⟨x,H,I1,ru,⟨rfl,fun ys hy=>by rw [I.list_inj hy hq];exact hx⟩,st',fun b hb=>(hf b hb).1⟩⟩
 done:=by intro X hP hw hK hc i pins s σ H E I hf st hg;subst hP hw hK;obtain ⟨xs,hq,hx⟩:=hg;obtain ⟨its,rv,p,hz⟩:=I.list hq;obtain ⟨f0,f1,f2,f3,f4,f5⟩:=hf it (by simp);have hl:=rv.length;exact wpAny_pyNext_list_end (I.ok.hd hc) st p.isList (by simp;omega) fun h' eb=>⟨rfl,I.turned (t':=s.toks) (fun b o hb e=>eb b o hb e) f0 f1 f3 f4 f5⟩
 self:=fun _ _ _ _ _ st h=>wpAny_pyIter_listiter st h
theorem qJ{w:World}{K:W.Frag}{tg:Expr}(a it:Addr):kc P w K tg (Itt K a) [it] it (fun i h=>h.IsTupleIter it a i) where
 mem:=by simp
 obj:=fun i h st b hb=>by
  have e:b=it:=by simpa using hb
  subst e;obtain ⟨o,e,c,d⟩:=st;exact ⟨o,e,fun v z=>by rw [d] at z;cases z⟩
 keep:=fun i h h' st k=>st.at fun o e=>k it (by simp) o e
 item:=by intro X hP hw hK hc i pins s σ H E I hf st hg;subst hP hw hK;obtain ⟨xs,x,hq,hx⟩:=hg;obtain ⟨its,rv,p,hz⟩:=I.tuple hq;obtain ⟨u,hu,ru⟩:=rv.get hx;obtain ⟨f0,f1,f2,f3,f4,f5⟩:=hf it (by simp);refine wpAny_pyNext_tuple_item st (show s.heap.IsTuple a its.toArray from p) (x:=u) (by simpa using hu) fun h' st' sb=>?_;have I1:Inv X pins σ H {s with heap:=h'}:=I.turned (t':=s.toks) (fun b o hb e=>(sb.2 b hb).trans e) f0 f1 f3 f4 f5;obtain ⟨o,e,c,d⟩:=id st';exact ⟨u,rfl,rM (s:={s with heap:=h'}) e c d (by decide) ⟨x,H,I1,ru,⟨rfl,fun ys hy=>by rw [I.tuple_inj hy hq];exact hx⟩,st',fun b hb=>(hf b hb).1⟩⟩
 done:=by intro X hP hw hK hc i pins s σ H E I hf st hg;subst hP hw hK;obtain ⟨xs,hq,hx⟩:=hg;obtain ⟨its,rv,p,hz⟩:=I.tuple hq;obtain ⟨f0,f1,f2,f3,f4,f5⟩:=hf it (by simp);have hl:=rv.length;exact wpAny_pyNext_tuple_end (I.ok.hd hc) st (show s.heap.IsTuple a its.toArray from p) (by simp;omega) fun h' eb=>⟨rfl,I.turned (t':=s.toks) (fun b o hb e=>eb b o hb e) f0 f1 f3 f4 f5⟩
 self:=fun _ _ _ _ _ st h=>wpAny_pyIter_tupleiter st h
theorem qI{w:World}{K:W.Frag}{tg:Expr}(it:Addr)(lo:Int)(n:Nat):kc P w K tg (Itr lo n) [it] it (fun i h=>IsRangeIter h it (lo+(i:Nat) * 1) ((n:Int)-(i:Nat)) 1) where
 mem:=by simp
 obj:=fun i h st b hb=>by
  have e:b=it:=by simpa using hb
  subst e;exact ⟨_,st,fun v z=>by
   have z':Data.fields _=Data.cell v:=z
   cases z'⟩
 keep:=fun i h h' st k=>k it (by simp) _ st
 item:=by intro X hP hw hK hc i pins s σ H E I hf st hg;subst hP hw hK;obtain ⟨f0,f1,f2,f3,f4,f5⟩:=hf it (by simp);have W:=Walks.range (prog:=X.prog) (w:=X.w) (I.ok.hd hc) it lo 1 n;refine W.item i s _ _ hg st fun v h' tk hv st' kk=>?_;obtain ⟨t,rfl⟩:=hv;have I1:Inv X pins σ H {s with heap:=h',toks:=tk}:=I.turned (fun b o hb e=>kk b o (by simpa using hb) e) f0 f1 f3 f4 f5;refine ⟨_,rfl,rM (s:={s with heap:=h',toks:=tk}) (n:="range_iterator") st' rfl rfl (by decide) ⟨.int (lo+i),H,I1,⟨t,?_⟩,⟨rfl,rfl⟩,st',fun b hb=>(hf b hb).1⟩⟩;rw [Int.mul_one]
 done:=by intro X hP hw hK hc i pins s σ H E I hf st hg;subst hP hw hK;obtain ⟨f0,f1,f2,f3,f4,f5⟩:=hf it (by simp);exact wpAny_pyNext_range_end (I.ok.hd hc) st (by have:n<=i:=hg;omega) fun h' eb=>⟨rfl,I.turned (t':=s.toks) (fun b o hb e=>eb b o hb e) f0 f1 f3 f4 f5⟩
 self:=fun _ _ _ _ _ st h=>wpAny_pyIter_rangeiter st h
end L2
namespace L2
variable {H:Hp} {pins:List (Addr×Obj)} {s:Shared} {σ:St}
section
variable {X:Cx} {tg:Expr}
noncomputable def AO(K:W.Frag)(tl:TE):TI:=fun σ H R=>tl σ H fun x H1=>∃a,x=.ref a/\(∃xs,SqL K H1 a xs)/\R (Itl K a) H1
noncomputable def DD(K:W.Frag)(tl:TE):TI:=fun σ H R=>tl σ H fun x H1=>∃a,x=.ref a/\(∃xs,SqT K H1 a xs)/\R (Itt K a) H1
theorem oE{R:It->Hp->Prop}{E:Value->Shared->Prop}{lo hi:Int}{t u v:Tok}{tk:Nat}(I:Inv X pins σ H s)(h1:-(2 ^ 62)<=lo)(h2:lo<2 ^ 62)(h3:-(2 ^ 62)<=hi)(h4:hi<2 ^ 62)
 (q:R (Itr lo (hi-lo).toNat) H):wpAny (model X.prog X.w) X.A (pyIter (.ref s.heap.objs.size)) (PIE X pins σ tg R) E {s with heap:=s.heap.push {cls:=.type "range",data:=.fields #[.int lo t,.int hi u,.int 1 v]},toks:=tk}:=by
 refine wpAny_pyIter_range (IsRange.new ..) (small_one h1 h2 h3 h4) ?_;have I1:Inv X pins σ H {s with heap:=s.heap.push {cls:=.type "range",data:=.fields #[.int lo t,.int hi u,.int 1 v]},toks:=tk}:=I.kept fun b o e=>c9 _ e;refine ⟨(s.heap.push {cls:=.type "range",data:=.fields #[.int lo t,.int hi u,.int 1 v]}).objs.size,[(s.heap.push {cls:=.type "range",data:=.fields #[.int lo t,.int hi u,.int 1 v]}).objs.size],_,_,H,rfl,
  I1.kept (t':=tk) fun b o e=>c9 _ e,qI _ lo (hi-lo).toNat,?_,fun b hb=>?_,q⟩
 ·have e1:lo+((0:Nat):Int) * 1=lo:=by simp
  have e2:(((hi-lo).toNat:Nat):Int)-((0:Nat):Int)=Builtin.Range.rangeSize lo hi 1:=by rw [rangeSize_one];split<;>omega
  show IsRangeIter _ _ (lo+((0:Nat):Int) * 1) ((((hi-lo).toNat:Nat):Int)-((0:Nat):Int)) 1;rw [e1,e2];exact d8 _ rfl
 ·have e:b=(s.heap.push {cls:=.type "range",data:=.fields #[.int lo t,.int hi u,.int 1 v]}).objs.size:=by simpa using hb
  subst e;exact I1.fpOk (zq0 _) (I1.hok.fresh (zq0 _))
noncomputable def AQ(ta:TA):TI:=fun σ H R=>ta σ H fun vs H1=>∃j:Int,vs=[.int j]/\-(2 ^ 62)<=j/\j<2 ^ 62/\R (Itr 0 j.toNat) H1
noncomputable def vK(ta:TA):TI:=fun σ H R=>ta σ H fun vs H1=>∃i j:Int,vs=[.int i,.int j]/\(-(2 ^ 62)<=i/\i<2 ^ 62/\-(2 ^ 62)<=j/\j<2 ^ 62)/\R (Itr i (j-i).toNat) H1
theorem uz{a b:Expr}{ta:TA}{p pos:Pos}(hg:Gl X "range") (hm:X.mg "range"=none) (ha:PA X [a,b] ta) (hs:starEach [a,b] X.env=[(false,eval a X.env),(false,eval b X.env)]:=by rfl) (hs2:starEach [b] X.env=[(false,eval b X.env)]:=by rfl) :
  PI X tg (.Call (.Name "range" p) [a,b] [] pos) (vK ta):=by
 intro pins s σ H R I h;refine Call_ (dW I hg hm boot_range (PyProof.Rows.callWith_type1 (thn (ha pos pins s σ H _ I h) fun us s1 hhx=>?_) (by rw [hs,hs2]) (by rw [hs2];rfl)));obtain ⟨vs,H1,I1,r1,q1⟩:=hhx;obtain ⟨i,j,e,⟨q1,q2,q3,q4⟩,q⟩:=q1;subst e
 cases r1 with
 |cons r rr=>
  cases rr with
  |cons r' rr=>
   cases rr
   obtain ⟨t,rfl⟩:=r;obtain ⟨t',rfl⟩:=r';exact call_range_2 (oE I1 q1 q2 q3 q4 q)
noncomputable def D7(wi:TI)(g:TG)(tb:TS):TS:=fun D σ H=>wi σ H fun J H1=>∃W:Nat->Nat->St->Hp->Prop,(∃m,W 0 m σ H1)/\∀i m σ H,W i m σ H->
 (J.stop i H/\D.nx σ H)\/(J.go i H/\∃N:St->Hp->Prop,(∀σ' H',N σ' H'->∃m',m'<m/\W (i+1) m' σ' H')/\∀x H',J.yld i H x H'->g x σ H' fun σ2 H2=>tb {D with nx:=N,ct:=N,bk:=D.nx} σ2 H2)
noncomputable def gF(fp:List Addr)(h:Heap):List (Addr×Obj):=fp.filterMap fun b=>(h.get? b).map fun o=>(b,o)
theorem cK{fp:List Addr}{h:Heap}{b:Addr}{o:Obj}(hb:b∈fp)(e:h.get? b=some o):(b,o)∈gF fp h:=List.mem_filterMap.mpr ⟨b,hb,by rw [e];rfl⟩
theorem uo{fp:List Addr}{h:Heap}{p:Addr×Obj}(hp:p∈gF fp h):p.1∈fp/\h.get? p.1=some p.2:=by
 obtain ⟨b,hb,e⟩:=List.mem_filterMap.mp hp
 cases q:h.get? b with
 |none=>rw [q] at e;cases e
 |some o=>rw [q] at e;have e':(b,o)=p:=Option.some.inj e;subst e';exact ⟨hb,q⟩
theorem Inv.pinned{fp:List Addr}(I:Inv X pins σ H s)(hf:∀b∈fp,iU X pins H b)(ho:∀b∈fp,∃o,s.heap.get? b=some o/\∀v,o.data≠.cell v):Inv X (pins++gF fp s.heap) σ H s:=
 I.pins_of fun p hp=>(zq16.mp hp).elim (fun z=>I.pin p (dY _ z)) fun z=>by obtain ⟨hb,e⟩:=uo z;obtain ⟨f0,f1,f2,_⟩:=hf p.1 hb;obtain ⟨o,e',d⟩:=ho p.1 hb;rw [e] at e';cases e';exact ⟨e,f0,f1,f2,d⟩
theorem Inv.unpinned{pl:List (Addr×Obj)}(I:Inv X (pins++pl) σ H s):Inv X pins σ H s:=I.pins_of fun p hp=>I.pin p (dY _ (kl _ hp))
theorem Ca{iter:Expr}{body:List Stmt}{wi:TI}{g:TG}{tb:TS}{pos:Pos}(hp:PassesOwn (model X.prog X.w) X.A X.env X.xe)(hc:X.calm=true)(hi:PI X tg iter wi)(hg:PG X tg g)(hb:PSs X body tb)
 (hs:∀x,foldedSetIterable iter X.env x=pure x:=by intro _;rfl):PS X (.For tg iter body [] pos) (D7 wi g tb):=by
 intro pins s σ H D I h;refine wpAny_For (thn (hi pins s σ H _ I h) fun v s1 h1=>thn h1 fun itv s2 h2=>?_) hs;obtain ⟨it,fp,tn,J,H2,e,I2,T,st2,f2,W,⟨m0,w0⟩,turn⟩:=h2;subst e;have stat:∀{H':Hp},(∀b∈fp,H' b=none)->∀b∈fp,iU X pins H' b:=fun hn b hb=>⟨hn b hb,(f2 b hb).2⟩
 refine codeAny_forLoop_any (fun n s'=>∃i σ' H',Inv X pins σ' H' s'/\tn i s'.heap/\(∀b∈fp,H' b=none)/\W i n σ' H') ?_ m0 ⟨0,σ,H2,I2,st2,fun b hb=>(f2 b hb).1,w0⟩;rintro n s3 ⟨i,σ3,H3,I3,st3,fr3,w3⟩;rcases turn i n σ3 H3 w3 with ⟨stop,qn⟩ | ⟨go,N,hN,step⟩
 ·refine wpAny_passesOwn hp (thn (T.done X rfl rfl rfl hc i pins s3 σ3 H3 X.xe I3 (stat fr3) st3 stop) fun r s4 ⟨hr,I4⟩=>?_);subst hr;exact wpAny_execs_nil ⟨σ3,H3,I4,qn⟩
 ·refine wpAny_passesOwn hp (thn (T.item X rfl rfl rfl hc i pins s3 σ3 H3 X.xe I3 (stat fr3) st3 go) fun r s4 ⟨u,hr,h4⟩=>?_);subst hr;refine wpAny_passesOwn hp (thn h4 fun _ s5 hhx=>?_);obtain ⟨x,H5,I5,r5,y5,st5,fr5⟩:=hhx;have I5':=I5.pinned (stat fr5) (T.obj _ _ st5);refine wpAny_passesOwn hp (thn (hg _ s5 σ3 H5 x u _ I5' r5 (step x H5 y5)) fun _ s6 hhx=>?_);obtain ⟨σ6,H6,I6,q6⟩:=hhx;refine wpAny_passesOwn hp (thn (hb _ s6 σ6 H6 _ I6 q6) fun f s7 q7=>?_);have again:∀{σ7:St} {H7:Hp},Inv X (pins++gF fp s5.heap) σ7 H7 s7->N σ7 H7->∃m,m<n/\∃i σ' H',Inv X pins σ' H' s7/\tn i s7.heap/\(∀b∈fp,H' b=none)/\W i m σ' H':=fun {σ7 H7} I7 n7=>by obtain ⟨m',hm,w7⟩:=hN σ7 H7 n7;refine ⟨m',hm,i+1,σ7,H7,I7.unpinned,T.keep _ _ _ st5 fun b hb o e=>(I7.pin (b,o) (dY _ (dY _ (cK hb e)))).1,fun b hb=>?_,w7⟩;obtain ⟨o,e,d⟩:=T.obj _ _ st5 b hb;exact (I7.pin (b,o) (dY _ (dY _ (cK hb e)))).2.1
  cases f with
  |next=>obtain ⟨σ7,H7,I7,n7⟩:=q7;exact again I7 n7
  |cont=>obtain ⟨σ7,H7,I7,n7⟩:=q7;exact again I7 n7
  |brk=>obtain ⟨σ7,H7,I7,q7⟩:=q7;exact ⟨σ7,H7,I7.unpinned,q7⟩
  |ret v=>obtain ⟨x7,σ7,H7,I7,r7,q7⟩:=q7;exact ⟨x7,σ7,H7,I7.unpinned,r7,q7⟩
end
theorem vD{K:W.Frag}{a:Addr}{xs:List V}{g:TG}{tb:TS}{D:d4}(Pv:Nat->St->Hp->Prop)(h0:Pv 0 σ H)(hl:∀i σ H,i<=xs.length->Pv i σ H->SqL K H a xs)
 (hs:∀i x σ H,xs[i]?=some x->Pv i σ H->g x σ H fun σ2 H2=>tb {D with nx:=Pv (i+1),ct:=Pv (i+1),bk:=D.nx} σ2 H2) (hd:∀σ H,Pv xs.length σ H->D.nx σ H) :
 ∃W:Nat->Nat->St->Hp->Prop,(∃m,W 0 m σ H)/\∀i m σ H,W i m σ H->
   ((Itl K a).stop i H/\D.nx σ H)\/((Itl K a).go i H/\∃N:St->Hp->Prop,(∀σ' H',N σ' H'->∃m',m'<m/\W (i+1) m' σ' H')/\∀x H',(Itl K a).yld i H x H'->g x σ H' fun σ2 H2=>tb {D with nx:=N,ct:=N,bk:=D.nx} σ2 H2):=by
 refine ⟨fun i m σ H=>m=xs.length-i/\i<=xs.length/\Pv i σ H,⟨xs.length,by simp,cc _,h0⟩,?_⟩;rintro i m σ H ⟨rfl,hi,p⟩;have q:=hl i σ H hi p
 by_cases hlt:i<xs.length
 ·refine .inr ⟨⟨xs,xs[i],q,by simp [hlt]⟩,Pv (i+1),fun σ' H' p'=>⟨xs.length-(i+1),by omega,rfl,hlt,p'⟩,fun x H' y=>?_⟩;obtain ⟨e,y⟩:=y;subst e;exact hs i x σ _ (y xs q) p
 ·have e:i=xs.length:=by omega
  subst e;exact .inl ⟨⟨xs,q,zq0 _⟩,hd σ H p⟩
theorem tV{lo:Int}{n:Nat}{g:TG}{tb:TS}{D:d4}(Pv:Nat->St->Hp->Prop)(h0:Pv 0 σ H)
 (hs:∀i σ H,i<n->Pv i σ H->g (.int (lo+i)) σ H fun σ2 H2=>tb {D with nx:=Pv (i+1),ct:=Pv (i+1),bk:=D.nx} σ2 H2) (hd:∀σ H,Pv n σ H->D.nx σ H) :
 ∃W:Nat->Nat->St->Hp->Prop,(∃m,W 0 m σ H)/\∀i m σ H,W i m σ H->
   ((Itr lo n).stop i H/\D.nx σ H)\/((Itr lo n).go i H/\∃N:St->Hp->Prop,(∀σ' H',N σ' H'->∃m',m'<m/\W (i+1) m' σ' H')/\∀x H',(Itr lo n).yld i H x H'->g x σ H' fun σ2 H2=>tb {D with nx:=N,ct:=N,bk:=D.nx} σ2 H2):=by
 refine ⟨fun i m σ H=>m=n-i/\i<=n/\Pv i σ H,⟨n,by simp,cc _,h0⟩,?_⟩;rintro i m σ H ⟨rfl,hi,p⟩
 by_cases hlt:i<n
 ·refine .inr ⟨hlt,Pv (i+1),fun σ' H' p'=>⟨n-(i+1),by omega,rfl,hlt,p'⟩,fun x H' y=>?_⟩;obtain ⟨e,y⟩:=y;subst e y;exact hs i σ _ hlt p
 ·have e:i=n:=by omega
  subst e;exact .inl ⟨zq0 _,hd σ H p⟩
end L2
namespace L2
noncomputable abbrev R2:=V->V->Hp->VK->Prop
noncomputable def OpR(X:Cx)(f:Value->Value->Sem Value)(r:R2):Prop:=
 ∀(pins:List (Addr×Obj)) (s:Shared) (σ:St) (H:Hp) (x y:V) (v u:Value) (Q:VK),Inv X pins σ H s->RelV x v->RelV y u->r x y H Q->
  wpAny (model X.prog X.w) X.A (f v u) (EP X pins σ Q) X.xe s
noncomputable def UnR(X:Cx)(f:Value->Sem Value)(r:V->Hp->VK->Prop):Prop:=
 ∀(pins:List (Addr×Obj)) (s:Shared) (σ:St) (H:Hp) (x:V) (v:Value) (Q:VK),Inv X pins σ H s->RelV x v->r x H Q->
  wpAny (model X.prog X.w) X.A (f v) (EP X pins σ Q) X.xe s
noncomputable def dM(X:Cx)(f:Value)(r:List V->Hp->VK->Prop):Prop:=
 ∀(pins:List (Addr×Obj)) (s:Shared) (σ:St) (H:Hp) (xs:List V) (us:List Value) (Q:VK),Inv X pins σ H s->Vals xs us->r xs H Q->
  wpAny (model X.prog X.w) X.A (call f us) (EP X pins σ Q) X.xe s
noncomputable def tOp(r:R2)(ta tb:TE):TE:=fun σ H Q=>ta σ H fun x H1=>tb σ H1 fun y H2=>r x y H2 Q
noncomputable def tUn(r:V->Hp->VK->Prop)(ta:TE):TE:=fun σ H Q=>ta σ H fun x H1=>r x H1 Q
noncomputable def rI(C:Int->Int->Prop)(g:Int->Int->V):R2:=fun x y H Q=>∃i j,x=.int i/\y=.int j/\C i j/\Q (g i j) H
noncomputable def rI0(g:Int->Int->V):R2:=fun x y H Q=>∃i j,x=.int i/\y=.int j/\Q (g i j) H
noncomputable def rU(g:Int->V):V->Hp->VK->Prop:=fun x H Q=>∃i,x=.int i/\Q (g i) H
section
variable {X:Cx} {a b c:Expr} {ta tb tc:TE} {pos:Pos}
theorem Bo(ha:PE X a ta)(hb:PE X b tb){pins:List (Addr×Obj)}{s:Shared}{σ:St}{H:Hp}{R:V->V->Hp->Prop}(I:Inv X pins σ H s)
  (h:ta σ H fun x H1=>tb σ H1 fun y H2=>R x y H2) {Q:Value->Shared->Prop} {f:Value->Value->Sem Value}
  (hf:∀v u s2 x y H2,Inv X pins σ H2 s2->RelV x v->RelV y u->R x y H2->wpAny (model X.prog X.w) X.A (f v u) Q X.xe s2) :
  wpAny (model X.prog X.w) X.A (eval a X.env) (fun v s₁=>wpAny (model X.prog X.w) X.A (eval b X.env) (fun u s₂=>wpAny (model X.prog X.w) X.A (f v u) Q X.xe s₂) X.xe s₁) X.xe s:=by
 refine thn (ha pins s σ H _ I h) fun v s1 hhx=>?_;obtain ⟨x,H1,I1,r1,q1⟩:=hhx;refine thn (hb pins s1 σ H1 _ I1 q1) fun u s2 hhx=>?_;obtain ⟨y,H2,I2,r2,q2⟩:=hhx;exact hf v u s2 x y H2 I2 r1 r2 q2
theorem opI{f:Value->Value->Sem Value}{C:Int->Int->Prop}{g:Int->Int->Int}
  (rule:∀(i j:Int)(t u:Tok)(s:Shared)(Q:Value->Shared->Prop)(E:Value->Shared->Prop),C i j->Q (.int (g i j) s.toks) {s with toks:=s.toks+1}->wpAny (model X.prog X.w) X.A (f (.int i t) (.int j u)) Q E s) :
  OpR X f (rI C fun i j=>.int (g i j)):=by
 intro pins s σ H x y v u Q I rx ry h;obtain ⟨i,j,rfl,rfl,hc,q⟩:=h;obtain ⟨t,rfl⟩:=rx;obtain ⟨t',rfl⟩:=ry;exact rule i j t t' s _ _ hc ⟨.int (g i j),H,I.tok _,⟨_,rfl⟩,q⟩
theorem wF{f:Value->Value->Sem Value}{g:Int->Int->Int}
  (rule:∀(i j:Int)(t u:Tok)(s:Shared)(Q:Value->Shared->Prop)(E:Value->Shared->Prop),Q (.int (g i j) s.toks) {s with toks:=s.toks+1}->wpAny (model X.prog X.w) X.A (f (.int i t) (.int j u)) Q E s) :
  OpR X f (rI0 fun i j=>.int (g i j)):=by
 intro pins s σ H x y v u Q I rx ry h;obtain ⟨i,j,rfl,rfl,q⟩:=h;obtain ⟨t,rfl⟩:=rx;obtain ⟨t',rfl⟩:=ry;exact rule i j t t' s _ _ ⟨.int (g i j),H,I.tok _,⟨_,rfl⟩,q⟩
theorem zL{f:Value->Value->Sem Value}{g:Int->Int->Bool}
  (rule:∀(i j:Int)(t u:Tok)(s:Shared)(Q:Value->Shared->Prop)(E:Value->Shared->Prop),Q (.bool (g i j)) s->wpAny (model X.prog X.w) X.A (f (.int i t) (.int j u)) Q E s) :
  OpR X f (rI0 fun i j=>.bl (g i j)):=by
 intro pins s σ H x y v u Q I rx ry h;obtain ⟨i,j,rfl,rfl,q⟩:=h;obtain ⟨t,rfl⟩:=rx;obtain ⟨t',rfl⟩:=ry;exact rule i j t t' s _ _ ⟨.bl (g i j),H,I,rfl,q⟩
noncomputable def tF(i j:Int):Prop:=0<=j/\j<=1000000/\i.natAbs<2 ^ 64
noncomputable def CMul(i j:Int):Prop:=(-(2 ^ 64)<i/\i<2 ^ 64)\/(-(2 ^ 64)<j/\j<2 ^ 64)
theorem CMul.ok{i j:Int}(h:CMul i j):IntMulOk i j:=by
 rcases h with ⟨h1,h2⟩ | ⟨h1,h2⟩
 ·exact .of_left (intBits_le_64 h1 h2)
 ·exact .of_right (intBits_le_64 h1 h2)
theorem BW:OpR X (binaryOp .Add) (rI0 fun i j=>.int (i+j)):=wF fun _ _ _ _ _ _ _ q=>add_int q
theorem C3:OpR X (binaryOp .Sub) (rI0 fun i j=>.int (i-j)):=wF fun _ _ _ _ _ _ _ q=>sub_int q
theorem BZ:OpR X (binaryOp .Mult) (rI CMul fun i j=>.int (i * j)):=opI fun _ _ _ _ _ _ _ hc q=>mul_int q hc.ok
theorem BY:OpR X (binaryOp .Mod) (rI (fun _ j=>0<j) fun i j=>.int (i % j)):=opI fun i j _ _ _ _ _ hc q=>by have h1:(0:Int)<j:=hc;exact mod_int' (by omega) (by rw [Int.fmod_eq_emod_of_nonneg i (by omega)];exact q)
theorem C1:OpR X (binaryOp .Pow) (rI tF fun i j=>.int (i ^ j.toNat)):=opI fun _ _ _ _ _ _ _ hc q=>pow_int_small hc.1 hc.2.1 hc.2.2 q
theorem C2:OpR X (binaryOp .LShift) (rI tF fun i j=>.int (i * 2 ^ j.toNat)):=opI fun _ _ _ _ _ _ _ hc q=>lshift_int_small hc.1 hc.2.1 hc.2.2 q
theorem BX:OpR X (binaryOp .BitAnd) (rI0 fun i j=>.int (Builtin.bitAnd i j)):=wF fun _ _ _ _ _ _ _ q=>and_int q
theorem DN:OpR X (binaryOp .BitOr) (rI0 fun i j=>.int (Builtin.bitOr i j)):=wF fun _ _ _ _ _ _ _ q=>or_int q
theorem C4:OpR X (binaryOp .BitXor) (rI0 fun i j=>.int (Builtin.bitXor i j)):=wF fun _ _ _ _ _ _ _ q=>xor_int q
theorem unI{f:Value->Sem Value}{g:Int->Int}
  (rule:∀(i:Int)(t:Tok)(s:Shared)(Q:Value->Shared->Prop)(E:Value->Shared->Prop),Q (.int (g i) s.toks) {s with toks:=s.toks+1}->wpAny (model X.prog X.w) X.A (f (.int i t)) Q E s) :
  UnR X f (rU fun i=>.int (g i)):=by
 intro pins s σ H x v Q I rx h;obtain ⟨i,rfl,q⟩:=h;obtain ⟨t,rfl⟩:=rx;exact rule i t s _ _ ⟨.int (g i),H,I.tok _,⟨_,rfl⟩,q⟩
theorem De:UnR X (unaryOp .USub) (rU fun i=>.int (-i)):=unI fun _ _ _ _ _ q=>neg_int q
end
noncomputable def uI:V->V->Bool
 | .non,.non=>true | .non,.int _=>true | .int _,.non=>true | .non,.bl _=>true | .bl _,.non=>true | .non,.str _=>true | .str _,.non=>true
 | .int _,.int _=>true | .bl _,.bl _=>true | .str _,.str _=>true | .byt _,.byt _=>true
 | .int _,.str _=>true | .str _,.int _=>true | .bl _,.str _=>true | .str _,.bl _=>true
 |_,_=>false
noncomputable def rEq:R2:=fun x y H Q=>uI x y=true/\Q (.bl (decide (x=y))) H
noncomputable def rNe:R2:=fun x y H Q=>uI x y=true/\Q (.bl (!decide (x=y))) H
theorem rG{i j:Int}:decide (V.int i=V.int j)=(i==j):=by rw [mH];simp
theorem vv{i j:Bool}:decide (V.bl i=V.bl j)=(i==j):=by rw [mH];simp
theorem rH{i j:Str}:decide (V.str i=V.str j)=(i==j):=by rw [mH];simp
theorem rF{i j:Array UInt8}:decide (V.byt i=V.byt j)=(i.toList==j.toList):=by
 rw [mH]
 cases i
 cases j
 simp
section
variable {X:Cx} {a b c:Expr} {ta tb tc:TE} {pos:Pos}
theorem b9{pins:List (Addr×Obj)}{σ:St}{H:Hp}{s:Shared}{Q:VK}{k k':Bool}(I:Inv X pins σ H s)(q:Q (.bl k) H)(e:k=k'):EP X pins σ Q (.bool k') s:=by subst e;exact ⟨.bl k,H,I,rfl,q⟩
theorem aT:OpR X (compareOp .Eq) rEq:=by
 intro pins s σ H x y v u Q I rx ry h;obtain ⟨hs,q⟩:=h
 cases x with
 |non=>
  cases rx
  cases y with
  |non=>cases ry;exact PySem.EqNone.eq_none_none (b9 I q (by simp))
  |bl j=>cases ry;exact PySem.EqNone.eq_none_bool (b9 I q (by simp))
  |int j=>obtain ⟨t',rfl⟩:=ry;exact PySem.EqNone.eq_none_int (b9 I q (by simp))
  |str j=>obtain ⟨t',rfl⟩:=ry;exact PySem.EqNone.eq_none_str (b9 I q (by simp))
  |_=>exact absurd (show false=true from hs) zq7
 |bl i=>
  cases rx
  cases y with
  |non=>cases ry;exact PySem.EqNone.eq_bool_none (b9 I q (by simp))
  |bl j=>cases ry;exact eq_bool (b9 I q vv)
  |str j=>obtain ⟨t',rfl⟩:=ry;exact PySem.EqMixed.eq_bool_str (b9 I q (by simp))
  |_=>exact absurd (show false=true from hs) zq7
 |int i=>
  obtain ⟨t,rfl⟩:=rx
  cases y with
  |non=>cases ry;exact PySem.EqNone.eq_int_none (b9 I q (by simp))
  |int j=>obtain ⟨t',rfl⟩:=ry;exact eq_int (b9 I q rG)
  |str j=>obtain ⟨t',rfl⟩:=ry;exact PySem.EqMixed.eq_int_str (b9 I q (by simp))
  |_=>exact absurd (show false=true from hs) zq7
 |str i=>
  obtain ⟨t,rfl⟩:=rx
  cases y with
  |non=>cases ry;exact PySem.EqNone.eq_str_none (b9 I q (by simp))
  |bl j=>cases ry;exact PySem.EqMixed.eq_str_bool (b9 I q (by simp))
  |int j=>obtain ⟨t',rfl⟩:=ry;exact PySem.EqMixed.eq_str_int (b9 I q (by simp))
  |str j=>obtain ⟨t',rfl⟩:=ry;exact eq_str (b9 I q rH)
  |_=>exact absurd (show false=true from hs) zq7
 |byt i=>
  obtain ⟨t,rfl⟩:=rx
  cases y with
  |byt j=>obtain ⟨t',rfl⟩:=ry;exact W.eq_bytes (b9 I q rF)
  |_=>exact absurd (show false=true from hs) zq7
 |_=>cases y<;>exact absurd (show false=true from hs) zq7
theorem iT:OpR X (compareOp .NotEq) rNe:=by
 intro pins s σ H x y v u Q I rx ry h;obtain ⟨hs,q⟩:=h
 cases x with
 |non=>
  cases rx
  cases y with
  |non=>cases ry;exact PySem.EqNone.ne_none_none (b9 I q (by simp))
  |bl j=>cases ry;exact PySem.EqNone.ne_none_bool (b9 I q (by simp))
  |int j=>obtain ⟨t',rfl⟩:=ry;exact PySem.EqNone.ne_none_int (b9 I q (by simp))
  |str j=>obtain ⟨t',rfl⟩:=ry;exact PySem.EqNone.ne_none_str (b9 I q (by simp))
  |_=>exact absurd (show false=true from hs) zq7
 |bl i=>
  cases rx
  cases y with
  |non=>cases ry;exact PySem.EqNone.ne_bool_none (b9 I q (by simp))
  |bl j=>cases ry;exact ne_bool (b9 I q (congrArg not vv))
  |str j=>obtain ⟨t',rfl⟩:=ry;exact PySem.EqMixed.ne_bool_str (b9 I q (by simp))
  |_=>exact absurd (show false=true from hs) zq7
 |int i=>
  obtain ⟨t,rfl⟩:=rx
  cases y with
  |non=>cases ry;exact PySem.EqNone.ne_int_none (b9 I q (by simp))
  |int j=>obtain ⟨t',rfl⟩:=ry;exact ne_int (b9 I q (congrArg not rG))
  |str j=>obtain ⟨t',rfl⟩:=ry;exact PySem.EqMixed.ne_int_str (b9 I q (by simp))
  |_=>exact absurd (show false=true from hs) zq7
 |str i=>
  obtain ⟨t,rfl⟩:=rx
  cases y with
  |non=>cases ry;exact PySem.EqNone.ne_str_none (b9 I q (by simp))
  |bl j=>cases ry;exact PySem.EqMixed.ne_str_bool (b9 I q (by simp))
  |int j=>obtain ⟨t',rfl⟩:=ry;exact PySem.EqMixed.ne_str_int (b9 I q (by simp))
  |str j=>obtain ⟨t',rfl⟩:=ry;exact ne_str (b9 I q (congrArg not rH))
  |_=>exact absurd (show false=true from hs) zq7
 |byt i=>
  obtain ⟨t,rfl⟩:=rx
  cases y with
  |byt j=>obtain ⟨t',rfl⟩:=ry;exact W.ne_bytes (b9 I q (congrArg not rF))
  |_=>exact absurd (show false=true from hs) zq7
 |_=>cases y<;>exact absurd (show false=true from hs) zq7
theorem DM:OpR X (compareOp .Lt) (rI0 fun i j=>.bl (decide (i<j))):=zL fun _ _ _ _ _ _ _ q=>lt_int q
theorem DL:OpR X (compareOp .LtE) (rI0 fun i j=>.bl (decide (i<=j))):=zL fun _ _ _ _ _ _ _ q=>le_int q
theorem DK:OpR X (compareOp .Gt) (rI0 fun i j=>.bl (decide (j<i))):=zL fun _ _ _ _ _ _ _ q=>gt_int q
theorem DJ:OpR X (compareOp .GtE) (rI0 fun i j=>.bl (decide (j<=i))):=zL fun _ _ _ _ _ _ _ q=>ge_int q
theorem j7:OpR X (compareOp .IsNot) (fun x y H Q=>y=.non/\Q (.bl (!decide (x=.non))) H):=by
 intro pins s σ H x y v u Q I rx ry h;obtain ⟨rfl,q⟩:=h
 cases ry
 refine isnot_none_gen (b9 I q ?_)
 cases x<;>first
  | (cases rx;rfl)
  | (obtain ⟨t,rfl⟩:=rx;rfl)
theorem aA(b:Expr){op:CmpOp}(h:op≠.In:=by decide)(h2:op≠.NotIn:=by decide):behindInMarks op b=false:=by
 have e1:(op==CmpOp.In)=false:=by cases op<;>first | rfl | exact absurd rfl h
 have e2:(op==CmpOp.NotIn)=false:=by cases op<;>first | rfl | exact absurd rfl h2
 cases b<;>simp [behindInMarks,e1,e2]
noncomputable def Ba(t:TE):TT:=fun σ H Q=>t σ H fun x H'=>∃k,x=.bl k/\Q k H'
theorem jy:(sizeLine:Nat)<2 ^ 63:=by rw [sizeLine_eq];decide
theorem gu{x:V}{us:List Value}(r:Vals [x] us):∃u,us=[u]/\RelV x u:=by
 cases r with
 |cons r1 r2=>cases r2;exact ⟨_,rfl,r1⟩
theorem yf{x y:V}{us:List Value}(r:Vals [x,y] us):∃u w',us=[u,w']/\RelV x u/\RelV y w':=by
 cases r with
 |cons r1 r2=>
  cases r2 with
  |cons r3 r4=>cases r4;exact ⟨_,_,rfl,r1,r3⟩
theorem ij(hc:X.calm=true):dM X (.builtin "min") (fun xs H Q=>∃i j,xs=[.int i,.int j]/\Q (.int (if j<i then j else i)) H):=by
 intro pins s σ H xs us Q I r h;obtain ⟨i,j,rfl,q⟩:=h;obtain ⟨u,w',rfl,⟨t,rfl⟩,⟨t',rfl⟩⟩:=yf r;refine min_two_ints (I.ok.hd hc) fun h' tk k=>⟨_,H,I.kept k,?_,q⟩
 by_cases hj:j<i
 ·rw [if_pos hj,if_pos hj];exact ⟨_,rfl⟩
 ·rw [if_neg hj,if_neg hj];exact ⟨_,rfl⟩
theorem cV:dM X (.type "int") (fun xs H Q=>(∃i,xs=[.int i]/\Q (.int i) H)\/∃k,xs=[.bl k]/\Q (.int (if k then 1 else 0)) H):=by
 intro pins s σ H xs us Q I r h;rcases h with ⟨i,rfl,q⟩ | ⟨k,rfl,q⟩
 ·obtain ⟨u,rfl,t,rfl⟩:=gu r;exact call_int_int ⟨.int i,H,I,⟨_,rfl⟩,q⟩
 ·obtain ⟨u,rfl,r1⟩:=gu r
  cases r1
  exact call_int_bool ⟨.int (if k then 1 else 0),H,I.tok _,⟨_,rfl⟩,q⟩
end
end L2
namespace L2
structure ObjM(h:Heap)(x dx C:Addr)(mA:Str->Option Value):Prop where
 obj:h.get? x=some (W.instObj C dx)
 ns:h.Ns1 dx mA
 ne:dx≠x
theorem uk{h:Heap}{dx:Addr}{mA:Str->Option Value}(n:h.Ns1 dx mA):∃od,h.get? dx=some od/\∀name,W.lookIn name od=some (mA name):=by
 obtain ⟨o,es,ep,ho,hd,hk,_,hm⟩:=n;refine ⟨o,ho,fun name=>?_⟩;have e:=hm name;unfold nsFind findBy at e;rw [<- Array.find?_toList] at e;unfold W.lookIn;rw [hd];dsimp only
 split
 ·rename_i y q
  rw [q] at e;exact congrArg some e
 ·rename_i q
  rw [q] at e;have a:es.toList.any (·.refKey)=false:=by rw [List.any_eq_false];intro y hy;obtain ⟨z,t,hkey⟩:=hk y (Array.mem_toList_iff.mp hy);simp [DictEntry.refKey,hkey]
  have a':¬es.toList.any (·.refKey)=true:=by rw [a];exact zq7
  rw [if_neg a'];exact congrArg some e
theorem ObjM.look{h:Heap}{x dx C:Addr}{mA:Str->Option Value}(I:ObjM h x dx C mA):∃od,W.InstAt h x (W.instObj C dx) C (some od)/\∀name,W.lookIn name od=some (mA name):=
 let ⟨od,ho,hl⟩:=uk I.ns
 ⟨od,⟨I.obj,rfl,rfl,ho⟩,hl⟩
section
variable {prog:Program} {w:World} {A:Around} {E:Value->Shared->Prop} {s:Shared} {K:W.Frag} {x dx C f:Addr} {mA:Str->Option Value} {name:Str} {v:Value}
theorem zl{expr:Bool}{Q:Value->Shared->Prop}(X:K.In s.heap)(I:ObjM s.heap x dx C mA)(hg:W.plainGet K C name=true)(hh:W.hasDictIn K C=true)
  (ha:W.findIn K (.ref C) name=some none) (hv:mA name=some v) (hv':W.handedIn v=true) (h:Q v {s with toks:=s.toks+1}) :
  wpAny (model prog w) A (getAttr (.ref x) name expr) Q E s:=by
 obtain ⟨od,J,hl⟩:=I.look;exact W.get_value X J (W.plainGet_of hg).1 (W.findObj_own hh ha rfl (by rw [hl,hv])) hv' h
theorem vH{pl:Sem Bool}{Q:Value×List Value->Shared->Prop}(X:K.In s.heap)(I:ObjM s.heap x dx C mA)(hg:W.plainGet K C name=true)
  (hf:W.findIn K (.ref C) name=some (some (.ref f))) (ht:W.isFn K (.ref f)=true) (hv:mA name=none) (h:Q (.ref f,[.ref x]) s) :
  wpAny (model prog w) A (getMethod (.ref x) name pl) Q E s:=by
 obtain ⟨od,J,hl⟩:=I.look;exact W.method_fn X J (W.plainGet_of hg).1 (W.plainGet_of hg).2 hf (beq_iff_eq.mp ht) (by show (W.lookIn name od).map (·.isSome)=some false;rw [hl,hv];rfl) h
theorem Ak{ns:List Str}{Q:Unit->Shared->Prop}(X:K.In s.heap)(I:ObjM s.heap x dx C mA)
  (hs:W.findIn K (.ref C) "__setattr__"=some (some (.builtin "object.__setattr__"))) (hp:W.plainOver K C=true) (ht:W.takerIn K C name=some none) (hh:W.hasDictIn K C=true)
  (hw:PySem.Within mA ns) (hsz:ns.length<=sizeLine)
  (h:∀h',ObjM h' x dx C (fun y=>if y=name then some v else mA y)->Heap.SameBut dx s.heap h'->Q () {s with heap:=h',toks:=s.toks+2}) :
  wpAny (model prog w) A (setAttr (.ref x) name v) Q E s:=by
 obtain ⟨od,J,hl⟩:=I.look;refine W.set_plain X J hs (W.osa_open (s:={s with toks:=s.toks+1}) (r:=none) X J hp ht fun b=>?_);obtain ⟨cd,hc,hd'⟩:=W.any_some hh;have hx:s.heap.get? x=some ⟨.ref C,some dx,.plain,#[]⟩:=I.obj;refine wpAny_bind (wpAny_pure (wpAny_bind (wpAny_bind (wpAny_loadPart hx (wpAny_bind (W.Looks.here (s:={s with toks:=s.toks+1}) (W.looks_clsIn X hc) ?_))))));rw [hd'];refine wpAny_pure (a:=some dx) (wpAny_bind (wpAny_pure (wpAny_bind ?_)));refine wpAny_nsSet1 (s:={s with toks:=s.toks+1}) I.ns fun h' hn2 hs2=>?_;obtain ⟨oD,esD,epD,hoD,hdD,hcD⟩:=hn2.count (PySem.Within.cons name v hw);refine wpAny_bind (wpAny_lookBehind hoD (by rw [hdD];exact pastItsLine_dict (cL hcD (by rw [dB];omega))) ?_);exact wpAny_pure (h _ ⟨(hs2.2 _ (Ne.symm I.ne)).trans I.obj,hn2,I.ne⟩ hs2)
theorem vV{R:Result->Shared->Prop}{vs:List Value}{kw:List (Str×Value)}(X:K.In s.heap)(hm:W.makesIn K C=true)
  (hi:W.findIn K (.ref C) "__init__"=some (some (.ref f))) (hf:W.typeIn K (.ref f)=some (.type "function"))
  (h:codeAny (model prog w) (A.under (.builtin "type.__call__" ⟨.ref C::vs,kw⟩)) (.call (.ref f) ⟨.ref (s.heap.objs.size+1)::vs,kw⟩) (W.InitBack (s.heap.objs.size+1) R)
   {s with heap:=(s.heap.push W.emptyDict).push (W.instObj C s.heap.objs.size)}) :
  codeAny (model prog w) A (.call (.ref C) ⟨vs,kw⟩) R s:=by
 obtain ⟨hh,g,d,t,os⟩:=s;exact W.make_core (W.makes_of X hm) (W.looks_findIn X hi) (fun self=>W.bind_fn X self hf) (.inl rfl) h
end
noncomputable def dq(f:Str)(v:V):List (Str×V)->List (Str×V)
 | []=>[(f,v)]
 | (g,x)::r=>if g=f then (g,v)::r else (g,x)::dq f v r
theorem iR(f g:Str)(v:V):∀fs:List (Str×V),(dq f v fs).lookup g=if g=f then some v else fs.lookup g
 | []=>by
  show List.lookup g [(f,v)]=_
  by_cases h:g=f
  ·have hb:(g==f)=true:=beq_iff_eq.mpr h;simp only [List.lookup,hb,if_pos h]
  ·have hb:(g==f)=false:=beq_eq_false_iff_ne.mpr h;simp only [List.lookup,hb,if_neg h]
 | (k,x)::r=>by
  have ih:=iR f g v r;rw [show dq f v ((k,x)::r)=(if k=f then (k,v)::r else (k,x)::dq f v r) from rfl]
  by_cases hk:k=f
  ·rw [if_pos hk]
   by_cases h:g=k
   ·have hb:(g==k)=true:=beq_iff_eq.mpr h;simp only [List.lookup,hb,if_pos (h.trans hk)]
   ·have hb:(g==k)=false:=beq_eq_false_iff_ne.mpr h;simp only [List.lookup,hb,if_neg (fun e:g=f=>h (e.trans hk.symm))]
  ·rw [if_neg hk]
   by_cases h:g=k
   ·have hb:(g==k)=true:=beq_iff_eq.mpr h;simp only [List.lookup,hb,if_neg (fun e:g=f=>hk (h.symm.trans e))]
   ·have hb:(g==k)=false:=beq_eq_false_iff_ne.mpr h;simp only [List.lookup,hb];exact ih
theorem iw(f:Str)(v:V):∀fs:List (Str×V),f∈(dq f v fs).map (·.1)/\∀g,g∈fs.map (·.1)->g∈(dq f v fs).map (·.1)
 | []=>⟨by simp [dq],fun g h=>by simp at h⟩
 | (k,x)::r=>by
  obtain ⟨i1,i2⟩:=iw f v r;rw [show dq f v ((k,x)::r)=(if k=f then (k,v)::r else (k,x)::dq f v r) from rfl]
  by_cases hk:k=f
  ·rw [if_pos hk];subst hk;exact ⟨by simp,fun g h=>by simpa using h⟩
  ·rw [if_neg hk];refine ⟨?_,fun g h=>?_⟩
   ·rw [cM];exact zq5 _ i1
   ·rw [cM] at h ⊢;rcases zq6.mp h with e | e
    ·exact zq6.mpr (.inl e)
    ·exact zq5 _ (i2 g e)
theorem iQ(f:Str)(v:V):∀fs:List (Str×V),(dq f v fs).length<=fs.length+1
 | []=>by simp [dq]
 | (k,x)::r=>by
  have ih:=iQ f v r;rw [show dq f v ((k,x)::r)=(if k=f then (k,v)::r else (k,x)::dq f v r) from rfl]
  by_cases hk:k=f
  ·rw [if_pos hk,dB,dB];omega
  ·rw [if_neg hk,dB,dB];omega
theorem RelO.some_of{v:V}{o:Option Value}(r:RelO (some v) o):∃u,o=some u/\RelV v u:=by
 cases o with
 |none=>exact (show False from r).elim
 |some u=>exact ⟨u,rfl,r⟩
theorem RelO.none_of{o:Option Value}(r:RelO none o):o=none:=by
 cases o with
 |none=>rfl
 |some u=>exact (show False from r).elim
theorem tX{v:V}{u:Value}(r:RelV v u):W.handedIn u=true:=by
 cases v with
 |non=>cases (show u=Value.none from r);rfl
 |bl b=>cases (show u=Value.bool b from r);rfl
 |int i=>obtain ⟨t,e⟩:=(show ∃t,u=Value.int i t from r);cases e;rfl
 |str x=>obtain ⟨t,e⟩:=(show ∃t,u=Value.str x t from r);cases e;rfl
 |byt b=>obtain ⟨t,e⟩:=(show ∃t,u=Value.bytes b t from r);cases e;rfl
 |flt b=>obtain ⟨t,e⟩:=(show ∃t,u=Value.float b t from r);cases e;rfl
 |ref a=>cases (show u=Value.ref a from r);rfl
 |ty n=>cases (show u=Value.type n from r);rfl
section
variable {P:Program} {w:World} {H H':Hp} {h h':Heap} {a C dx:Addr} {fs fs':List (Str×V)}
theorem lV(hok:HOk P w H h)(e:H a=some (.ins C dx fs)):∃mA,ObjM h a dx C mA/\(∀f,RelO (fs.lookup f) (mA f))/\PySem.Within mA (fs.map (·.1))/\fs.length<=1000/\H dx=some (.own a):=by
 obtain ⟨d,z,ne,ob,mA,n,r,q⟩:=(show ObjOk P w H h a (.ins C dx fs) from hok a _ e)
 exact ⟨mA,⟨ob,n,ne⟩,r,q,z,d⟩
end
structure Cls(K:W.Frag)(C:Addr):Prop where
 pg:W.plainGet K C Str.empty=true
 hd:W.hasDictIn K C=true
 po:W.plainOver K C=true
 sa:W.findIn K (.ref C) "__setattr__"=some (some (.builtin "object.__setattr__"))
theorem Cls.get{K:W.Frag}{C:Addr}(c:Cls K C)(f:Str):W.plainGet K C f=true:=c.pg
noncomputable def NoAttr(K:W.Frag)(C:Addr)(f:Str):Prop:=W.findIn K (.ref C) f=some none
theorem NoAttr.taker{K:W.Frag}{C:Addr}{f:Str}(n:NoAttr K C f):W.takerIn K C f=some none:=by unfold W.takerIn;rw [show W.findIn K (.ref C) f=some none from n];rfl
structure tG(K:W.Frag)(C:Addr)(m:Str)(f:Addr):Prop where
 at_:W.findIn K (.ref C) m=some (some (.ref f))
 fn:W.isFn K (.ref f)=true
 kp:W.keepIn K (.ref f)=true
section
variable {X:Cx} {pins:List (Addr×Obj)} {σ:St} {H:Hp} {s:Shared} {a C dx:Addr} {fs:List (Str×V)} {f:Str} {v:V} {A:Around} {E:Value->Shared->Prop}
theorem qa{b:Bool}{Q:Value->Shared->Prop}(I:Inv X pins σ H s)(e:H a=some (.ins C dx fs))(c:Cls X.K C)(n:NoAttr X.K C f)(l:fs.lookup f=some v)
  (h:∀u s',Inv X pins σ H s'->RelV v u->Q u s'):wpAny (model X.prog X.w) A (getAttr (.ref a) f b) Q E s:=by
 obtain ⟨mA,O,r,_,_,_⟩:=lV I.hok e;obtain ⟨u,hu,ru⟩:=RelO.some_of (v:=v) (o:=mA f) (by rw [<- l];exact r f);exact zl I.kIn O (c.get f) c.hd n hu (tX ru) (h u _ (I.tok _) ru)
theorem gA{m:Str}{g:Addr}{pl:Sem Bool}{Q:Value×List Value->Shared->Prop}(I:Inv X pins σ H s)(e:H a=some (.ins C dx fs))(c:Cls X.K C)(k:tG X.K C m g)(l:fs.lookup m=none)
  (h:Q (.ref g,[.ref a]) s):wpAny (model X.prog X.w) A (getMethod (.ref a) m pl) Q E s:=by
 obtain ⟨mA,O,r,_,_,_⟩:=lV I.hok e;have hn:mA m=none:=RelO.none_of (by rw [<- l];exact r m);exact vH I.kIn O (c.get m) k.at_ k.fn hn h
theorem qC{y:V}{u:Value}{Q:Unit->Shared->Prop}(I:Inv X pins σ H s)(e:H a=some (.ins C dx fs))(c:Cls X.K C)(n:NoAttr X.K C f)(hl:fs.length<1000)(ry:RelV y u)
  (h:∀s',Inv X pins σ (upd H a (.ins C dx (dq f y fs))) s'->Q () s'):wpAny (model X.prog X.w) A (setAttr (.ref a) f u) Q E s:=by
 obtain ⟨mA,O,r,wi,_,ho⟩:=lV I.hok e;have hz:(fs.map (·.1)).length<=sizeLine:=by rw [zq1,sizeLine_eq];omega
 refine Ak I.kIn O c.sa c.po n.taker c.hd wi hz fun h' O' sb=>h _ ?_;have hd:∃o,h'.get? dx=some o:=let ⟨o,_,_,e',_⟩:=O'.ns;⟨o,e'⟩;refine I.write (x:=a) (e:=dx) (by rw [e];exact True.intro) (.inr ho) (fun b q hb z=>(sb.2 b hb).trans z) hd ?_;refine ⟨by rw [av O.ne];exact ho,?_,O.ne,O'.obj,_,O'.ns,fun g=>?_,fun g hg=>?_⟩
 ·have:=iQ f y fs;omega
 ·show RelO ((dq f y fs).lookup g) (if g=f then some u else mA g);rw [iR]
  by_cases q:g=f
  ·rw [if_pos q,if_pos q];exact ry
  ·rw [if_neg q,if_neg q];exact r g
 ·by_cases q:g=f
  ·rw [q];exact (iw f y fs).1
  ·refine (iw f y fs).2 g (wi g fun z=>hg ?_);show (if g=f then some u else mA g)=none;rw [if_neg q];exact z
theorem Inv.made(I:Inv X pins σ H s):Inv X pins σ (upd (upd H s.heap.objs.size (.own (s.heap.objs.size+1))) (s.heap.objs.size+1) (.ins C s.heap.objs.size []))
  {s with heap:=(s.heap.push W.emptyDict).push (W.instObj C s.heap.objs.size)}:=by
 have e1:(s.heap.push W.emptyDict).get? s.heap.objs.size=some W.emptyDict:=d8 s.heap rfl;have e2:((s.heap.push W.emptyDict).push (W.instObj C s.heap.objs.size)).get? (s.heap.objs.size+1)=some (W.instObj C s.heap.objs.size):=by have:=d8 (s.heap.push W.emptyDict) (o:=W.instObj C s.heap.objs.size) rfl;rwa [jZ] at this
 have e3:(s.heap.push W.emptyDict).Ns s.heap.objs.size (fun _=>none):=⟨W.emptyDict,#[],_,e1,rfl,(fun e he=>absurd he (by simp)),fun _=>rfl⟩
 have I1:=I.laid (a:=s.heap.objs.size) (o:=.own (s.heap.objs.size+1)) (h':=s.heap.push W.emptyDict) (t':=s.toks) (fun b u q=>c9 _ q) (zq0 _) ⟨_,e1⟩;refine I1.laid (a:=s.heap.objs.size+1) (o:=.ins C s.heap.objs.size []) (t':=s.toks) (fun b u q=>c9 _ q) (v0 (jZ _ _)) ?_;have ne:s.heap.objs.size≠s.heap.objs.size+1:=cm (yR _);refine ⟨by rw [av ne,af],cc _,ne,e2,fun _=>none,(Heap.Ns1.of_empty e3).at fun o q=>c9 _ q,fun _=>True.intro,fun y hy=>absurd rfl hy⟩
theorem zc{prog:Program}{w:World}{env:Env}{e:Expr}{f:Str}{pos:Pos}{s:Shared}{Q:Value->Shared->Prop}(hb:attributeBase e f env (eval e env)=eval e env)
  (h:wpAny (model prog w) A (eval e env) (fun o s₁=>wpAny (model prog w) A (getAttr o f true) Q E s₁) E s):wpAny (model prog w) A (eval (.Attribute e f pos) env) Q E s:=
 Attribute_any_ h (by rw [arm_eval_Attribute,hb])
end
noncomputable def Fz(K:W.Frag)(ta:TE)(f:Str):TE:=fun σ H Q=>ta σ H fun x H1=>∃a C dx fs v,x=.ref a/\H1 a=some (.ins C dx fs)/\Cls K C/\NoAttr K C f/\fs.lookup f=some v/\Q v H1
noncomputable def Es(K:W.Frag)(ta tv:TE)(f:Str):TS:=fun D σ H=>tv σ H fun y H1=>ta σ H1 fun x H2=>∃a C dx fs,x=.ref a/\H2 a=some (.ins C dx fs)/\Cls K C/\NoAttr K C f/\fs.length<1000/\
 D.nx σ (upd H2 a (.ins C dx (dq f y fs)))
section
variable {X:Cx} {o e value:Expr} {f:Str} {pos pos' tpos:Pos} {ta tv:TE}
theorem AR{pl:Sem Bool}{m:Str}{apos:Pos}{args:List Expr}{pins:List (Addr×Obj)}{s:Shared}{σ:St}{H:Hp}{Q:Value->Shared->Prop}{te:TE}(he:PE X e te)(I:Inv X pins σ H s)
  (h:te σ H fun x H1=>∃a C dx fs g,x=.ref a/\H1 a=some (.ins C dx fs)/\Cls X.K C/\tG X.K C m g/\fs.lookup m=none/\
   ∀s1,Inv X pins σ H1 s1->wpAny (model X.prog X.w) X.A (callWith pos (.ref g) [.ref a] (backTo pos (starEach args X.env)) (backToKw pos (keywordEach [] X.env))) Q X.xe s1)
  (ht:eval (.Call (.Attribute e m apos) args [] pos) X.env=(do
   let ov <- eval e X.env
   standAt apos.atName
   let (f,first) <- holding [ov] (getMethod ov m pl)
   callWith pos f first (backTo pos (starEach args X.env)) (backToKw pos (keywordEach [] X.env)))) :
  wpAny (model X.prog X.w) X.A (eval (.Call (.Attribute e m apos) args [] pos) X.env) Q X.xe s:=by
 refine W.methodCall_KW (pl:=pl) (thn (he pins s σ H _ I h) fun u s1 hhx=>?_) ht;obtain ⟨x,H1,I1,rx,a,C,dx,fs,g,ex,ea,c,k,l,q⟩:=hhx;subst ex;obtain rfl:u=Value.ref a:=rx;exact gA I1 ea c k l (q s1 I1)
end
section
variable {X:Cx} {pins:List (Addr×Obj)} {σ:St} {H:Hp} {s:Shared} {A:Around} {E:Value->Shared->Prop} {Q:Value->Shared->Prop} {c:Value} {b:Bool}
end
end L2
namespace L2
structure Room(k:Nat)(A:Around):Prop where
 hd:A.handled=none
 dp:A.depth+3 * k+5<recursionLimit
 un:A.units+16 * k+200<cLine
theorem Room.mono{j k:Nat}{A:Around}(r:Room k A)(h:j<=k):Room j A:=⟨r.hd,by have:=r.dp;omega,by have:=r.un;omega⟩
theorem Room.m{n m:Nat}{A:Around}(h:Room n A)(l:m<=n:=by first | decide | omega):Room m A:=h.mono l
theorem Room.deeper{k:Nat}{A:Around}(r:Room (k+1) A)(env:Env):Room k (A.deeper env):=
 ⟨r.hd,by have:=r.dp;show A.depth+1+3 * k+5<_;omega,by have:=r.un;show A.units+3+16 * k+200<_;omega⟩
theorem qg{A:Around}{C:Addr}{us:List Value}{kw:List (Str×Value)}:(A.under (.builtin "type.__call__" ⟨.ref C::us,kw⟩)).depth=A.depth+1:=by first | rfl | simp [Around.under,Code.weight,Code.isCreation,Code.isGuard,Code.isCaller,Code.frames,Code.isFrame,guardIds]
theorem qh{A:Around}{C:Addr}{us:List Value}{kw:List (Str×Value)}:(A.under (.builtin "type.__call__" ⟨.ref C::us,kw⟩)).units=A.units+1:=by first | rfl | simp [Around.under,Code.cUnits,Code.frames,Code.isFrame]
theorem Room.make{k:Nat}{A:Around}(r:Room (k+1) A)(C:Addr)(us:List Value)(kw:List (Str×Value)):Room k (A.under (.builtin "type.__call__" ⟨.ref C::us,kw⟩)):=
 ⟨r.hd,by have:=r.dp;rw [qg];omega,by have:=r.un;rw [qh];omega⟩
theorem Room.depth{k:Nat}{A:Around}(r:Room k A):A.depth<recursionLimit:=by have:=r.dp;omega
theorem Room.units{k:Nat}{A:Around}(r:Room k A):A.units+64<cLine:=by have:=r.un;omega
theorem Room.units0{k:Nat}{A:Around}(r:Room k A):A.units<cLine:=by have:=r.un;omega
noncomputable def pD:TA:=fun _ H Q=>Q [] H
noncomputable def xT(ta:TE)(tr:TA):TA:=fun σ H Q=>ta σ H fun x H1=>tr σ H1 fun xs H2=>Q (x::xs) H2
section
variable {X:Cx} {e:Expr} {es:List Expr} {te:TE} {t:TA} {pos:Pos}
theorem wJ:PA X [] pD:=fun _ _ _ _ H Q I h=>Calls.spliced_nil ⟨[],H,I,.nil,h⟩
theorem sd(ha:PE X e te)(hr:PA X es t)(hs:starEach (e::es) X.env=(false,eval e X.env)::starEach es X.env:=by rfl):PA X (e::es) (xT te t):=by intro pos pins s σ H Q I h;rw [hs];show wpAny _ _ (spliced ((false,eval e X.env)::backTo pos (starEach es X.env))) _ _ s;refine Calls.spliced_cons (thn (ha pins s σ H _ I h) fun u s1 hhx=>?_);obtain ⟨x,H1,I1,r1,q1⟩:=hhx;exact thn (hr pos pins s1 σ H1 _ I1 q1) fun us s2 ⟨xs,H2,I2,r2,q2⟩=>⟨x::xs,H2,I2,.cons r1 r2,q2⟩
noncomputable def FH(t:TA):TE:=fun σ H Q=>t σ H fun xs H1=>xs.length<=sizeLine/\∀p,H1 p=none->Q (.ref p) (upd H1 p (.tup xs))
noncomputable def FC(t:TA):TE:=fun σ H Q=>t σ H fun xs H1=>xs.length<=sizeLine/\∀p,H1 p=none->Q (.ref p) (upd H1 p (.lst xs))
end
noncomputable abbrev Sp:=List V->Hp->VK->XK->Prop
noncomputable abbrev CXT:=List Env->Hp->Shared->XK->Value->Shared->Prop
structure Env0(P:Program)(w:World)(K:W.Frag)(mg:Str->Option Value)(base:Heap)(A:Around)(outer:List Env)(s:Shared)(H:Hp):Prop where
 frames:A.frames=some outer
 mod:Mod K mg base
 bs:∀b o,base.get? b=some o->s.heap.get? b=some o/\H b=none
 bsz:base.objs.size<=s.heap.objs.size
 funs:s.heap.FunFrames base outer
 frf:∀b∈frs outer,H b=none
 hok:HOk P w H s.heap
 bare:AllBare s.gens
noncomputable def CE(outer:List Env)(P:Program)(w:World)(H:Hp)(s:Shared)(Q:VK)(u:Value)(s':Shared):Prop:=
 ∃v H',s'.os=s.os/\AllBare s'.gens/\Un (frs outer) [] H H' s.heap s'.heap/\HOk P w H' s'.heap/\RelV v u/\Q v H'
noncomputable def CR(CX:CXT)(outer:List Env)(P:Program)(w:World)(H:Hp)(s:Shared)(Q:VK)(E:XK)(r:Result)(s':Shared):Prop:=
 match r with
 | .ok (.ret u)=>CE outer P w H s Q u s'
 | .ok _=>False
 | .error e=>CX outer H s E e s'
structure FnOk(P:Program)(w:World)(K:W.Frag)(mg:Str->Option Value)(base:Heap)(CX:CXT)(k:Nat)(f:Addr)(fd:FuncData)(ps:List Str)(sp:Sp):Prop where
 len:∀vs H Q E,sp vs H Q E->vs.length=ps.length
 run:∀(A:Around)(outer:List Env)(s:Shared)(H:Hp)(args:Args)(us:List Value)(vs:List V)(Q:VK)(E:XK),Room k A->Env0 P w K mg base A outer s H->BindsTo s fd args (ps.zip us)->Vals vs us->sp vs H Q E->
  codeAny (model P w) A (.call (.ref f) args) (CR CX outer P w H s Q E) s
theorem FnOk.mono{P:Program}{w:World}{K:W.Frag}{mg:Str->Option Value}{base:Heap}{CX:CXT}{j k:Nat}{f:Addr}{fd:FuncData}{ps:List Str}{sp:Sp}(F:FnOk P w K mg base CX j f fd ps sp)(h:j<=k):
  FnOk P w K mg base CX k f fd ps sp:=⟨F.len,fun A outer s H args us vs Q E hr=>F.run A outer s H args us vs Q E (hr.mono h)⟩
theorem Env0.make{P:Program}{w:World}{K:W.Frag}{mg:Str->Option Value}{base:Heap}{A:Around}{outer:List Env}{s:Shared}{H:Hp}(e:Env0 P w K mg base A outer s H)(C:Addr)(us:List Value)(kw:List (Str×Value)):
  Env0 P w K mg base (A.under (.builtin "type.__call__" ⟨.ref C::us,kw⟩)) outer s H:=⟨by first | exact e.frames | (simpa [Around.under,Code.envs,Code.isFrame,pushEnvs] using e.frames),e.mod,e.bs,e.bsz,e.funs,e.frf,e.hok,e.bare⟩
section
variable {X:Cx} {pins:List (Addr×Obj)} {σ:St} {H:Hp} {s s':Shared}
theorem Inv.env0(I:Inv X pins σ H s):Env0 X.prog X.w X.K X.mg X.base X.A X.stack s H:=
 ⟨I.ok.frames,I.ok.mod,I.bs,cL I.ok.bsz I.sz,I.stack,I.stkFree,I.hok,I.bare⟩
theorem Inv.after{Q:VK}{u:Value}(I:Inv X pins σ H s)(h:CE X.stack X.prog X.w H s Q u s'):EP X pins σ Q u s':=by obtain ⟨v,H',os,bare,un,hok,r,q⟩:=h;obtain ⟨hh,g,d,t,os'⟩:=s';obtain rfl:os'=s.os:=os;exact ⟨v,H',I.call (h':=hh) (g':=g) (d':=d) (t':=t) (ch:=[]) un hok bare (fun b z=>absurd z (by simp)),r,q⟩
end
noncomputable def pC(sp:Sp)(dvs:List V)(E:XK)(t:TA):TE:=fun σ H Q=>t σ H fun vs H1=>sp (vs++dvs) H1 Q E
noncomputable def i7(C:Addr)(m:Str)(sp:Sp)(dvs:List V)(E:XK)(ta:TE)(t:TA):TE:=fun σ H Q=>ta σ H fun x H1=>∃a dx fs,x=.ref a/\H1 a=some (.ins C dx fs)/\fs.lookup m=none/\
 t σ H1 fun vs H2=>sp (x::(vs++dvs)) H2 Q E
noncomputable def jV(C:Addr)(sp:Sp)(dvs:List V)(E:XK)(t:TA):TE:=fun σ H Q=>t σ H fun vs H1=>∀x dx,H1 x=none->H1 dx=none->dx≠x->
 sp (.ref x::(vs++dvs)) (upd (upd H1 dx (.own x)) x (.ins C dx [])) (fun v H2=>v=.non/\Q (.ref x) H2) E
noncomputable def Binds(K:W.Frag)(fd:FuncData)(ps:List Str)(ds:List Value):Prop:=
 ∀(s:Shared)(us:List Value),K.In s.heap->(us++ds).length=ps.length->BindsTo s fd ⟨us,[]⟩ (ps.zip (us++ds))
theorem Binds.all{K:W.Frag}{fd:FuncData}{ps:List Str}(h:∀us:List Value,us.length=ps.length->bindArgs fd ⟨us,[]⟩=pure (ps.zip us)):Binds K fd ps []:=fun s us _ hl=>by rw [gH] at hl ⊢;exact .of_eq (h us hl)
noncomputable def eO(CX:CXT)(X:Cx)(E:XK):Prop:=∀(pins:List (Addr×Obj)) (σ:St) (H:Hp) (s:Shared) (e:Value) (s':Shared),Inv X pins σ H s->CX X.stack H s E e s'->X.xe e s'
section
variable {X:Cx} {CX:CXT} {k:Nat} {f C:Addr} {fd:FuncData} {ps:List Str} {sp:Sp} {dvs:List V} {ds:List Value} {E:XK} {x m:Str} {p pos apos:Pos} {e o:Expr} {es:List Expr} {ta:TE} {t:TA}
theorem qz{pins:List (Addr×Obj)}{σ:St}{H:Hp}{s:Shared}{Q:VK}{us:List Value}{vs:List V}(F:FnOk X.prog X.w X.K X.mg X.base CX k f fd ps sp)(hr:Room k X.A)(hb:Binds X.K fd ps ds)(hd:Vals dvs ds)(hx:eO CX X E)
  (I:Inv X pins σ H s) (r:Vals vs us) (h:sp (vs++dvs) H Q E):wpAny (model X.prog X.w) X.A (call (.ref f) us) (EP X pins σ Q) X.xe s:=by
 have r2:Vals (vs++dvs) (us++ds):=r.append hd;have hl:(us++ds).length=ps.length:=by rw [<- r2.length];exact F.len _ _ _ _ h
 refine wpAny_call (codeAny_mono (F.run X.A X.stack s H ⟨us,[]⟩ (us++ds) (vs++dvs) Q E hr I.env0 (hb s us I.kIn hl) r2 h) fun r s' hq=>?_)
 cases r with
 |error e=>exact hx pins σ H s e s' I hq
 |ok fl=>
  cases fl with
  |ret u=>exact I.after hq
  |next=>exact False.elim hq
  |brk=>exact False.elim hq
  |cont=>exact False.elim hq
theorem zN(F:FnOk X.prog X.w X.K X.mg X.base CX k f fd ps sp)(hr:Room k X.A)(hg:Gl X x)(hm:X.mg x=some (.ref f))(hk:W.keepIn X.K (.ref f)=true)(hb:Binds X.K fd ps ds)(hd:Vals dvs ds)(hx:eO CX X E)
  (ha:PA X (e::es) t) (hdb:(x==("__debug__":Str))=false:=by decide) (he:starEach (e::es) X.env=(false,eval e X.env)::starEach es X.env:=by rfl) (hpl:(backTo pos (starEach es X.env)).any (·.1)=false:=by rfl) :
  PE X (.Call (.Name x p) (e::es) [] pos) (pC sp dvs E t):=by
 intro pins s σ H Q I h;refine wpAny_Call_Name_kw (gX I hg hm ?_ hdb);refine W.callWith_K (h₀:=X.base) I.ok.mod.kin hk (thn (ha pos pins s σ H _ I h) fun us s1 ⟨vs,H1,I1,r,q⟩=>⟨I1.kIn,?_⟩) he hpl;exact qz F hr hb hd hx I1 r q
theorem se{pl:Sem Bool}(he:PE X o ta)(c:Cls X.K C)(hm:tG X.K C m f)(F:FnOk X.prog X.w X.K X.mg X.base CX k f fd ps sp)(hr:Room k X.A)(hb:Binds X.K fd ps ds)(hd:Vals dvs ds)(hx:eO CX X E)(ha:PA X (e::es) t)
  (hst:starEach (e::es) X.env=(false,eval e X.env)::starEach es X.env:=by rfl) (hpl:(backTo pos (starEach es X.env)).any (·.1)=false:=by rfl)
  (ht:eval (.Call (.Attribute o m apos) (e::es) [] pos) X.env=(do
   let ov <- eval o X.env
   standAt apos.atName
   let (f,first) <- holding [ov] (getMethod ov m pl)
   callWith pos f first (backTo pos (starEach (e::es) X.env)) (backToKw pos (keywordEach [] X.env))):=by rfl) :
  PE X (.Call (.Attribute o m apos) (e::es) [] pos) (i7 C m sp dvs E ta t):=by
 intro pins s σ H Q I h;refine W.methodCall_KW (pl:=pl) (thn (he pins s σ H _ I h) fun u s1 hhx=>?_) ht;obtain ⟨x,H1,I1,rx,a,dx,fs,ex,ea,l,q⟩:=hhx;subst ex;obtain rfl:u=Value.ref a:=rx;refine gA I1 ea c hm l ?_;refine W.callWith_K (first:=[.ref a]) (h₀:=X.base) I.ok.mod.kin hm.kp (thn (ha pos pins s1 σ H1 _ I1 q) fun us s2 ⟨vs,H2,I2,r,q2⟩=>⟨I2.kIn,?_⟩) hst hpl;exact qz (us:=.ref a::us) (vs:=.ref a::vs) F hr hb hd hx I2 (.cons rfl r) q2
theorem wR{pl:Sem Bool}(he:PE X o ta)(c:Cls X.K C)(hm:tG X.K C m f)(F:FnOk X.prog X.w X.K X.mg X.base CX k f fd ps sp)(hr:Room k X.A)(hb:Binds X.K fd ps ds)(hd:Vals dvs ds)(hx:eO CX X E)
  (ht:eval (.Call (.Attribute o m apos) [] [] pos) X.env=(do
   let ov <- eval o X.env
   standAt apos.atName
   let (f,first) <- holding [ov] (getMethod ov m pl)
   callWith pos f first (backTo pos (starEach [] X.env)) (backToKw pos (keywordEach [] X.env))):=by rfl) :
  PE X (.Call (.Attribute o m apos) [] [] pos) (i7 C m sp dvs E ta pD):=by
 intro pins s σ H Q I h;refine W.methodCall_KW (pl:=pl) (thn (he pins s σ H _ I h) fun u s1 hhx=>?_) ht;obtain ⟨x,H1,I1,rx,a,dx,fs,ex,ea,l,q⟩:=hhx;subst ex;obtain rfl:u=Value.ref a:=rx;refine gA I1 ea c hm l ?_;exact W.callWith_K0 (first:=[.ref a]) I1.kIn hm.kp (qz (us:=[.ref a]) (vs:=[.ref a]) F hr hb hd hx I1 (.cons rfl .nil) q)
structure Mk(K:W.Frag)(C f:Addr):Prop where
 makes:W.makesIn K C=true
 init:W.findIn K (.ref C) "__init__"=some (some (.ref f))
 fn:W.isFn K (.ref f)=true
 kp:W.keepIn K (.ref C)=true
theorem oI{pins:List (Addr×Obj)}{σ:St}{H:Hp}{s:Shared}{Q:VK}{us:List Value}{vs:List V}(M:Mk X.K C f)(F:FnOk X.prog X.w X.K X.mg X.base CX k f fd ps sp)(hr:Room (k+1) X.A)(hb:Binds X.K fd ps ds)(hd:Vals dvs ds)
  (hx:eO CX X E) (I:Inv X pins σ H s) (r:Vals vs us)
  (h:∀x dx,H x=none->H dx=none->dx≠x->sp (.ref x::(vs++dvs)) (upd (upd H dx (.own x)) x (.ins C dx [])) (fun v H2=>v=.non/\Q (.ref x) H2) E) :
  wpAny (model X.prog X.w) X.A (call (.ref C) us) (EP X pins σ Q) X.xe s:=by
 have hq:=h (s.heap.objs.size+1) s.heap.objs.size (I.hok.fresh (mI _)) (I.hok.fresh (zq0 _)) (cm (yR _));have I2:=Inv.made (C:=C) I;have r2:Vals (V.ref (s.heap.objs.size+1)::(vs++dvs)) (Value.ref (s.heap.objs.size+1)::(us++ds)):=.cons rfl (r.append hd);have hl:(Value.ref (s.heap.objs.size+1)::us++ds).length=ps.length:=by have e:=r2.length;rw [F.len _ _ _ _ hq] at e;exact e.symm
 refine wpAny_call (vV (f:=f) I.kIn M.makes M.init (beq_iff_eq.mp M.fn) (codeAny_mono (F.run _ X.stack _ _ ⟨Value.ref (s.heap.objs.size+1)::us,[]⟩ (Value.ref (s.heap.objs.size+1)::(us++ds)) _ _ E (hr.make C us [])
  (I2.env0.make C us []) (hb _ (Value.ref (s.heap.objs.size+1)::us) I2.kIn hl) r2 hq) fun r s' hq'=>?_))
 cases r with
 |error e=>exact hx pins σ _ _ e s' I2 hq'
 |ok fl=>
  cases fl with
  |ret u=>
   obtain ⟨v,H',I3,rv,ev,q3⟩:=I2.after hq';subst ev;exact ⟨rv,⟨V.ref (s.heap.objs.size+1),H',I3,rfl,q3⟩⟩
  |next=>exact False.elim hq'
  |brk=>exact False.elim hq'
  |cont=>exact False.elim hq'
theorem zP(M:Mk X.K C f)(F:FnOk X.prog X.w X.K X.mg X.base CX k f fd ps sp)(hr:Room (k+1) X.A)(hg:Gl X x)(hm:X.mg x=some (.ref C))(hb:Binds X.K fd ps ds)(hd:Vals dvs ds)(hx:eO CX X E)
  (ha:PA X (e::es) t) (hdb:(x==("__debug__":Str))=false:=by decide) (he:starEach (e::es) X.env=(false,eval e X.env)::starEach es X.env:=by rfl) (hpl:(backTo pos (starEach es X.env)).any (·.1)=false:=by rfl) :
  PE X (.Call (.Name x p) (e::es) [] pos) (jV C sp dvs E t):=by
 intro pins s σ H Q I h;refine wpAny_Call_Name_kw (gX I hg hm ?_ hdb);refine W.callWith_K (h₀:=X.base) I.ok.mod.kin M.kp (thn (ha pos pins s σ H _ I h) fun us s1 ⟨vs,H1,I1,r,q⟩=>⟨I1.kIn,?_⟩) he hpl;exact oI M F hr hb hd hx I1 r q
theorem wQ(M:Mk X.K C f)(F:FnOk X.prog X.w X.K X.mg X.base CX k f fd ps sp)(hr:Room (k+1) X.A)(hg:Gl X x)(hm:X.mg x=some (.ref C))(hb:Binds X.K fd ps ds)(hd:Vals dvs ds)(hx:eO CX X E)
  (hdb:(x==("__debug__":Str))=false:=by decide):PE X (.Call (.Name x p) [] [] pos) (jV C sp dvs E pD):=by
 intro pins s σ H Q I h;refine wpAny_Call_Name_kw (gX I hg hm ?_ hdb);exact W.callWith_K0 I.kIn M.kp (oI (us:=[]) M F hr hb hd hx I .nil h)
end
section
variable {X:Cx} {CX:CXT} {k:Nat} {f C:Addr} {fd:FuncData} {ps ks:List Str} {sp:Sp} {E:XK} {x m:Str} {p pos apos kpos:Pos} {e o:Expr} {es:List Expr} {kws:List Keyword} {te ta:TE} {t tk:TA} {nm:Option Str}
variable {g:List Value->List Value->List Value} {gV:List V->List V->List V}
end
structure aD(N P:List Str)(sc:Scope):Prop where
 kind:sc.kind=.function
 co:sc.isCoroutine=false
 gen:sc.isGenerator=false
 nd:N.Nodup
 pre:N.take P.length=P
 par:∀x∈P,sc.names.lookup x=some .local\/sc.names.lookup x=some .cell
 nofree:∀y∈sc.names,y.2≠.free
theorem kD{kindOf:Str->Option NameKind}{x:Str}:∀{binds:List (Str×Value)} {m:Str->Option Value},(∀v,(x,v)∉binds)->bindL kindOf binds m x=m x
 | [],_,_=>rfl
 | (n,v)::r,m,h=>by
  unfold bindL;rw [kD fun w hw=>h w (zq5 _ hw)]
  split
  ·have:x≠n:=by rintro rfl;exact h v dJ
   simp [this]
  ·rfl
theorem kB{kindOf:Str->Option NameKind}{x:Str}:∀{binds:List (Str×Value)} {m:Str->Option Value},(∀v,(x,v)∉binds)->bindC kindOf binds m x=m x
 | [],_,_=>rfl
 | (n,v)::r,m,h=>by
  unfold bindC;rw [kB fun w hw=>h w (zq5 _ hw)]
  split
  ·rfl
  ·have:x≠n:=by rintro rfl;exact h v dJ
   simp [this]
theorem kC{kindOf:Str->Option NameKind}{x:Str}{v:Value}:∀{P:List Str} {vs:List Value} {i:Nat} {m:Str->Option Value},P.Nodup->P[i]?=some x->vs[i]?=some v->kindOf x=some .local->
  bindL kindOf (P.zip vs) m x=some v
 | [],_,_,_,_,h,_,_=>by simp at h
 |_::_,[],_,_,_,_,h,_=>by simp at h
 |p::P,w::vs,0,m,nd,h1,h2,hk=>by
  simp at h1 h2;subst h1;subst h2;show bindL kindOf ((p,w)::P.zip vs) m p=_;unfold bindL;rw [kD fun v hv=>(zq41.mp nd).1 (yo hv).1,if_pos hk];simp
 |p::P,w::vs,i+1,m,nd,h1,h2,hk=>by show bindL kindOf ((p,w)::P.zip vs) m x=_;unfold bindL;exact kC (i:=i) (zq41.mp nd).2 (by simpa using h1) (by simpa using h2) hk
theorem kA{kindOf:Str->Option NameKind}{x:Str}{v:Value}:∀{P:List Str} {vs:List Value} {i:Nat} {m:Str->Option Value},P.Nodup->P[i]?=some x->vs[i]?=some v->kindOf x≠some .local->
  bindC kindOf (P.zip vs) m x=some v
 | [],_,_,_,_,h,_,_=>by simp at h
 |_::_,[],_,_,_,_,h,_=>by simp at h
 |p::P,w::vs,0,m,nd,h1,h2,hk=>by
  simp at h1 h2;subst h1;subst h2;show bindC kindOf ((p,w)::P.zip vs) m p=_;unfold bindC;rw [kB fun v hv=>(zq41.mp nd).1 (yo hv).1,if_neg hk];simp
 |p::P,w::vs,i+1,m,nd,h1,h2,hk=>by show bindC kindOf ((p,w)::P.zip vs) m x=_;unfold bindC;exact kA (i:=i) (zq41.mp nd).2 (by simpa using h1) (by simpa using h2) hk
noncomputable def aM(N:List Str)(vs:List V):St:=vs.map some++List.replicate (N.length-vs.length) none
noncomputable def pX(CX:CXT)(P:Program)(w:World)(K:W.Frag)(mg:Str->Option Value)(base:Heap)(N:List Str)(qual:Str)(scope:Scope)(f:Addr)(cd:Value)(A:Around)(outer:List Env)(s:Shared)(H:Hp)(E:XK):Cx where
 prog:=P
 w:=w
 K:=K
 mg:=mg
 base:=base
 A:=A.deeper (envOfC qual scope s.heap.objs.size f cd)
 N:=N
 s₀:=s
 H₀:=H
 env:=envOfC qual scope s.heap.objs.size f cd
 outer:=outer
 stack:=envOfC qual scope s.heap.objs.size f cd::outer
 ex:=[]
 calm:=true
 fn:=fun _=>true
 pn:=[]
 xe:=fun e s'=>wpAny (model P w) (A.deeper (envOfC qual scope s.heap.objs.size f cd)) (leaving (envOfC qual scope s.heap.objs.size f cd) e) (fun _ s''=>CX outer H s E e s'') (fun e' s''=>CX outer H s E e' s'') s'
theorem nA{sc:Scope}{n:Nat}{x:Str}(h:sc.names.lookup x=some .cell):∃c,(cellsFrom n sc.names []).lookup x=some c:=by have q:=W.cellsFrom_some sc.names n [] (.inl h);exact zq132.mp q
theorem u9{CX:CXT}{P:Program}{w:World}{K:W.Frag}{mg:Str->Option Value}{base:Heap}{N ps:List Str}{qual:Str}{scope:Scope}{f:Addr}{cd:Value}{A:Around}{outer:List Env}{s s1:Shared}{H:Hp}{E:XK}{us:List Value}{vs:List V}
  (S:aD N ps scope) (hd:A.handled=none) (e0:Env0 P w K mg base A outer s H) (hl:vs.length=ps.length) (r:Vals vs us)
  (x:InCallC s s.heap.objs.size (bindL (envOfC qual scope s.heap.objs.size f cd).kindOf (ps.zip us) fun _=>none) (cellsFrom (s.heap.objs.size+1) scope.names []) (bindC (envOfC qual scope s.heap.objs.size f cd).kindOf (ps.zip us) fun _=>none) s1) :
  Inv (pX CX P w K mg base N qual scope f cd A outer s H E) [] (aM N vs) H s1:=by
 have hpl:ps.length<=N.length:=by have:=congrArg List.length S.pre;rw [d9] at this;omega
 obtain ⟨h1,tk,rfl,hk⟩:=x.done;have noA:∀b:Addr,b∉(pX CX P w K mg base N qual scope f cd A outer s H E).ex:=fun b z=>absurd (show b∈([]:List Addr) from z) (by simp);refine ⟨⟨e0.mod,S.kind,rfl,rfl,zq0 _,fun y z c h1 h2=>?_,fun y hy=>?_,fun y c _ h=>?_,fun _=>hd,Around.frames_deeper e0.frames,.inr ⟨rfl,rfl⟩,fun b z=>absurd z (noA b),e0.bs,e0.bsz,fun b _ _=>noA b,fun b z=>absurd z (noA b),e0.funs,e0.frf⟩,
  rfl,e0.bare,Un.kept hk,⟨_,x.toInCall.ns,fun i y v h1 h2 h3=>?_⟩,fun y c h=>⟨_,x.cell y c h⟩,e0.hok.fresh (zq0 _),fun y c h=>?_,fun p hp=>absurd (show p∈([]:List (Addr×Obj)) from hp) (by simp),e0.hok.kept hk,?_⟩
 ·exact name_of_addr x.apart (PySem.mem_of_lookup h1) (PySem.mem_of_lookup h2)
 ·have hy:scope.names.lookup y=some .cell\/scope.names.lookup y=some .free:=hy;rcases hy with hy | hy
  ·exact nA hy
  ·exact absurd rfl (S.nofree _ (PySem.mem_of_lookup hy))
 ·exact mG (x.above y c (PySem.mem_of_lookup h))
 ·have hi:i<vs.length:=by
   unfold aM at h2
   by_cases hi:i<vs.length
   ·exact hi
   ·rw [iJ (by simpa using hi)] at h2;rw [yp] at h2
    split at h2<;>cases h2
  have ha:vs[i]?=some v:=by
   unfold aM at h2;rw [j3 (by simpa using hi),bM] at h2
   cases e:vs[i]? with
   |none=>rw [e] at h2;cases h2
   |some a=>rw [e] at h2;cases h2;rfl
  obtain ⟨u,hu,rv⟩:=r.get ha;have hp:ps[i]?=some y:=by rw [<- S.pre,List.getElem?_take_of_lt (by omega)];exact h1
  have ndP:ps.Nodup:=by rw [<- S.pre];exact S.nd.sublist (List.take_sublist _ _)
  refine ⟨u,rv,?_⟩;rcases S.par y (zq8 hp) with k | k
  ·exact .inl ⟨k,kC ndP hp hu k⟩
  ·obtain ⟨c,e⟩:=nA (n:=s.heap.objs.size+1) k;refine .inr ⟨.inl k,c,e,?_⟩;have q:=x.cell y c e;rw [kA ndP hp hu (by show scope.names.lookup y≠_;rw [k];decide)] at q;exact q
 ·exact e0.hok.fresh (mG (x.above y c (PySem.mem_of_lookup h)))
 ·unfold aM;show _=N.length;rw [zq3,zq1,yq];omega
theorem Dz{CX:CXT}{P:Program}{w:World}{K:W.Frag}{mg:Str->Option Value}{base:Heap}{k:Nat}{f:Addr}{name qual:Str}{params:Arguments}{body:List Stmt}{scope:Scope}{dV kV doc pm cdv ct oc:Value}{an od:Option Addr}
  {osl:Array (Option Value)} {N ps:List Str} {sp:Sp} (lk:K.lookup f=some ⟨oc,od,.func (W.fnOf name qual params body scope dV kV doc pm an cdv ct),osl⟩) (hcd:W.codeIn K cdv qual=true) (S:aD N ps scope)
  (len:∀vs H Q E,sp vs H Q E->vs.length=ps.length)
  (hbody:∀(A:Around)(outer:List Env)(s:Shared)(H:Hp)(vs:List V)(Q:VK)(E:XK),Room k (A.deeper (envOfC qual scope s.heap.objs.size f cdv))->sp vs H Q E->
   ∃t,PSs (pX CX P w K mg base N qual scope f cdv A outer s H E) body t/\t {nx:=fun _ H'=>Q .non H',rt:=Q} (aM N vs) H) :
  FnOk P w K mg base CX (k+1) f (W.fnOf name qual params body scope dV kV doc pm an cdv ct) ps sp:=by
 refine ⟨len,fun A outer s H args us vs Q E hr e0 hb r hsp=>?_⟩;have hl:=len _ _ _ _ hsp;have KX:K.In s.heap:=e0.mod.kin.keeps fun b o e=>(e0.bs b o e).1;have lim:s.heap.NoLimit:=e0.mod.nolimit.keeps fun b o e=>(e0.bs b o e).1;have hkind:∀y∈ps.zip us,scope.names.lookup y.1=some .local\/(scope.names.lookup y.1=some .cell/\((cellsFrom (s.heap.objs.size+1) scope.names []).lookup y.1).isSome=true):=fun ⟨n,v⟩ hy=>by
  rcases S.par n (yo hy).1 with q | q
  ·exact .inl q
  ·exact .inr ⟨q,W.cellsFrom_some _ _ _ (.inl q)⟩
 refine codeAny_call_function hr.depth (KX _ _ lk) rfl S.co S.gen rfl (W.codeRec_of KX hcd) (hb _ _ _ _ ?_);refine wpAny_newFunctionEnv_cells S.kind hkind fun env he s1 x=>?_;subst he;refine ⟨lim.keeps x.toInCall.keep,codeAny_func ?_⟩;obtain ⟨t,ht,hq⟩:=hbody A outer s H vs Q E (hr.deeper _) hsp;have I:Inv (pX CX P w K mg base N qual scope f cdv A outer s H E) [] (aM N vs) H s1:=u9 S hr.hd e0 hl r x;refine wpAny_mono (ht [] s1 (aM N vs) H _ I hq) (fun fl s' hs=>?_) fun e s' hs=>hs;have fin:∀{σ':St} {H':Hp} {v:V} {u:Value},Inv (pX CX P w K mg base N qual scope f cdv A outer s H E) [] σ' H' s'->RelV v u->Q v H'->CE outer P w H s Q u s':=
  fun {σ' H' v u} J rv q=>⟨v,H',J.os,J.bare,J.base,J.hok,rv,q⟩
 cases fl with
 |ret u=>
  obtain ⟨v,σ',H',J,rv,q⟩:=hs;exact fin J rv q
 |next=>
  obtain ⟨σ',H',J,q⟩:=hs;exact fin (v:=V.non) (u:=Value.none) J rfl q
 |brk=>
  obtain ⟨_,_,_,q⟩:=hs;exact False.elim q
 |cont=>obtain ⟨_,_,_,q⟩:=hs;exact False.elim q
end L2
namespace L2
section
variable {X:Cx} {x:Str} {p pos:Pos} {e:Expr} {es:List Expr} {t:TA} {id T:String} {r:List V->Hp->VK->Prop}
noncomputable def tCB(r:List V->Hp->VK->Prop)(t:TA):TE:=fun σ H Q=>t σ H fun vs H1=>r vs H1 Q
theorem wK(hc:dM X (.builtin id) r)(hg:Gl X x)(hm:X.mg x=none)(hv:bootBuiltins x=some (.builtin id))(ha:PA X (e::es) t)(hn:x≠"__name__":=by decide) (hdb:(x==("__debug__":Str))=false:=by decide)
  (he:starEach (e::es) X.env=(false,eval e X.env)::starEach es X.env:=by rfl) (hpl:(backTo pos (starEach es X.env)).any (·.1)=false:=by rfl):PE X (.Call (.Name x p) (e::es) [] pos) (tCB r t):=by
 intro pins s σ H Q I h;refine wpAny_Call_Name_kw (dW I hg hm hv ?_ hn hdb);exact PyProof.Rows.callWith_builtin1 (thn (ha pos pins s σ H _ I h) fun us s1 ⟨vs,H1,I1,r1,q1⟩=>hc pins s1 σ H1 vs us Q I1 r1 q1) he hpl
theorem uw(hc:dM X (.type T) r)(hg:Gl X x)(hm:X.mg x=none)(hv:bootBuiltins x=some (.type T))(ha:PA X (e::es) t)(hn:x≠"__name__":=by decide) (hdb:(x==("__debug__":Str))=false:=by decide)
  (he:starEach (e::es) X.env=(false,eval e X.env)::starEach es X.env:=by rfl) (hpl:(backTo pos (starEach es X.env)).any (·.1)=false:=by rfl):PE X (.Call (.Name x p) (e::es) [] pos) (tCB r t):=by
 intro pins s σ H Q I h;refine wpAny_Call_Name_kw (dW I hg hm hv ?_ hn hdb);exact PyProof.Rows.callWith_type1 (thn (ha pos pins s σ H _ I h) fun us s1 ⟨vs,H1,I1,r1,q1⟩=>hc pins s1 σ H1 vs us Q I1 r1 q1) he hpl
end
end L2
end
namespace HT
open PySem PyProof.Rows
section
open PySem.SeqAt
open PySem.AutoSeq1 (wpAny_loadPart')
open PySem.MeetsSeq PySem.MeetsSeq2 PySem.MeetsSeq3
end
section
variable {prog:Program} {w:World} {A:Around} {E:Value->Shared->Prop} {s:Shared}
noncomputable def sIx(n d:Nat):Option Int->Nat
 |none=>d
 |some v=>if v<0 then (v+(n:Int)).toNat else min v.toNat n
theorem jN(n d:Nat):sIx n d none=d:=rfl
theorem jb(n d k:Nat):sIx n d (some (k:Int))=min k n:=by show (if (k:Int)<0 then ((k:Int)+(n:Int)).toNat else min (k:Int).toNat n)=min k n;rw [if_neg (by omega),dF]
theorem D4(n d:Nat)(hd:d<=n)(o:Option Int):sIx n d o<=n:=by
 cases o with
 |none=>exact hd
 |some v=>
  show (if v<0 then (v+(n:Int)).toNat else min v.toNat n)<=n
  by_cases hv:v<0
  ·rw [if_pos hv];omega
  ·rw [if_neg hv];exact AF _ _
theorem rE(v:Int)(n d:Nat):(if v<0 then max (v+(n:Int)) 0 else min v (n:Int))=((sIx n d (some v):Nat):Int):=by
 show (if v<0 then max (v+(n:Int)) 0 else min v (n:Int))=(((if v<0 then (v+(n:Int)).toNat else min v.toNat n):Nat):Int)
 by_cases hv:v<0
 ·simp only [if_pos hv];omega
 ·simp only [if_neg hv];omega
theorem pT(lo hi:Option Int)(n:Nat):Builtin.Slice.sliceAdjust lo hi 1 (n:Int)=(((sIx n 0 lo:Nat):Int),((sIx n n hi:Nat):Int)):=by
 have h1:¬((1:Int)<0):=by omega
 unfold Builtin.Slice.sliceAdjust;simp only [h1,if_false];refine Prod.ext ?_ ?_
 ·cases lo with
  |none=>rfl
  |some v=>exact rE v n 0
 ·cases hi with
  |none=>rfl
  |some v=>exact rE v n n
theorem qo(i j:Nat):Builtin.Slice.slicePlaces (i:Int) (j:Int) 1=j-i:=by
 unfold Builtin.Slice.slicePlaces;have h1:(1:Int)>0:=by omega
 simp only [h1,if_true,Int.ediv_one]
 split<;>omega
theorem jQ{v:Value}{o:Option Int}{Q:Option Int->Shared->Prop}(p:IsPart v o)(h:Q o s):wpAny (model prog w) A (Builtin.Slice.slicePartIndex v) Q E s:=by
 cases p with
 |none=>exact slicePart_none h
 |int i t=>exact slicePart_int h
theorem iC{sl:Addr}{vl vu:Value}{lo hi:Option Int}{n:Nat}{Q:Int×Int×Nat->Shared->Prop}(hs:s.heap.IsSliceOf sl vl vu .none)(pl:IsPart vl lo)(pu:IsPart vu hi)
  (h:Q (((sIx n 0 lo:Nat):Int),1,sIx n n hi-sIx n 0 lo) s):wpAny (model prog w) A (Builtin.Slice.sliceApplied (.ref sl) (pure (n:Int))) Q E s:=by
 obtain ⟨os,hos,hcs,hds⟩:=id hs;unfold Builtin.Slice.sliceApplied Builtin.Slice.sliceFields;refine wpAny_bind (wpAny_bind (wpAny_field hos hds (x:=vl) rfl (wpAny_bind (wpAny_field hos hds (x:=vu) rfl (wpAny_bind (wpAny_field hos hds (x:=.none) rfl (wpAny_pure ?_)))))));refine wpAny_bind (slicePart_none ?_);show wpAny _ _ (if ((1:Int)==0)=true then _ else _) _ _ s;rw [if_neg (by decide)];refine wpAny_bind (jQ pl (wpAny_bind (jQ pu (wpAny_bind (wpAny_pure ?_)))));show wpAny _ _ (match Builtin.Slice.sliceAdjust lo hi 1 (n:Int) with | (lo,hi)=>pure (lo,(1:Int),Builtin.Slice.slicePlaces lo hi 1)) _ _ s;rw [pT lo hi n];show wpAny _ _ (pure (((sIx n 0 lo:Nat):Int),(1:Int),Builtin.Slice.slicePlaces ((sIx n 0 lo:Nat):Int) ((sIx n n hi:Nat):Int) 1)) _ _ s;rw [qo];exact wpAny_pure h
theorem wW(xs:Array Value)(i k:Nat):((List.range k).filterMap fun (m:Nat)=>xs[((i:Int)+(m:Int) * 1).toNat]?).toArray=((xs.toList.drop i).take k).toArray:=by
 have e:(fun (m:Nat)=>xs[((i:Int)+(m:Int) * 1).toNat]?)=fun m=>xs[i+m]?:=by
  funext m
  have:((i:Int)+(m:Int) * 1).toNat=i+m:=by omega
  rw [this]
 rw [e];have:=pick_run xs i k;rw [List.filterMap_map] at this;have e2:((fun x=>xs[x]?) ∘ fun x=>i+x)=fun m=>xs[i+m]?:=rfl;rw [e2] at this;rw [this]
theorem gT{t sl:Addr}{items:Array Value}{vl vu:Value}{lo hi:Option Int}{Q:Value->Shared->Prop}(ht:IsTup s.heap t items)(hs:s.heap.IsSliceOf sl vl vu .none)(pl:IsPart vl lo)(pu:IsPart vu hi)
  (hw:¬(sIx items.size 0 lo=0/\sIx items.size items.size hi=items.size))
  (h:Q (.ref s.heap.objs.size) {s with heap:=s.heap.push {cls:=.type "tuple",data:=.seq ((items.toList.drop (sIx items.size 0 lo)).take (sIx items.size items.size hi-sIx items.size 0 lo)).toArray}})
  (hsz:items.size<=sizeLine):wpAny (model prog w) A (getItem (.ref t) (.ref sl)) Q E s:=by
 have htake:sizeOk (.seq ((items.toList.drop (sIx items.size 0 lo)).take (sIx items.size items.size hi-sIx items.size 0 lo)).toArray):=by show ((items.toList.drop (sIx items.size 0 lo)).take (sIx items.size items.size hi-sIx items.size 0 lo)).toArray.size<=sizeLine;rw [eM,d9,yS,Array.length_toList];omega
 have hj:sIx items.size items.size hi<=items.size:=D4 _ _ (zq0 _) hi;obtain ⟨os,hos,hcs,hds⟩:=id hs;have hTs:s.TypeIs (.ref sl) "slice":=⟨os,hos,hcs⟩
 unfold getItem
 try with_reducible refine wpAny_holding ?_
 first | refine wpAny_bind (wpAny_pure ?_) | skip
 refine wpAny_bind (wpAny_sequenceKey ht.typeIs (by decide) ?_);refine wpAny_bind (wpAny_callSpecial?_slot (name:=Str.ofString "__getitem__") ht.typeIs PyProof.Rows.slot_tuple_getitem
  (wpAny_call_entry PyProof.Rows.slot_tuple_getitem ht.typeIs entry_tuple_getitem ?_ (args_tuple_getitem _ _)))
 show wpAny _ _ (Builtin.Tuple.tupleItemsOf (.ref t) >>= _) _ _ s;refine wpAny_bind (tupleItemsOf_ ht ?_);refine wpAny_bind (wpAny_typeOf hTs ?_);rw [if_pos (by decide)];refine wpAny_bind (iC hs pl pu ?_);have hno:¬((((sIx items.size 0 lo:Nat):Int)==0&&(1:Int)==1&&(sIx items.size items.size hi-sIx items.size 0 lo)==items.size)=true):=by intro q;rw [dc,dc] at q;have q1:((sIx items.size 0 lo:Nat):Int)=0:=eq_of_beq q.1.1;have q2:sIx items.size items.size hi-sIx items.size 0 lo=items.size:=eq_of_beq q.2;exact hw ⟨by omega,by omega⟩
 show wpAny _ _ (if (((sIx items.size 0 lo:Nat):Int)==0&&(1:Int)==1&&(sIx items.size items.size hi-sIx items.size 0 lo)==items.size)=true then _ else _) _ _ s;rw [if_neg hno,wW]
 first
  |exact wpAny_bind (m:=Builtin.Tuple.tupleExact _) (wpAny_newObj_type (wpAny_pure ⟨_,rfl,wpAny_pure h⟩) htake)
  |exact wpAny_bind (m:=Builtin.Tuple.tupleExact _) (wpAny_newObj_type (wpAny_bind (wpAny_pure (wpAny_pure ⟨_,rfl,wpAny_pure h⟩))) htake)
  |exact wpAny_bind (wpAny_bind (m:=Builtin.Tuple.tupleExact _) (wpAny_newObj_type (wpAny_pure (wpAny_pure ⟨_,rfl,wpAny_pure h⟩)) htake))
  |exact wpAny_bind (wpAny_bind (m:=Builtin.Tuple.tupleExact _) (wpAny_newObj_type (wpAny_pure ⟨_,rfl,wpAny_pure h⟩) htake))
end
end HT
section
open PySem PySem.Spec PyProof.Rows
namespace L2
noncomputable abbrev TO:=St->Hp->(Option Int->Hp->Prop)->Prop
noncomputable def PO(X:Cx)(e:Option Expr)(t:TO):Prop:=
 ∀(pins:List (Addr×Obj)) (s:Shared) (σ:St) (H:Hp) (Q:Option Int->Hp->Prop),Inv X pins σ H s->t σ H Q->
  wpAny (model X.prog X.w) X.A (evalPart e X.env) (fun u s'=>∃o H',Inv X pins σ H' s'/\IsPart u o/\Q o H') X.xe s
noncomputable def sY:TO:=fun _ H Q=>Q none H
noncomputable def B9(t:TE):TO:=fun σ H Q=>t σ H fun x H1=>∃i,x=.int i/\Q (some i) H1
section
variable {X:Cx} {e:Expr} {te:TE} {lo hi:Option Expr} {tl th:TO} {pos p2:Pos}
noncomputable def SlR(X:Cx)(r:V->Option Int->Option Int->Hp->VK->Prop):Prop:=
 ∀(pins:List (Addr×Obj)) (s:Shared) (σ:St) (H:Hp) (x:V) (v vl vu:Value) (lo hi:Option Int) (sl:Addr) (Q:VK),Inv X pins σ H s->RelV x v->s.heap.IsSliceOf sl vl vu .none->IsPart vl lo->IsPart vu hi->r x lo hi H Q->
  ∃T id,typeLookup (.type T) "__getitem__"=pure (some (.builtin id))/\s.TypeIs v T/\wpAny (model X.prog X.w) X.A (getItem v (.ref sl)) (EP X pins σ Q) X.xe s
noncomputable def tSl(r:V->Option Int->Option Int->Hp->VK->Prop)(te:TE)(tl th:TO):TE:=fun σ H Q=>te σ H fun x H1=>tl σ H1 fun l H2=>th σ H2 fun u H3=>r x l u H3 Q
noncomputable def dU(xs:List V)(lo hi:Option Int):List V:=(xs.drop (HT.sIx xs.length 0 lo)).take (HT.sIx xs.length xs.length hi-HT.sIx xs.length 0 lo)
theorem iN(xs:List V)(lo hi:Option Int):(dU xs lo hi).length<=xs.length:=by unfold dU;rw [d9,yS];omega
noncomputable def DU(K:W.Frag):V->Option Int->Option Int->Hp->VK->Prop:=fun x lo hi H Q=>∃a xs,x=.ref a/\SqT K H a xs/\
 ¬(HT.sIx xs.length 0 lo=0/\HT.sIx xs.length xs.length hi=xs.length)/\∀p,H p=none->Q (.ref p) (upd H p (.tup (dU xs lo hi)))
theorem mq:SlR X (DU X.K):=by
 intro pins s σ H x v vl vu lo hi sl Q I rx hs pl pu h;obtain ⟨a,xs,rfl,hx,hw,q⟩:=h
 cases rx
 obtain ⟨its,r,ht,hz⟩:=I.tuple hx;have hlen:its.toArray.size=xs.length:=by rw [eM];exact r.length.symm
 refine ⟨"tuple",_,PyProof.Rows.slot_tuple_getitem.lookup,ht.typeIs,?_⟩;refine HT.gT ht hs pl pu (by rw [hlen];exact hw) ?_ (by rw [hlen];exact hz);rw [hlen];refine ⟨.ref s.heap.objs.size,_,I.laid (t':=s.toks) (o:=.tup (dU xs lo hi)) (fun b ob q=>c9 _ q) (zq0 _) ?_,rfl,q _ (I.hok.fresh (zq0 _))⟩;exact ⟨cL (iN xs lo hi) hz,_,(r.drop (HT.sIx xs.length 0 lo)).take (HT.sIx xs.length xs.length hi-HT.sIx xs.length 0 lo),IsTup.new _ _⟩
end
end L2
namespace L2
noncomputable def ixN(n:Nat)(i:Int):Option Nat:=if 0<=i then (if i<n then some i.toNat else none) else if -(n:Int)<=i then some (i+n).toNat else none
noncomputable def atI{α:Type}(xs:List α)(i:Int):Option α:=(ixN xs.length i).bind fun j=>xs[j]?
theorem rR{n:Nat}{i:Int}{j:Nat}(h:ixN n i=some j):seqIndex? i n=some j/\j<n/\-(n:Int)<=i/\i<n:=by
 unfold ixN at h
 by_cases h0:0<=i
 ·rw [if_pos h0] at h
  by_cases h1:i<n
  ·rw [if_pos h1] at h;have e:i.toNat=j:=Option.some.inj h;exact ⟨by rw [seqIndex_of h0 h1,e],by omega,by omega,h1⟩
  ·rw [if_neg h1] at h;cases h
 ·rw [if_neg h0] at h
  by_cases h1:-(n:Int)<=i
  ·rw [if_pos h1] at h;have e:(i+n).toNat=j:=Option.some.inj h;exact ⟨by rw [seqIndex_neg (by omega) h1,e],by omega,h1,by omega⟩
  ·rw [if_neg h1] at h;cases h
theorem lK{α:Type}{xs:List α}{i:Int}{v:α}(h:atI xs i=some v):∃j,seqIndex? i xs.length=some j/\xs[j]?=some v/\j<xs.length/\-(xs.length:Int)<=i/\i<xs.length:=by
 unfold atI at h
 cases e:ixN xs.length i with
 |none=>rw [e] at h;cases h
 |some j=>rw [e] at h;obtain ⟨h1,h2,h3,h4⟩:=rR e;exact ⟨j,h1,h,h2,h3,h4⟩
theorem ba{α:Type}{xs:List α}{j:Nat}{v:α}(h:xs[j]?=some v):atI xs (j:Int)=some v:=by
 have hj:j<xs.length:=(zq10.mp h).1;have e:ixN xs.length (j:Int)=some j:=by unfold ixN;rw [if_pos (by omega),if_pos (by omega)];simp
 unfold atI;rw [e];exact h
theorem mP{α:Type}(xs:List α)(v:α):atI (xs++[v]) (-1)=some v:=by
 have hl:(xs++[v]).length=xs.length+1:=by simp
 have e:ixN (xs++[v]).length (-1)=some xs.length:=by unfold ixN;rw [hl,if_neg (by decide),if_pos (by omega)];congr 1;omega
 unfold atI;rw [e];show (xs++[v])[xs.length]?=some v;simp
noncomputable def z7(b:Expr):Prop:=∀o i,subscripted b false o i=operate [o,i] (getItem o i)
noncomputable def IxR(X:Cx)(r:R2):Prop:=
 ∀(value slice:Expr)(pins:List (Addr×Obj)) (s:Shared) (σ:St) (H:Hp) (x y:V) (v u:Value) (Q:VK),Inv X pins σ H s->RelV x v->RelV y u->r x y H Q->
  subscripted slice false v u=operate [v,u] (getItem v u)->wpAny (model X.prog X.w) X.A (subscriptTail value slice v u) (EP X pins σ Q) X.xe s
noncomputable def MtR(X:Cx)(id:String)(r:V->List V->Hp->VK->Prop):Prop:=
 ∀(pins:List (Addr×Obj)) (s:Shared) (σ:St) (H:Hp) (x:V) (xs:List V) (v:Value) (us:List Value) (Q:VK),Inv X pins σ H s->RelV x v->Vals xs us->r x xs H Q->
  wpAny (model X.prog X.w) X.A (call (.builtin id) (v::us)) (EP X pins σ Q) X.xe s
section
variable {X:Cx} {a b:Expr} {ta tb:TE} {pos:Pos}
noncomputable def Cd(K:W.Frag):R2:=fun x y H Q=>∃p xs i v,x=.ref p/\y=.int i/\SqL K H p xs/\atI xs i=some v/\Q v H
noncomputable def Ce(K:W.Frag):R2:=fun x y H Q=>∃p xs i v,x=.ref p/\y=.int i/\SqT K H p xs/\atI xs i=some v/\Q v H
noncomputable def DR:R2:=fun x y H Q=>∃z i c,x=.str z/\y=.int i/\z.length<=sizeLine/\atI z.cps.toList i=some c/\Q (.str ⟨#[c]⟩) H
theorem aS:IxR X (Cd X.K):=by
 intro value slice pins s σ H x y v u Q I rx ry h hs;obtain ⟨p,xs,i,z,rfl,rfl,hq,he,q⟩:=h
 cases rx
 obtain ⟨t,rfl⟩:=ry;obtain ⟨its,r,pl,hz⟩:=I.list hq;obtain ⟨j,h1,h2,h3,h4,h5⟩:=lK he;obtain ⟨w,ew,rw'⟩:=r.get h2;have hl:=r.length;have hn:=jy;have fin:EP X pins σ Q w s:=⟨z,H,I,rw',q⟩
 by_cases h0:0<=i
 ·have hj:i.toNat=j:=by rw [seqIndex_of h0 h5] at h1;exact Option.some.inj h1
  exact item_listR pl.isList h0 (by omega) (by rw [hj];simpa using ew) fin hs
 ·have hj:(i+(its.toArray.size:Int)).toNat=j:=by rw [seqIndex_neg (by omega) h4] at h1;rw [eM,<- hl];exact Option.some.inj h1
  exact subscriptTail_builtinR (x:=w) pl.isList.typeIs slot_list_getitem.lookup
   (wpAny_getItem_list_neg (Q:=fun r s'=>r=w/\EP X pins σ Q r s') pl.isList (by omega) (by rw [eM]<;>omega) (by omega) (by rw [hj];simpa using ew) ⟨rfl,fin⟩) hs
theorem au:IxR X (Ce X.K):=by
 intro value slice pins s σ H x y v u Q I rx ry h hs;obtain ⟨p,xs,i,z,rfl,rfl,hq,he,q⟩:=h
 cases rx
 obtain ⟨t,rfl⟩:=ry;obtain ⟨its,r,pl,hz⟩:=I.tuple hq;obtain ⟨j,h1,h2,h3,h4,h5⟩:=lK he;obtain ⟨w,ew,rw'⟩:=r.get h2;have hl:=r.length;have hn:=jy;have fin:EP X pins σ Q w s:=⟨z,H,I,rw',q⟩
 exact subscriptTail_builtinR (x:=w) pl.typeIs slot_tuple_getitem.lookup
  (getItem_tuple (j:=j) (Q:=fun r s'=>r=w/\EP X pins σ Q r s') pl (by omega) (by omega) (by rw [eM,<- hl];exact h1) (by simpa using ew) ⟨rfl,fin⟩) hs
theorem BG:IxR X DR:=by
 intro value slice pins s σ H x y v u Q I rx ry h hs;obtain ⟨z,i,c,rfl,rfl,hz,he,q⟩:=h;obtain ⟨t,rfl⟩:=rx;obtain ⟨t',rfl⟩:=ry;obtain ⟨j,h1,h2,h3,h4,h5⟩:=lK he;have hl:z.cps.toList.length=z.length:=by simp [Str.length]
 rw [hl] at h1 h4 h5;have hn:=jy;exact tail_any (typeIs_str s z t) slot_str_getitem.lookup (getItem_str (c:=c) (by have e1:decide (i < -(2 ^ 63:Int))=false:=decide_eq_false (by omega);have e2:decide (i ≥ 2 ^ 63)=false:=decide_eq_false (by omega);rw [e1,e2,Bool.or_false]) (by rw [h1];simpa using h2) ⟨.str ⟨#[c]⟩,H,I.tok _,⟨_,rfl⟩,q⟩) hs
theorem qi(its:List Value)(n j:Nat)(u:Value):Obj.mapSeq (·.setIfInBounds j u) {cls:=.type "list",data:=.seq its.toArray n}={cls:=.type "list",data:=.seq (its.set j u).toArray n}:=by simp [Obj.mapSeq]
theorem Inv.lst{pins:List (Addr×Obj)}{σ:St}{H:Hp}{s:Shared}{p:Addr}{xs:List V}(I:Inv X pins σ H s)(h:H p=some (.lst xs)):
  ∃(its:List Value)(n:Nat),Vals xs its/\s.heap.get? p=some {cls:=.type "list",data:=.seq its.toArray n}/\xs.length<=sizeLine:=by
 obtain ⟨z,its,n,r,e⟩:=I.hok p _ h;exact ⟨its,n,r,e,z⟩
theorem Inv.lstUpd{pins:List (Addr×Obj)}{σ:St}{H:Hp}{s:Shared}{p:Addr}{xs ys:List V}{its its':List Value}{n n':Nat}{f:Obj->Obj}(I:Inv X pins σ H s)(h:H p=some (.lst xs))
  (ho:s.heap.get? p=some {cls:=.type "list",data:=.seq its.toArray n}) (hf:f {cls:=.type "list",data:=.seq its.toArray n}={cls:=.type "list",data:=.seq its'.toArray n'}) (r:Vals ys its') (hz:ys.length<=sizeLine) (t:Nat) :
  Inv X pins σ (upd H p (.lst ys)) {s with heap:=s.heap.update p f,toks:=t}:=by
 have e:(s.heap.update p f).get? p=some {cls:=.type "list",data:=.seq its'.toArray n'}:=by rw [yr f ho (by rw [hf]<;>rfl),hf]
 refine I.write (x:=p) (e:=p) (by rw [h];trivial) (.inl rfl) (fun b u hb q=>(Bb _ _ (Ne.symm hb)).trans q) ⟨_,e⟩ ?_;exact ⟨hz,its',n',r,e⟩
noncomputable def DS:V->V->V->Hp->(Hp->Prop)->Prop:=fun o i v H Q=>∃p xs k j,o=.ref p/\i=.int k/\H p=some (.lst xs)/\ixN xs.length k=some j/\Q (upd H p (.lst (xs.set j v)))
theorem jP:Bn X DS:=by
 intro pins s σ H o i v ov iv u Q I ro ri rv h;obtain ⟨p,xs,k,j,rfl,rfl,hp,hj,q⟩:=h
 cases ro
 obtain ⟨t,rfl⟩:=ri;obtain ⟨its,n,r,ho,hz⟩:=I.lst hp;obtain ⟨h1,h2,h3,h4⟩:=rR hj;have hl:=r.length;have hn:=jy;have I':Inv X pins σ (upd H p (.lst (xs.set j v))) {s with heap:=s.heap.update p (Obj.mapSeq (·.setIfInBounds j u))}:=
  I.lstUpd hp ho (qi its n j u) (r.set rv j) (by rw [pM];exact hz) s.toks
 by_cases h0:0<=k
 ·have hk:k.toNat=j:=by rw [seqIndex_of h0 h4] at h1;exact Option.some.inj h1
  exact W.ki_setAt ho h0 (by omega) (by rw [eM,<- hl];exact h4) (by rw [hk];exact ⟨_,I',q⟩)
 ·have hk:(k+(its.toArray.size:Int)).toNat=j:=by rw [seqIndex_neg (by omega) h3] at h1;rw [eM,<- hl];exact Option.some.inj h1
  exact W.ki_setBack ho (by omega) (by rw [eM,<- hl];exact h3) (by omega) (by rw [hk];exact ⟨_,I',q⟩)
theorem mr(lo hi:Option Int)(n:Nat):(sliceBounds lo hi none n).1=((HT.sIx n 0 lo:Nat):Int)/\(sliceBounds lo hi none n).2.1=((HT.sIx n n hi:Nat):Int)/\(sliceBounds lo hi none n).2.2=1:=by
 refine ⟨?_,?_,rfl⟩
 ·cases lo with
  |none=>simp [sliceBounds,HT.sIx]
  |some i=>
   simp only [sliceBounds,HT.sIx,Option.getD_none,show (1:Int)>0 by decide,if_true]
   by_cases h:i<0
   ·simp only [h,if_true]<;>omega
   ·simp only [h,if_false]<;>omega
 ·cases hi with
  |none=>simp [sliceBounds,HT.sIx]
  |some i=>
   simp only [sliceBounds,HT.sIx,Option.getD_none,show (1:Int)>0 by decide,if_true]
   by_cases h:i<0
   ·simp only [h,if_true]<;>omega
   ·simp only [h,if_false]<;>omega
theorem kj(its:List Value)(lo hi:Option Int):slicePick its.toArray lo hi none=((its.drop (HT.sIx its.length 0 lo)).take (HT.sIx its.length its.length hi-HT.sIx its.length 0 lo)).toArray:=by obtain ⟨h1,h2,h3⟩:=mr lo hi its.toArray.size;unfold slicePick;rw [h1,h2,h3];simp only [sliceRange_one,pick_run,List.size_toArray]<;>rfl
noncomputable def DT(K:W.Frag):V->Option Int->Option Int->Hp->VK->Prop:=fun x lo hi H Q=>∃a xs,x=.ref a/\SqL K H a xs/\∀p,H p=none->Q (.ref p) (upd H p (.lst (dU xs lo hi)))
theorem cF:SlR X (DT X.K):=by
 intro pins s σ H x v vl vu lo hi sl Q I rx hs pl pu h;obtain ⟨a,xs,rfl,hx,q⟩:=h
 cases rx
 obtain ⟨its,r,ht,hz⟩:=I.list hx;have hlen:=r.length;refine ⟨"list",_,slot_list_getitem.lookup,ht.isList.typeIs,?_⟩;refine wpAny_getItem_list_slice ht.isList hs pl pu .none (by simp) ?_ (by rw [List.size_toArray]<;>omega);rw [kj,<- hlen];refine ⟨.ref s.heap.objs.size,_,I.laid (t':=s.toks) (o:=.lst (dU xs lo hi)) (fun b ob q=>c9 _ q) (zq0 _) ?_,rfl,q _ (I.hok.fresh (zq0 _))⟩;exact ⟨cL (iN xs lo hi) hz,_,0,(r.drop (HT.sIx xs.length 0 lo)).take (HT.sIx xs.length xs.length hi-HT.sIx xs.length 0 lo),d8 _ rfl⟩
noncomputable def bz:V->Bool
 | .non=>true
 | .bl _=>true
 | .int _=>true
 | .str _=>true
 |_=>false
noncomputable def eqV:V->V->Bool
 | .non,.non=>true
 | .bl a,.bl b=>a==b
 | .bl a,.int b=>(if a then 1 else 0)==b
 | .int a,.bl b=>a==(if b then 1 else 0)
 | .int a,.int b=>a==b
 | .str a,.str b=>a==b
 |_,_=>false
theorem q5{A:Around}{s:Shared}{y x:V}{u v:Value}(ry:RelV y u)(rx:RelV x v)(fy:bz y=true)(fx:bz x=true):SeqAt.EqAt A s u v (eqV y x):=by
 cases y with
 |non=>
  cases ry
  cases x with
  |non=>cases rx;exact SeqAt.EqAt.same _
  |bl b=>cases rx;exact SeqAt.EqAt.none_bool b
  |int b=>obtain ⟨t,rfl⟩:=rx;exact SeqAt.EqAt.none_int b t
  |str b=>obtain ⟨t,rfl⟩:=rx;exact SeqAt.EqAt.none_str b t
  |_=>exact absurd (show false=true from fx) zq7
 |bl a=>
  cases ry
  cases x with
  |non=>cases rx;exact SeqAt.EqAt.bool_none a
  |bl b=>cases rx;exact SeqAt.EqAt.bool_bool a b
  |int b=>obtain ⟨t,rfl⟩:=rx;exact SeqAt.EqAt.bool_int a b t
  |str b=>obtain ⟨t,rfl⟩:=rx;exact SeqAt.EqAt.bool_str a b t
  |_=>exact absurd (show false=true from fx) zq7
 |int a=>
  obtain ⟨t',rfl⟩:=ry
  cases x with
  |non=>cases rx;exact SeqAt.EqAt.int_none a t'
  |bl b=>cases rx;exact SeqAt.EqAt.int_bool a t' b
  |int b=>obtain ⟨t,rfl⟩:=rx;exact SeqAt.EqAt.int_int a t' b t
  |str b=>obtain ⟨t,rfl⟩:=rx;exact SeqAt.EqAt.int_str a t' b t
  |_=>exact absurd (show false=true from fx) zq7
 |str a=>
  obtain ⟨t',rfl⟩:=ry
  cases x with
  |non=>cases rx;exact SeqAt.EqAt.str_none a t'
  |bl b=>cases rx;exact SeqAt.EqAt.str_bool a t' b
  |int b=>obtain ⟨t,rfl⟩:=rx;exact SeqAt.EqAt.str_int a t' b t
  |str b=>obtain ⟨t,rfl⟩:=rx;exact SeqAt.EqAt.str_str a t' b t
  |_=>exact absurd (show false=true from fx) zq7
 |_=>exact absurd (show false=true from fy) zq7
noncomputable def eqU(x:V)(u:Value):Bool:=match u with
 | .none=>eqV .non x
 | .bool b=>eqV (.bl b) x
 | .int i _=>eqV (.int i) x
 | .str z _=>eqV (.str z) x
 |_=>false
theorem q9{x y:V}{u:Value}(r:RelV y u)(f:bz y=true):eqU x u=eqV y x:=by
 cases y with
 |non=>cases r;rfl
 |bl b=>cases r;rfl
 |int i=>obtain ⟨t,rfl⟩:=r;rfl
 |str z=>obtain ⟨t,rfl⟩:=r;rfl
 |_=>exact absurd (show false=true from f) zq7
theorem gK{x:V}:∀{xs:List V} {us:List Value},Vals xs us->xs.all bz=true->us.any (eqU x)=xs.any fun y=>eqV y x
 |_,_,.nil,_=>rfl
 |y::xs,u::us,.cons r t,f=>by rw [qR,dc] at f;rw [pN,pN,q9 r f.1,gK t f.2]
theorem eC{A:Around}{s:Shared}{x:V}{v:Value}(rx:RelV x v)(fx:bz x=true):∀{xs:List V} {us:List Value},Vals xs us->xs.all bz=true->∀u∈us,SeqAt.EqAt A s u v (eqU x u)
 |_,_,.nil,_=>fun u hu=>by cases hu
 |y::xs,u::us,.cons r t,f=>fun u' hu=>by
  rw [qR,dc] at f;rcases zq6.mp hu with rfl | hu
  ·rw [q9 r f.1];exact q5 r rx f.1 fx
  ·exact eC rx fx t f.2 u' hu
noncomputable def inV(x:V)(xs:List V):Bool:=xs.any fun y=>eqV y x
noncomputable def rIn(K:W.Frag)(neg:Bool):R2:=fun x y H Q=>∃p xs,y=.ref p/\(SqL K H p xs\/SqT K H p xs)/\bz x=true/\xs.all bz=true/\Q (.bl (if neg then !inV x xs else inV x xs)) H
theorem cz:OpR X (compareOp .In) (rIn X.K false):=by
 intro pins s σ H x y v u Q I rx ry h;obtain ⟨p,xs,rfl,hq,fx,fs,q⟩:=h
 cases ry
 rcases hq with hq | hq
 ·obtain ⟨its,r,pl,hz⟩:=I.list hq;refine SeqAt.in_listAt (eqU x) pl.isList (fun w hw=>eC rx fx r fs w (by simpa using hw)) ⟨.bl _,H,I,rfl,?_⟩;rw [show its.toArray.any (eqU x)=its.any (eqU x) by simp,gK r fs];exact q
 ·obtain ⟨its,r,pl,hz⟩:=I.tuple hq;refine SeqAt.in_tupleAt (eqU x) pl (fun w hw=>eC rx fx r fs w (by simpa using hw)) ⟨.bl _,H,I,rfl,?_⟩;rw [show its.toArray.any (eqU x)=its.any (eqU x) by simp,gK r fs];exact q
theorem dm:OpR X (compareOp .NotIn) (rIn X.K true):=by
 intro pins s σ H x y v u Q I rx ry h;obtain ⟨p,xs,rfl,hq,fx,fs,q⟩:=h
 cases ry
 rcases hq with hq | hq
 ·obtain ⟨its,r,pl,hz⟩:=I.list hq;refine SeqAt.notIn_listAt (eqU x) pl.isList (fun w hw=>eC rx fx r fs w (by simpa using hw)) ⟨.bl _,H,I,rfl,?_⟩;rw [show its.toArray.any (eqU x)=its.any (eqU x) by simp,gK r fs];exact q
 ·obtain ⟨its,r,pl,hz⟩:=I.tuple hq;refine SeqAt.notIn_tupleAt (eqU x) pl (fun w hw=>eC rx fx r fs w (by simpa using hw)) ⟨.bl _,H,I,rfl,?_⟩;rw [show its.toArray.any (eqU x)=its.any (eqU x) by simp,gK r fs];exact q
theorem ay:dM X (.builtin "len") (fun xs H Q=>∃p ys,xs=[.ref p]/\(SqL X.K H p ys\/SqT X.K H p ys)/\Q (.int ys.length) H):=by
 intro pins s σ H xs us Q I r h;obtain ⟨p,ys,rfl,hq,q⟩:=h;obtain ⟨u,rfl,rx⟩:=gu r
 cases rx
 have hn:=jy;rcases hq with hq | hq
 ·obtain ⟨its,r',pl,hz⟩:=I.list hq;have hlen:=r'.length;exact Calls.call_len_list pl.isList (by simp only [List.size_toArray]<;>omega) ⟨.int ys.length,H,I.tok _,⟨s.toks+1,by rw [eM,hlen]⟩,q⟩
 ·obtain ⟨its,r',pl,hz⟩:=I.tuple hq;have hlen:=r'.length;exact len_tuple pl (by simp only [List.size_toArray]<;>omega) ⟨.int ys.length,H,I.tok _,⟨s.toks+1,by rw [eM,hlen]⟩,q⟩
theorem dg:dM X (.type "list") (fun xs H Q=>∃p ys,xs=[.ref p]/\(SqL X.K H p ys\/SqT X.K H p ys)/\∀l,H l=none->Q (.ref l) (upd H l (.lst ys))):=by
 intro pins s σ H xs us Q I r h;obtain ⟨p,ys,rfl,hq,q⟩:=h;obtain ⟨u,rfl,rx⟩:=gu r
 cases rx
 have fin:∀(its:List Value),Vals ys its->ys.length<=sizeLine->∀(h':Heap)(c':Nat),(∀b o',s.heap.get? b=some o'->h'.get? b=some o')->
   h'.get? s.heap.objs.size=some {cls:=.type "list",dict:=none,data:=.seq its.toArray c',slots:=#[]}->EP X pins σ Q (.ref s.heap.objs.size) {s with heap:=h'}:=fun its r' hz h' c' kp e=>
  ⟨.ref s.heap.objs.size,_,I.laid (t':=s.toks) kp (zq0 _) (show ObjOk X.prog X.w _ h' _ (.lst ys) from ⟨hz,its,c',r',e⟩),rfl,q _ (I.hok.fresh (zq0 _))⟩
 rcases hq with hq | hq
 ·obtain ⟨its,r',pl,hz⟩:=I.list hq;have hlen:=r'.length;obtain ⟨o,ho,hc,n,hd⟩:=pl.isList;exact call_list_seq p (.inl rfl) ho hc hd (fun h' c' kp e=>fin its r' hz h' c' kp e) (by simp only [List.size_toArray]<;>omega)
 ·obtain ⟨its,r',pl,hz⟩:=I.tuple hq;have hlen:=r'.length;obtain ⟨o,ho,hc,n,hd⟩:=pl;exact call_list_seq p (.inr rfl) ho hc hd (fun h' c' kp e=>fin its r' hz h' c' kp e) (by simp only [List.size_toArray]<;>omega)
theorem kf:dM X (.type "tuple") (fun xs H Q=>∃p ys,xs=[.ref p]/\((SqL X.K H p ys/\∀l,H l=none->Q (.ref l) (upd H l (.tup ys)))\/(SqT X.K H p ys/\Q (.ref p) H))):=by
 intro pins s σ H xs us Q I r h;obtain ⟨p,ys,rfl,h⟩:=h;obtain ⟨u,rfl,rx⟩:=gu r
 cases rx
 rcases h with ⟨hq,q⟩ | ⟨hq,q⟩
 ·obtain ⟨its,r',pl,hz⟩:=I.list hq;have hlen:=r'.length;refine call_tuple_list pl.isList (fun h' kp=>?_) (by simp only [List.size_toArray]<;>omega);have I1:Inv X pins σ H {s with heap:=h'}:=I.kept (t':=s.toks) kp;have I2:Inv X pins σ (upd H h'.objs.size (.tup ys)) {s with heap:=h'.push {cls:=.type "tuple",data:=.seq its.toArray}}:=
   I1.laid (t':=s.toks) (fun b o e=>c9 _ e) (zq0 _) (show ObjOk X.prog X.w _ _ _ (.tup ys) from ⟨hz,its,r',IsTup.new _ _⟩)
  exact ⟨.ref h'.objs.size,_,I2,rfl,q _ (I1.hok.fresh (zq0 _))⟩
 ·obtain ⟨its,r',pl,hz⟩:=I.tuple hq;exact call_tuple_same pl ⟨.ref p,H,I,rfl,q⟩
noncomputable def tyV(K:W.Frag)(T:String)(x:V)(H:Hp):Prop:=match x with
 | .str _=>T="str"
 | .int _=>T="int"
 | .ref p=>(T="list"/\∃xs,SqL K H p xs)\/(T="tuple"/\∃o,K.lookup p=some o/\o.cls=.type "tuple"/\o.dict=none)\/
   (T="dict"/\((∃kvs,H p=some (.dK kvs))\/∃kvs,H p=some (.dT kvs)))\/(T="set"/\∃S n,H p=some (.set S n))
 |_=>False
theorem qK{pins:List (Addr×Obj)}{σ:St}{H:Hp}{s:Shared}{T:String}{x:V}{v:Value}(I:Inv X pins σ H s)(r:RelV x v)(ty:tyV X.K T x H):
  s.TypeIs v T/\∀a,v=.ref a->∃ob,s.heap.get? a=some ob/\ob.dict=none:=by
 cases x with
 |str z=>
  obtain ⟨t,rfl⟩:=r
  cases (show T="str" from ty)
  exact ⟨typeIs_str s z t,fun _ e=>nomatch e⟩
 |int i=>
  obtain ⟨t,rfl⟩:=r
  cases (show T="int" from ty)
  exact ⟨typeIs_int s i t,fun _ e=>nomatch e⟩
 |ref p=>
  cases r
  rcases ty with ⟨rfl,xs,hq⟩ | ⟨rfl,o,hk,hc,hd⟩ | ⟨rfl,hk⟩ | ⟨rfl,S,n,hk⟩
  ·obtain ⟨its,_,pl,_⟩:=I.list hq;refine ⟨pl.isList.typeIs,fun a e=>?_⟩
   cases e
   obtain ⟨o,n,e,c,hd,_⟩:=pl;exact ⟨o,e,hd⟩
  ·refine ⟨⟨o,I.kIn p o hk,hc⟩,fun a e=>?_⟩
   cases e
   exact ⟨o,I.kIn _ o hk,hd⟩
  ·have z:∃o,s.heap.get? p=some o/\o.ExactDict:=by
    rcases hk with ⟨kvs,hk⟩ | ⟨kvs,hk⟩
    ·obtain ⟨_,_,_,_,o,_,_,e,ex,_⟩:=I.hok p _ hk;exact ⟨o,e,ex⟩
    ·obtain ⟨_,_,_,_,o,_,_,e,ex,_⟩:=I.hok p _ hk;exact ⟨o,e,ex⟩
   obtain ⟨o,e,ex⟩:=z;refine ⟨⟨o,e,ex.1⟩,fun a e2=>?_⟩
   cases e2
   exact ⟨o,e,ex.2.1⟩
  ·obtain ⟨o,_,_,_,e,ex,_⟩:=I.hok p _ hk;refine ⟨⟨o,e,ex.1⟩,fun a e2=>?_⟩
   cases e2
   exact ⟨o,e,ex.2.1⟩
 |_=>exact False.elim ty
noncomputable def Fy(K:W.Frag)(T:String)(r:V->List V->Hp->VK->Prop)(to:TE):TE:=fun σ H Q=>to σ H fun x H1=>tyV K T x H1/\r x [] H1 Q
noncomputable def tBM(K:W.Frag)(T:String)(r:V->List V->Hp->VK->Prop)(to:TE)(t:TA):TE:=fun σ H Q=>to σ H fun x H1=>tyV K T x H1/\t σ H1 fun xs H2=>r x xs H2 Q
variable {o e:Expr} {es:List Expr} {to:TE} {t:TA} {name:Str} {apos cpos:Pos} {T id:String} {r:V->List V->Hp->VK->Prop}
theorem DO(pa:PlainAttrs T)(slot:Slot T name id)(hty:typeOf (.builtin id)=pure (.type "method_descriptor")) (hm:MtR X id r) (ho:PE X o to) (ha:PA X (e::es) t)
  (hbase:attributeBase o name X.env (eval o X.env)=eval o X.env:=by rfl)
  (hfew:((backTo cpos (starEach (e::es) X.env)).all (fun x=>!x.1)&&(backToKw cpos (keywordEach [] X.env)).all (fun x=>x.1.isSome)
   && decide ((e::es).length+([]:List Keyword).length+(if ([]:List Keyword).isEmpty then 0 else 1)<30))=true:=by rfl)
  (hline:(apos.endLine==cpos.line)=true:=by rfl) (hs:starEach (e::es) X.env=(false,eval e X.env)::starEach es X.env:=by rfl) (hplain:(backTo cpos (starEach es X.env)).any (·.1)=false:=by rfl) :
  PE X (.Call (.Attribute o name apos) (e::es) [] cpos) (tBM X.K T r to t):=by
 intro pins s σ H Q I h;refine wpAny_Call_method_late hbase hfew hline rfl (thn (ho pins s σ H _ I h) fun v s1 hhx=>?_);obtain ⟨x,H1,I1,r1,ty,q1⟩:=hhx;obtain ⟨h1,h2⟩:=qK I1 r1 ty;refine ⟨T,id,pa,slot,hty,h1,h2,?_⟩;have hA:=ha cpos pins s1 σ H1 _ I1 q1;rw [hs] at hA ⊢;refine Calls.callWith_builtin (by show (false || (backTo cpos (starEach es X.env)).any (·.1))=false;rw [hplain]<;>rfl) (Calls.evalArgs_plain ?_);exact thn hA fun us s2 ⟨vs,H2,I2,r2,q2⟩=>hm pins s2 σ H2 x vs v us Q I2 r1 r2 q2
/- xs.append(e),list.index on a module's tuple .. are MtR facts of 06m -/
end
end L2
namespace L2
noncomputable def MtM(X:Cx)(id:String)(r:V->List V->Hp->VK->Prop):Prop:=
 ∀(pins:List (Addr×Obj)) (s:Shared) (σ:St) (H:Hp) (x:V) (xs:List V) (v:Value) (us:List Value) (Q:VK),Inv X pins σ H s->RelV x v->Vals xs us->r x xs H Q->
  wpAny (model X.prog X.w) X.A (call (.builtin id) (v::us)) (EP X pins σ Q) X.xe s
theorem Vals.one:∀{x:V} {us:List Value},Vals [x] us->∃u,us=[u]/\RelV x u
 |_,_,.cons r .nil=>⟨_,rfl,r⟩
theorem Vals.zero:∀{us:List Value},Vals [] us->us=[]
 |_,.nil=>rfl
section
variable {X:Cx} {pins:List (Addr×Obj)} {σ:St} {H:Hp} {s:Shared} {l b:Addr} {xs ys zs:List V}
theorem Inv.lset{its its':List Value}{n:Nat}{f:Array Value->Array Value}{t':Nat}(I:Inv X pins σ H s)(hH:H l=some (.lst xs))
  (e:s.heap.get? l=some {cls:=.type "list",data:=.seq its.toArray n}) (hf:f its.toArray=its'.toArray) (hv:Vals ys its') (hz:ys.length<=sizeLine) :
  Inv X pins σ (upd H l (.lst ys)) {s with heap:=s.heap.update l (Obj.mapSeq f),toks:=t'}:=by
 have q:=PySem.IsL.update e f;rw [hf] at q;refine I.write (x:=l) (e:=l) (by rw [hH];exact trivial) (.inl rfl) (fun b' u hb hu=>(Bb s.heap (Obj.mapSeq f) (Ne.symm hb)).trans hu) ⟨_,q⟩ ?_;exact ⟨hz,its',_,hv,q⟩
theorem Inv.lnew{its:List Value}{t':Nat}(I:Inv X pins σ H s)(hv:Vals ys its)(hz:ys.length<=sizeLine):
  Inv X pins σ (upd H s.heap.objs.size (.lst ys)) {s with heap:=s.heap.push {cls:=.type "list",data:=.seq its.toArray},toks:=t'}:=
 I.laid (fun _ _ q=>c9 _ q) (zq0 _) ⟨hz,its,0,hv,d8 _ rfl⟩
theorem Inv.fresh(I:Inv X pins σ H s):H s.heap.objs.size=none:=I.hok.fresh (zq0 _)
theorem Inv.lstM(I:Inv X pins σ H s)(hH:H l=some (.lst xs)):xs.length<=sizeLine/\∃(its:List Value)(n:Nat),Vals xs its/\xs.length=its.length/\s.heap.get? l=some {cls:=.type "list",data:=.seq its.toArray n}:=by obtain ⟨z,its,n,r,e⟩:=I.hok l _ hH;exact ⟨z,its,n,r,r.length,e⟩
theorem w9{n:Nat}(h:n<=sizeLine):Builtin.List.listTooLong n=false:=by unfold Builtin.List.listTooLong;exact decide_eq_false (by omega)
end
section
variable {X:Cx}
noncomputable def si:V->List V->Hp->VK->Prop:=fun x vs H Q=>∃l xs y,x=.ref l/\vs=[y]/\H l=some (.lst xs)/\xs.length<sizeLine/\Q .non (upd H l (.lst (xs++[y])))
theorem bj:MtM X "list.append" si:=by
 intro pins s σ H x vs v us Q I rx rv h;obtain ⟨l,xs,y,rfl,rfl,hH,hz,q⟩:=h
 cases rx
 obtain ⟨u,rfl,ru⟩:=rv.one;obtain ⟨z,its,n,r,hl,e⟩:=I.lstM hH;refine call_meets F.slot_list_append ⟨_,e,rfl⟩ F.entry_list_append (F.args_list_append_2 _ _) (PySem.list_append l its.toArray n u (by rw [eM];omega)) ⟨e,?_⟩;refine ⟨.non,_,I.lset (its':=its++[u]) hH e (by simp) (r.append (.cons ru .nil)) ?_,rfl,q⟩;rw [zq3,cy];omega
noncomputable def zT:V->List V->Hp->VK->Prop:=fun x vs H Q=>∃l b xs zs,x=.ref l/\vs=[.ref b]/\H l=some (.lst xs)/\H b=some (.lst zs)/\xs.length+zs.length<=sizeLine/\Q .non (upd H l (.lst (xs++zs)))
theorem Dk:MtM X "list.extend" zT:=by
 intro pins s σ H x vs v us Q I rx rv h;obtain ⟨l,b,xs,zs,rfl,rfl,hH,hB,hz,q⟩:=h
 cases rx
 obtain ⟨u,rfl,ru⟩:=rv.one
 cases ru
 obtain ⟨z,its,n,r,hl,e⟩:=I.lstM hH;obtain ⟨z2,its2,n2,r2,hl2,e2⟩:=I.lstM hB;have hsz:its.toArray.size+its2.toArray.size<=sizeLine:=by rw [eM,eM];omega
 have hlong:¬(!its.toArray.isEmpty&&Builtin.List.listTooLong (its.toArray.size+its2.toArray.size))=true:=by rw [w9 hsz,Bool.and_false];exact zq7
 refine call_meets F.slot_list_extend ⟨_,e,rfl⟩ F.entry_list_extend (F.args_list_extend_2 _ _)
  (AutoSeq1.list_extend_list_list_0 l its.toArray n b its2.toArray n2 hlong (by rw [eM];omega) (by omega)) ⟨e,e2,?_⟩
 refine ⟨.non,_,I.lset (its':=its++its2) hH e (by simp) (r.append r2) ?_,rfl,q⟩;rw [zq3];omega
noncomputable def DQ:R2:=fun x y H Q=>∃l b xs zs,x=.ref l/\y=.ref b/\H l=some (.lst xs)/\H b=some (.lst zs)/\xs.length+zs.length<=sizeLine/\∀p,H p=none->Q (.ref p) (upd H p (.lst (xs++zs)))
theorem gE:OpR X (binaryOp .Add) DQ:=by
 intro pins s σ H x y v u Q I rx ry h;obtain ⟨l,b,xs,zs,rfl,rfl,hH,hB,hz,q⟩:=h
 cases rx
 cases ry
 obtain ⟨z,its,n,r,hl,e⟩:=I.lstM hH;obtain ⟨z2,its2,n2,r2,hl2,e2⟩:=I.lstM hB;refine PySem.P.add_list e e2 ?_ (by rw [eM,eM];omega);have ea:its.toArray++its2.toArray=(its++its2).toArray:=by simp
 rw [ea];exact ⟨.ref _,_,I.lnew (t':=s.toks) (r.append r2) (by rw [zq3];omega),rfl,q _ I.fresh⟩
end
section
variable {prog:Program} {w:World} {A:Around} {E:Value->Shared->Prop} {s:Shared}
end
section
variable {X:Cx}
end
end L2
namespace L2
section
variable {κ:Type} [DecidableEq κ]
noncomputable def bA(kvs:List (κ×V))(k:κ):Option V:=(kvs.find? fun kv=>decide (kv.1=k)).map (·.2)
noncomputable def cv(kvs:List (κ×V))(k:κ)(v:V):List (κ×V):=
 if (kvs.any fun kv=>decide (kv.1=k))=true then kvs.map (fun kv=>if kv.1=k then (kv.1,v) else kv) else kvs++[(k,v)]
theorem bQ{p:κ×V}{r:List (κ×V)}{k:κ}(e:p.1=k):bA (p::r) k=some p.2:=by simp [bA,List.find?_cons,e]
theorem bI{p:κ×V}{r:List (κ×V)}{k:κ}(e:¬p.1=k):bA (p::r) k=bA r k:=by simp [bA,List.find?_cons,e]
theorem cE(k:κ):∀kvs:List (κ×V),(kvs.any fun kv=>decide (kv.1=k))=(bA kvs k).isSome
 | []=>rfl
 |p::r=>by
  rw [pN]
  by_cases e:p.1=k
  ·simp only [bQ e,decide_eq_true e,Bool.true_or,Option.isSome_some]
  ·rw [bI e,decide_eq_false e,Bool.false_or];exact cE k r
theorem pI(k j:κ)(y:V):∀kvs:List (κ×V),bA (kvs.map fun kv=>if kv.1=k then (kv.1,y) else kv) j=(bA kvs j).map fun x=>if j=k then y else x
 | []=>rfl
 |p::r=>by
  have ih:=pI k j y r;rw [cM]
  by_cases h:p.1=k
  ·rw [if_pos h]
   by_cases e:p.1=j
   ·rw [bQ (p:=(p.1,y)) e,bQ e,AG,if_pos (e.symm.trans h)]
   ·rw [bI (p:=(p.1,y)) e,bI e,ih]
  ·rw [if_neg h]
   by_cases e:p.1=j
   ·rw [bQ (p:=p) e,bQ e,AG,if_neg (fun z=>h (e.trans z))]
   ·rw [bI (p:=p) e,bI e,ih]
theorem lz(k j:κ)(y:V):∀kvs:List (κ×V),bA kvs k=none->bA (kvs++[(k,y)]) j=if j=k then some y else bA kvs j
 | [],_=>by
  by_cases e:k=j
  ·rw [if_pos e.symm];exact bQ (p:=(k,y)) e
  ·rw [if_neg (fun z=>e z.symm)];exact bI (p:=(k,y)) e
 |p::r,hn=>by
  rw [pO];have hk:¬p.1=k:=fun z=>by rw [bQ z] at hn;cases hn
  rw [bI hk] at hn;have ih:=lz k j y r hn
  by_cases e:p.1=j
  ·rw [bQ e,bQ e,if_neg (fun z=>hk (e.trans z))]
  ·rw [bI e,bI e,ih]
theorem yd(kvs:List (κ×V))(k j:κ)(y:V):bA (cv kvs k y) j=if j=k then some y else bA kvs j:=by
 unfold cv
 by_cases a:(kvs.any fun kv=>decide (kv.1=k))=true
 ·rw [if_pos a,pI];rw [cE] at a
  by_cases e:j=k
  ·obtain ⟨x,hx⟩:=zq132.mp a;rw [if_pos e,e,hx,AG,if_pos rfl]
  ·rw [if_neg e]
   cases bA kvs j with
   |none=>rfl
   |some x=>rw [AG,if_neg e]
 ·rw [if_neg a];refine lz k j y kvs ?_;rw [cE] at a
  cases q:bA kvs k with
  |none=>rfl
  |some x=>rw [q] at a;exact (a rfl).elim
theorem dN(kvs:List (κ×V))(k:κ)(v:V):(cv kvs k v).length<=kvs.length+1:=by
 unfold cv
 split
 ·rw [zq1];omega
 ·rw [zq3,dB,List.length_nil];omega
theorem oB{kvs:List (κ×V)}{k:κ}(v:V)(h:bA kvs k=none):cv kvs k v=kvs++[(k,v)]:=by unfold cv;rw [cE,h];exact if_neg (by decide)
theorem RelO.isSome_eq{o:Option V}{u:Option Value}(r:RelO o u):o.isSome=u.isSome:=by
 cases o with
 |none=>cases u with
  |none=>rfl
  |some _=>exact (show False from r).elim
 |some _=>cases u with
  |none=>exact (show False from r).elim
  |some _=>rfl
theorem RelO.getD{o:Option V}{u:Option Value}{d:V}{d':Value}(r:RelO o u)(rd:RelV d d'):RelV (o.getD d) (u.getD d'):=by
 cases o with
 |none=>cases u with
  |none=>exact rd
  |some _=>exact (show False from r).elim
 |some _=>cases u with
  |none=>exact (show False from r).elim
  |some _=>exact r
theorem KV.val{kvs:List (κ×V)}{vs:List (κ×Value)}(r:KV kvs vs)(k:κ):RelO (bA kvs k) (valueAt vs k):=by
 unfold KV at r
 induction r with
 |nil=>exact True.intro
 | @cons p q ps qs h t ih=>
  obtain ⟨h1,h2⟩:=h
  by_cases e:p.1=k
  ·have e':q.1=k:=h1.symm.trans e;have b:valueAt (q::qs) k=some q.2:=by simp [valueAt,List.find?_cons,e']
   rw [bQ e,b];exact h2
  ·have e':¬q.1=k:=fun z=>e (h1.trans z);have b:valueAt (q::qs) k=valueAt qs k:=by simp [valueAt,List.find?_cons,e']
   rw [bI e,b];exact ih
theorem KV.any{kvs:List (κ×V)}{vs:List (κ×Value)}(r:KV kvs vs)(k:κ):(kvs.any fun kv=>decide (kv.1=k))=vs.any fun kv=>decide (kv.1=k):=by
 unfold KV at r
 induction r with
 |nil=>rfl
 |cons h t ih=>rw [pN,pN,ih,h.1]
theorem KV.repl{kvs:List (κ×V)}{vs:List (κ×Value)}(r:KV kvs vs)(k:κ){y:V}{u:Value}(ry:RelV y u):
  KV (kvs.map fun kv=>if kv.1=k then (kv.1,y) else kv) (vs.map fun kv=>if kv.1=k then (kv.1,u) else kv):=by
 unfold KV at r ⊢
 induction r with
 |nil=>exact .nil
 | @cons p q ps qs h t ih=>
  rw [cM,cM];refine .cons ?_ ih;obtain ⟨h1,h2⟩:=h
  by_cases e:p.1=k
  ·rw [if_pos e,if_pos (h1.symm.trans e)];exact ⟨h1,ry⟩
  ·rw [if_neg e,if_neg (fun z=>e (h1.trans z))];exact ⟨h1,h2⟩
theorem KV.put{kvs:List (κ×V)}{vs:List (κ×Value)}(r:KV kvs vs)(k:κ){y:V}{u:Value}(ry:RelV y u):KV (cv kvs k y) (stored vs k u):=by
 unfold cv stored;rw [r.any k]
 by_cases e:(vs.any fun kv=>decide (kv.1=k))=true
 ·rw [if_pos e,if_pos e];exact r.repl k ry
 ·rw [if_neg e,if_neg e];exact Paired.snoc r ⟨rfl,ry⟩
theorem KV.keys{kvs:List (κ×V)}{vs:List (κ×Value)}(r:KV kvs vs):kvs.map (·.1)=vs.map (·.1):=by
 unfold KV at r
 induction r with
 |nil=>rfl
 |cons h t ih=>rw [cM,cM,ih,h.1]
theorem KV.length{kvs:List (κ×V)}{vs:List (κ×Value)}(r:KV kvs vs):kvs.length=vs.length:=Paired.length r
end
theorem kL{P:Program}{w:World}{k:Key}{u:Value}(r:RelV (kV k) u):(bg P w).is k u=true:=by
 cases k with
 |inl i=>obtain ⟨t,e⟩:=(show ∃t,u=Value.int i t from r);subst e;exact oh P w i t
 |inr x=>obtain ⟨t,e⟩:=(show ∃t,u=Value.str x t from r);subst e;exact oi P w x t
theorem kK{P:Program}{w:World}:∀{ks:List Key} {us:List Value},Vals (ks.map kV) us->ItemsAre (bg P w) ks us
 | [],_,r=>by rw [List.map_nil] at r;cases r;exact .nil
 |k::ks,_,r=>by
  rw [cM] at r
  cases r with
  |cons h t=>exact .cons (kL h) (kK t)
noncomputable abbrev KT (H:Hp):List (List Key×V)->List (List Key×Addr×Value)->Prop:=Paired fun p q=>p.1=q.1/\H q.2.1=some (.tup (p.1.map kV))/\RelV p.2 q.2.2
theorem KT.val{H:Hp}{kvs:List (List Key×V)}{xs:List (List Key×Addr×Value)}(r:KT H kvs xs)(k:List Key):RelO (bA kvs k) ((atKey xs k).map (·.2)):=by
 induction r with
 |nil=>exact True.intro
 | @cons p q ps qs h t ih=>
  obtain ⟨h1,_,h2⟩:=h
  by_cases e:p.1=k
  ·have e':q.1=k:=h1.symm.trans e;have b:atKey (q::qs) k=some q.2:=by simp [atKey,List.find?_cons,e']
   rw [bQ e,b];exact h2
  ·have e':¬q.1=k:=fun z=>e (h1.trans z);have b:atKey (q::qs) k=atKey qs k:=by simp [atKey,List.find?_cons,e']
   rw [bI e,b];exact ih
theorem KT.repl{H:Hp}{kvs:List (List Key×V)}{xs:List (List Key×Addr×Value)}(r:KT H kvs xs)(k:List Key){y:V}{u:Value}(ry:RelV y u):
  KT H (kvs.map fun kv=>if kv.1=k then (kv.1,y) else kv) (xs.map (putAt k u)):=by
 induction r with
 |nil=>exact .nil
 | @cons p q ps qs h t ih=>
  rw [cM,cM];refine .cons ?_ ih;obtain ⟨h1,h2,h3⟩:=h;unfold putAt
  by_cases e:p.1=k
  ·rw [if_pos e,if_pos (h1.symm.trans e)];exact ⟨h1,h2,ry⟩
  ·rw [if_neg e,if_neg (fun z=>e (h1.trans z))];exact ⟨h1,h2,h3⟩
theorem KT.put{H:Hp}{kvs:List (List Key×V)}{xs:List (List Key×Addr×Value)}(r:KT H kvs xs)(k:List Key){b:Addr}{y:V}{u:Value}(hb:H b=some (.tup (k.map kV)))(ry:RelV y u):
  KT H (cv kvs k y) (storedH xs k b u):=by
 have e:(kvs.any fun kv=>decide (kv.1=k))=(atKey xs k).isSome:=by rw [cE,(r.val k).isSome_eq,Option.isSome_map]
 unfold cv storedH;rw [e]
 by_cases q:(atKey xs k).isSome=true
 ·rw [if_pos q,if_pos q];exact r.repl k ry
 ·rw [if_neg q,if_neg q];exact Paired.snoc r ⟨rfl,hb,ry⟩
theorem KT.keeps{H H':Hp}{kvs:List (List Key×V)}{xs:List (List Key×Addr×Value)}(r:KT H kvs xs)(ht:∀b ys,H b=some (.tup ys)->H' b=some (.tup ys)):KT H' kvs xs:=
 Paired.mapP r fun _ _ z=>⟨z.1,ht _ _ z.2.1,z.2.2⟩
section
variable {P:Program} {w:World} {H:Hp} {h:Heap} {a:Addr}
theorem B0{u:HO}(ok:HOk P w H h)(e:Rd H a u):ObjOk P w H h a u:=e.ok ok
theorem gS{kvs:List (Key×V)}(ok:HOk P w H h)(e:Rd H a (.dK kvs)):kvs.length<=sizeLine/\(a==sysModules)=false/\∃vs,KV kvs vs/\h.DictOf (bg P w) a vs:=
 show ObjOk P w H h a (.dK kvs) from B0 ok e
theorem Dw{kvs:List (Key×V)}(ok:HOk P w H h)(e:H a=some (.dK kvs)):kvs.length<=sizeLine/\(a==sysModules)=false/\∃vs,KV kvs vs/\h.DictOf (bg P w) a vs:=gS ok (.inl e)
theorem gB{ks:List Key}(ok:HOk P w H h)(e:H a=some (.tup (ks.map kV))):(tupleKind (bg P w)).is h ks a:=by
 obtain ⟨_,its,r,o,h1,h2,n,h3⟩:=(show ObjOk P w H h a (.tup (ks.map kV)) from ok a _ e)
 exact ⟨o,its.toArray,n,h1,h2,h3,by simpa using kK r⟩
theorem kI{kvs:List (List Key×V)}(ok:HOk P w H h)(e:Rd H a (.dT kvs)):kvs.length<=sizeLine/\(a==sysModules)=false/\
  ∃xs,KT H kvs xs/\h.DictOfH (tupleKind (bg P w)) a xs:=by
 obtain ⟨z,y,xs,r,o,es,ep,h1,h2,h3,h4,h5⟩:=(show ObjOk P w H h a (.dT kvs) from B0 ok e)
 refine ⟨z,y,xs,r,o,es,ep,h1,h2,h3,h4,fun x hx=>?_,h5⟩;have all:∀{l:List (List Key×V)} {m:List (List Key×Addr×Value)},KT H l m->∀x∈m,(tupleKind (bg P w)).is h x.1 x.2.1:=by
  intro l m q
  induction q with
  |nil=>intro x hx;exact nomatch hx
  | @cons p q ps qs hq t ih=>
   intro x hx;rcases zq6.mp hx with e | hx
   ·subst e;exact gB ok (by rw [<- hq.1];exact hq.2.1)
   ·exact ih x hx
 exact all r x hx
theorem vz{kvs:List (List Key×V)}(ok:HOk P w H h)(e:H a=some (.dT kvs)):kvs.length<=sizeLine/\(a==sysModules)=false/\
  ∃xs,KT H kvs xs/\h.DictOfH (tupleKind (bg P w)) a xs:=kI ok (.inl e)
end
noncomputable def DGet(H:Hp)(a:Addr)(y:V)(r:Option V):Prop:=
 (∃kvs k,Rd H a (.dK kvs)/\y=kV k/\r=bA kvs k)\/∃kvs k b,Rd H a (.dT kvs)/\y=.ref b/\H b=some (.tup (k.map kV))/\r=bA kvs k
noncomputable def DPut(H:Hp)(a:Addr)(y v:V)(H':Hp):Prop:=
 (∃kvs k,H a=some (.dK kvs)/\y=kV k/\kvs.length<sizeLine/\H'=upd H a (.dK (cv kvs k v)))\/
 ∃kvs k b,H a=some (.dT kvs)/\y=.ref b/\H b=some (.tup (k.map kV))/\kvs.length<sizeLine/\H'=upd H a (.dT (cv kvs k v))
theorem DGet.t{H:Hp}{a b:Addr}{kvs:List (List Key×V)}{k:List Key}(e:H a=some (.dT kvs))(eb:H b=some (.tup (k.map kV))):DGet H a (.ref b) (bA kvs k):=.inr ⟨kvs,k,b,.inl e,rfl,eb,rfl⟩
theorem DPut.k{H:Hp}{a:Addr}{kvs:List (Key×V)}{k:Key}{v:V}(e:H a=some (.dK kvs))(hl:kvs.length<sizeLine):DPut H a (kV k) v (upd H a (.dK (cv kvs k v))):=.inl ⟨kvs,k,e,rfl,hl,rfl⟩
section
variable {X:Cx} {pins:List (Addr×Obj)} {σ:St} {H:Hp} {s:Shared} {a:Addr} {y v:V} {u r:Value} {o:Option V} {A:Around} {E:Value->Shared->Prop}
theorem Inv.big(I:Inv X pins σ H s):sysModules<s.heap.objs.size:=by have h:mainGlobals<s.heap.objs.size:=(I.mod.glob.keeps I.bk).lt;exact Nat.lt_trans (by decide) h
theorem tO{Q:Value->Shared->Prop}(hu:A.units+1<cLine)(I:Inv X pins σ H s)(g:DGet H a y (some v))(ry:RelV y u)(h:∀w' s',Inv X pins σ H s'->RelV v w'->Q w' s'):
  wpAny (model X.prog X.w) A (getItem (.ref a) u) Q E s:=by
 rcases g with ⟨kvs,k,e,ey,l⟩ | ⟨kvs,k,b,e,ey,eb,l⟩
 ·subst ey;obtain ⟨z,hd,vs,rel,dd⟩:=gS I.hok e;obtain ⟨w',hw,rw'⟩:=RelO.some_of (v:=v) (o:=valueAt vs k) (by rw [l];exact rel.val k);exact wpAny_getItem_of (kL ry) dd.mapOf hw (h w' _ (I.tok _) rw')
 ·subst ey
  cases (show u=Value.ref b from ry)
  obtain ⟨z,hd,xs,rel,dd⟩:=kI I.hok e;obtain ⟨w',hw,rw'⟩:=RelO.some_of (v:=v) (o:=(atKey xs k).map (·.2)) (by rw [l];exact rel.val k);obtain ⟨p,hp,hp2⟩:=zq35.mp hw;refine wpAny_getItem_heap (tupleKind_room_in1 hu) (gB I.hok eb) dd hp ?_;rw [hp2];exact h w' _ (I.tok _) rw'
theorem zh{Q:Value->Shared->Prop}(hu:A.units+1<cLine)(I:Inv X pins σ H s)(g:DGet H a y o)(ry:RelV y u)(h:∀s',Inv X pins σ H s'->Q (.bool (!o.isSome)) s'):
  wpAny (model X.prog X.w) A (compareOp .NotIn u (.ref a)) Q E s:=by
 rcases g with ⟨kvs,k,e,ey,l⟩ | ⟨kvs,k,b,e,ey,eb,l⟩
 ·subst ey;obtain ⟨z,hd,vs,rel,dd⟩:=gS I.hok e;refine wpAny_notIn_of (kL ry) hd dd.mapOf ?_;rw [<- (rel.val k).isSome_eq,<- l];exact h _ (I.tok _)
 ·subst ey
  cases (show u=Value.ref b from ry)
  obtain ⟨z,hd,xs,rel,dd⟩:=kI I.hok e;refine wpAny_notIn_heap (tupleKind_room_in1 hu) (gB I.hok eb) hd dd ?_;have q:=(rel.val k).isSome_eq;rw [Option.isSome_map] at q;rw [<- q,<- l];exact h _ (I.tok _)
theorem j5{h':Heap}{t':Nat}{ob:HO}(I:Inv X pins σ H s)(mu:Mut (H a))(hs:Heap.SameBut a s.heap h')(he:∃q,h'.get? a=some q)(new:ObjOk X.prog X.w (upd H a ob) h' a ob):
  Inv X pins σ (upd H a ob) {s with heap:=h',toks:=t'}:=
 I.write (x:=a) (e:=a) mu (.inl rfl) (fun b q hb z=>(hs.2 b hb).trans z) he new
theorem vx{P:Program}{w:World}{H':Hp}{h':Heap}{kvs:List (Key×V)}{vs:List (Key×Value)}(z:kvs.length<=sizeLine)(hd:(a==sysModules)=false)(rel:KV kvs vs)(dd:h'.DictOf (bg P w) a vs):
  ObjOk P w H' h' a (.dK kvs):=⟨z,hd,vs,rel,dd⟩
theorem tP{H':Hp}{Q:Unit->Shared->Prop}(hu:A.units+1<cLine)(I:Inv X pins σ H s)(g:DPut H a y v H')(ry:RelV y u)(rv:RelV v r)(h:∀s',Inv X pins σ H' s'->Q () s'):
  wpAny (model X.prog X.w) A (setItem (.ref a) u r) Q E s:=by
 rcases g with ⟨kvs,k,e,ey,l,eH⟩ | ⟨kvs,k,b,e,ey,eb,l,eH⟩
 ·subst ey eH;obtain ⟨z,hd,vs,rel,dd⟩:=Dw I.hok e;have hz:vs.length<=sizeLine:=by rw [<- rel.length];exact z
  have hl:(cv kvs k v).length<=sizeLine:=by have:=dN kvs k v;omega
  refine wpAny_setItem_pairs (hsz:=hz) (kL ry) dd fun h' dd' hs=>h _ ?_;have he:∃q,h'.get? a=some q:=let ⟨q,_,_,hq,_⟩:=dd';⟨q,hq⟩;exact j5 I (by rw [e];exact True.intro) hs he (vx hl hd (rel.put k rv) dd')
 ·subst ey eH
  cases (show u=Value.ref b from ry)
  obtain ⟨z,hd,xs,rel,dd⟩:=vz I.hok e;have hz:xs.length<=sizeLine:=by rw [<- Paired.length rel];exact z
  have hl:(cv kvs k v).length<=sizeLine:=by have:=dN kvs k v;omega
  refine wpAny_setItem_heap (hsz:=hz) (tupleKind_room_in1 hu) (gB I.hok eb) dd fun h' dd' hs=>h _ ?_;obtain ⟨q,es,ep,hq,h2,h3,h4,_,h5⟩:=dd';refine j5 I (by rw [e];exact True.intro) hs ⟨q,hq⟩ ⟨hl,hd,_,(rel.put k eb rv).keeps fun c ys ec=>?_,q,es,ep,hq,h2,h3,h4,h5⟩;rw [av (df ec e (fun z=>nomatch z))];exact ec
end
section
variable {X:Cx} {pins:List (Addr×Obj)} {σ:St} {H:Hp} {s:Shared} {a:Addr} {kvs:List (Key×V)} {k:Key} {u:Value} {A:Around} {E:Value->Shared->Prop}
end
noncomputable def Dn(i:Expr):Prop:=∀ov iv,subscripted i false ov iv=operate [ov,iv] (getItem ov iv)
theorem Ao{prog:Program}{w:World}{A:Around}{E:Value->Shared->Prop}{s:Shared}{env:Env}{value slice:Expr}{pos:Pos}{T id:String}{Q:Value->Shared->Prop}
  (hl:typeLookup (.type T) "__getitem__"=pure (some (.builtin id))) (hs:Dn slice)
  (h:wpAny (model prog w) A (eval value env) (fun o s₁=>wpAny (model prog w) A (eval slice env) (fun i s₂=>s₂.TypeIs o T/\wpAny (model prog w) A (getItem o i) Q E s₂) E s₁) E s) :
  wpAny (model prog w) A (eval (.Subscript value slice pos) env) Q E s:=by
 refine Subscript_ (wpAny_mono h (fun o s₁ h₁=>wpAny_mono h₁ (fun i s₂ h₂=>?_) fun _ _ x=>x) fun _ _ x=>x);obtain ⟨hT,h₂⟩:=h₂;unfold subscriptTail;refine wpAny_bind ?_;rw [getitemInPython_of_ne hT.not_modules];refine wpAny_bind (wpAny_specialOf hT hl ?_);have fin:wpAny (model prog w) A (subscripted slice false o i) (fun r s₃=>wpAny (model prog w) A (letTemporaryGo value o r >>= fun _=>pure r) Q E s₃) E s₂:=by rw [hs o i];exact wpAny_operating (wpAny_mono h₂ (fun r s₃ h₃=>wpAny_bind (wpAny_letTemporaryGo (wpAny_pure h₃))) fun _ _ x=>x)
 first
  |exact wpAny_pure (wpAny_bind fin)
  |exact wpAny_bind (wpAny_pure (wpAny_bind fin))
  |exact wpAny_bind fin
theorem nN{X:Cx}{pins:List (Addr×Obj)}{σ:St}{H:Hp}{s:Shared}{a:Addr}{y:V}{o:Option V}(I:Inv X pins σ H s)(g:DGet H a y o):s.TypeIs (.ref a) "dict":=by
 rcases g with ⟨kvs,k,e,_,_⟩ | ⟨kvs,k,b,e,_,_,_⟩
 ·obtain ⟨_,_,vs,_,dd⟩:=gS I.hok e;exact dd.typeIs
 ·obtain ⟨_,_,xs,_,dd⟩:=kI I.hok e;exact dd.typeIs
noncomputable def B5(td ty:TE):TE:=fun σ H Q=>td σ H fun x H1=>ty σ H1 fun y H2=>∃a v,x=.ref a/\DGet H2 a y (some v)/\Q v H2
noncomputable def sW(ty td:TE):TE:=fun σ H Q=>ty σ H fun y H1=>td σ H1 fun x H2=>∃a o,x=.ref a/\DGet H2 a y o/\Q (.bl (!o.isSome)) H2
noncomputable def xE(td ty tv:TE):TS:=fun D σ H=>tv σ H fun v H1=>td σ H1 fun x H2=>ty σ H2 fun y H3=>∃a H4,x=.ref a/\DPut H3 a y v H4/\D.nx σ H4
section
variable {X:Cx} {o i e value:Expr} {pos pos' tpos:Pos} {td ty tv:TE}
theorem zR(hu:X.A.units+1<cLine)(ho:PE X o td)(hi:PE X i ty)(hv:PE X value tv)(hs:swapsWith value (some (.Subscript o i pos')) pos.line X.env=pure false):
  PS X (.Assign [.Subscript o i pos'] value pos) (xE td ty tv):=by
 intro pins s σ H D I h;refine wpAny_Assign_Subscript (thn (hv pins s σ H _ I h) fun r s1 ⟨v,H1,I1,rv,q1⟩=>thn (ho pins s1 σ H1 _ I1 q1) fun u s2 ⟨x,H2,I2,rx,q2⟩=>thn (hi pins s2 σ H2 _ I2 q2) fun iv s3 hhx=>?_) hs;obtain ⟨y,H3,I3,ry,a,H4,ex,g,q3⟩:=hhx;subst ex;obtain rfl:u=Value.ref a:=rx;exact tP hu I3 g ry rv fun s4 I4=>⟨σ,H4,I4,q3⟩
end
theorem vw{P:Program}{w:World}{H:Hp}(h:Heap)(hb:sysModules<h.objs.size):ObjOk P w H (h.push {cls:=.type "dict",data:=.dict #[]}) h.objs.size (.dK []):=
 ⟨cc _,beq_eq_false_iff_ne.mpr (Ne.symm (cm hb)),[],.nil,Heap.DictOf.new h⟩
theorem nQ{P:Program}{w:World}{H:Hp}(h:Heap)(hb:sysModules<h.objs.size):ObjOk P w H (h.push {cls:=.type "dict",data:=.dict #[]}) h.objs.size (.dT []):=
 ⟨cc _,beq_eq_false_iff_ne.mpr (Ne.symm (cm hb)),[],.nil,_,#[],0,d8 _ rfl,⟨rfl,rfl,rfl⟩,rfl,rfl,AH⟩
noncomputable def xV:TE:=fun _ H Q=>∀p,H p=none->Q (.ref p) (upd H p (.dK []))
noncomputable def xW:TE:=fun _ H Q=>∀p,H p=none->Q (.ref p) (upd H p (.dT []))
section
variable {X:Cx} {pos:Pos}
end
structure M1(X:Cx)(o:Expr)(m:Str)(apos:Pos)(e:Expr)(cpos:Pos):Prop where
 base:attributeBase o m X.env (eval o X.env)=eval o X.env
 few:((backTo cpos (starEach [e] X.env)).all (fun x=>!x.1)&&(backToKw cpos (keywordEach [] X.env)).all (fun x=>x.1.isSome)
  && decide (([e]:List Expr).length+([]:List Keyword).length+(if ([]:List Keyword).isEmpty then 0 else 1)<30))=true
 line:(apos.endLine==cpos.line)=true
 trees:backTo cpos (starEach [e] X.env)=[(false,eval e X.env)]
structure M2(X:Cx)(o:Expr)(m:Str)(apos:Pos)(e f:Expr)(cpos:Pos):Prop where
 base:attributeBase o m X.env (eval o X.env)=eval o X.env
 few:((backTo cpos (starEach [e,f] X.env)).all (fun x=>!x.1)&&(backToKw cpos (keywordEach [] X.env)).all (fun x=>x.1.isSome)
  && decide (([e,f]:List Expr).length+([]:List Keyword).length+(if ([]:List Keyword).isEmpty then 0 else 1)<30))=true
 line:(apos.endLine==cpos.line)=true
 trees:backTo cpos (starEach [e,f] X.env)=[(false,eval e X.env),(false,eval f X.env)]
noncomputable def IsD(H:Hp)(a:Addr):Prop:=(∃kvs,Rd H a (.dK kvs))\/∃kvs,Rd H a (.dT kvs)
theorem vM{X:Cx}{pins:List (Addr×Obj)}{σ:St}{H:Hp}{s:Shared}{a:Addr}(I:Inv X pins σ H s)(d:IsD H a):
  s.TypeIs (.ref a) "dict"/\(∀b,Value.ref a=.ref b->∃ob,s.heap.get? b=some ob/\ob.dict=none)/\(a==sysModules)=false:=by
 rcases d with ⟨kvs,e⟩ | ⟨kvs,e⟩
 ·obtain ⟨_,hd,vs,_,dd⟩:=gS I.hok e;refine ⟨dd.typeIs,fun b q=>?_,hd⟩
  cases q
  obtain ⟨ob,_,_,h1,h2,_⟩:=dd;exact ⟨ob,h1,h2.2.1⟩
 ·obtain ⟨_,hd,xs,_,dd⟩:=kI I.hok e;refine ⟨dd.typeIs,fun b q=>?_,hd⟩
  cases q
  obtain ⟨ob,_,_,h1,h2,_⟩:=dd;exact ⟨ob,h1,h2.2.1⟩
section
variable {X:Cx} {pins:List (Addr×Obj)} {σ:St} {H:Hp} {s:Shared} {a:Addr} {y d:V} {u r:Value} {o:Option V} {A:Around} {E:Value->Shared->Prop}
theorem Bv{Q:Value->Shared->Prop}(hu:A.units+1<cLine)(I:Inv X pins σ H s)(g:DGet H a y o)(ry:RelV y u)(rd:RelV d r)(h:∀w' s',Inv X pins σ H s'->RelV (o.getD d) w'->Q w' s'):
  wpAny (model X.prog X.w) A (call (.builtin "dict.get") [.ref a,u,r]) Q E s:=by
 rcases g with ⟨kvs,k,e,ey,l⟩ | ⟨kvs,k,b,e,ey,eb,l⟩
 ·subst ey;obtain ⟨z,hd,vs,rel,dd⟩:=gS I.hok e;refine call_meetsIn PySem.F.slot_dict_get dd.typeIs PySem.F.entry_dict_get (PySem.F.args_dict_get_3 _ _ _) (meets_dict_get_default (bg X.prog X.w) a (kL ry) hd r) ⟨_,dd.mapOf,h _ _ (I.tok _) ?_⟩;rw [l];exact (rel.val k).getD rd
 ·subst ey
  cases (show u=Value.ref b from ry)
  obtain ⟨z,hd,xs,rel,dd⟩:=kI I.hok e;refine call_meetsIn PySem.F.slot_dict_get dd.typeIs PySem.F.entry_dict_get (PySem.F.args_dict_get_3 _ _ _) (meetsH_dict_get_default (tupleKind (bg X.prog X.w)) a b hd r) ⟨tupleKind_room_in1 hu,k,xs,gB I.hok eb,dd,h _ _ (I.tok _) ?_⟩;rw [l];exact (rel.val k).getD rd
end
noncomputable def xU(td ty tx:TE):TE:=fun σ H Q=>td σ H fun x H1=>∃a,x=.ref a/\IsD H1 a/\ty σ H1 fun y H2=>tx σ H2 fun z H3=>∃o,DGet H3 a y o/\Q (o.getD z) H3
section
variable {X:Cx} {o e f:Expr} {apos cpos:Pos} {td ty tx:TE}
end
section
variable {X:Cx} {pins:List (Addr×Obj)} {σ:St} {H:Hp} {s:Shared} {a:Addr} {kvs:List (Key×V)} {A:Around} {E:Value->Shared->Prop}
end
section
variable {X:Cx} {pins:List (Addr×Obj)} {σ:St} {H:Hp} {s:Shared} {a:Addr} {y:V} {u:Value} {A:Around} {E:Value->Shared->Prop}
end
end L2
end
namespace Att
open PySem PySem.W PySem.Calls PyProof.Rows
theorem iX{P:Params}{h:Heap}:∀(ns:List Int)(vs:List Value),WellAll P h vs (ns.map WData.int)->IntsAre vs ns:=by
 intro ns
 induction ns with
 |nil=>
  intro vs w;rw [List.map_nil] at w
  cases w
  exact .nil
 |cons n ns ih=>
  intro vs w;rw [cM] at w
  cases w with
  |cons a b=>
   cases a
   exact .cons _ _ (ih _ b)
theorem uJ{l:OpenLaw}{n:Nat}(hn:l.most=some n){P:Params}{h:Heap}{args:List WData}{vals:List Value}
  (hpre:l.row.toRowW.claim.pre args=true) (hwl:WellAll P h vals args) :
  ∃a vs ns,vals=[Value.ref a]/\args=[WData.list (ns.map WData.int)]/\h.get? a=some {cls:=.type "list",data:=.seq vs.toArray}/\IntsAre vs ns/\ns.length<=n:=by
 have hsh:WShape.hasAll [] args [.list .int]=true:=(pre_splitW hpre).1;have hc:l.pre.holds [] {args:=args}=true:=(pre_splitW hpre).2;obtain ⟨d,r,rfl,h1,h2⟩:=hasAllW_cons hsh;obtain rfl:=hasAllW_nil h2;obtain ⟨xs,rfl,h3⟩:=hasW_list h1;obtain ⟨ns,rfl⟩:=items_int h3;have hlen:ns.length<=n:=by
  unfold OpenLaw.pre at hc;have h4:(WTm.not (.lt (.lit (.int (n:Int))) (.len (.arg 0)))).holds [] {args:=[.list (ns.map .int)]}=true:=by have h4:=(holds_andW hc).1;rw [hn] at h4;exact h4
  have h5:=condW_of h4 (w_not (w_lt w_lit (w_len_list (w_arg rfl))));rw [zq1] at h5;refine Nat.le_of_not_lt fun q=>?_;have q':(n:Int)<((ns.length:Nat):Int):=by omega
  first
   | (rw [decide_eq_true q'] at h5;exact absurd h5 (by decide))
   | (simp at h5;omega)
 cases hwl with
 |cons w1 w2=>
  cases w2
  cases w1 with
  |list ho hall=>exact ⟨_,_,ns,rfl,rfl,ho,iX ns _ hall,hlen⟩
theorem uA(l:OpenLaw)(args:List WData):l.row.toRowW.claim.post args (.bool true) args=true:=
 postW_of (r:=l.row.toRowW) (X:=(true==true))
  (show WShape.has [] (.bool true) .bool=true by first | rfl | decide | simp [WShape.has,WShape.arms,WShape.armsAll])
  (show (WTm.eq .res (.lit (.bool true))).value [] {args:=args,res:=some (.bool true),after:=args}=some (.bool (true==true)) from w_eq_bool (w_res rfl) w_lit) rfl
section
variable {prog:Program} {w:World} {A:Around} {E:Value->Shared->Prop} {s:Shared} {K:Frag}
end
end Att
namespace L2
open PySem PySem.Spec PyProof.Rows
theorem iF:∀{vs:List Value} {ns:List Int},IntsAre vs ns->Vals (ns.map V.int) vs
 |_,_,.nil=>.nil
 |_,_,.cons n t h=>.cons ⟨t,rfl⟩ (iF h)
noncomputable def Bm(H:Hp):Prop:=∀b,H b=none\/∃o xs,H b=some (.frz o (.lst xs))
theorem vT{P:Program}{w:World}{K:W.Frag}{mg mb:Str->Option Value}{CX:CXT}{k:Nat}{fa a:Addr}{fd:FuncData}{x:Str}{sp:Sp}{s₁:Shared}{vs:List Value}{ns:List Int}
  (KX:K.In s₁.heap) (hns:s₁.heap.Ns mainGlobals mg) (hb:s₁.heap.Ns builtinsNs mb) (hbb:∀x:Str,x≠"__name__"->mb x=bootBuiltins x) (hlim:s₁.heap.NoLimit) (hg:s₁.gens=#[])
  (ha:s₁.heap.get? a=some {cls:=.type "list",data:=.seq vs.toArray}) (hi:IntsAre vs ns) (hl:ns.length<=sizeLine) (hr:Room k callerA)
  (F:∀base:Heap,K.In base->base.Ns mainGlobals mg->FnOk P w K mg base CX k fa fd [x] sp) (hbind:∀(s:Shared)(u:Value),BindsTo s fd ⟨[u],[]⟩ [(x,u)])
  (hsp:∀H:Hp,Bm H->SqL K H a (ns.map V.int)->sp [.ref a] H (fun v _=>v=.bl true) fun _ _ _=>False)
  (hCX:∀H e s',CX [] H s₁ (fun _ _ _=>False) e s'->False) :
  codeAny (model P w) callerA (.call (.ref fa) ⟨[.ref a],[]⟩) (fun r s'=>r=.ok (.ret (.bool true))/\OldK s₁.heap s'.heap/\s'.os=s₁.os/\AllBare s'.gens) s₁:=by
 have rv:=iF hi;have lenV:=hi.length;have core:∀H:Hp,Bm H->SqL K H a (ns.map V.int)->HOk P w H s₁.heap->(∀b,H b≠none->b=a)->(H a≠none->K.lookup a=none)->
   codeAny (model P w) callerA (.call (.ref fa) ⟨[.ref a],[]⟩) (fun r s'=>r=.ok (.ret (.bool true))/\OldK s₁.heap s'.heap/\s'.os=s₁.os/\AllBare s'.gens) s₁:=by
  intro H hO hS hok hA hK;have base_of:∀{b:Addr} {o:Obj},s₁.heap.get? b=some o->H b=none->(lT s₁.heap H).get? b=some o:=fun e n=>vI e n;have noA:∀{b:Addr} {o:Obj} {es:Array DictEntry} {ep:Nat},s₁.heap.get? b=some o->o.data=.dict es ep->H b=none:=fun {b o es ep} e d=>by
   cases q:H b with
   |none=>rfl
   |some u=>
    have e':b=a:=hA b (by rw [q];simp);subst e';rw [ha] at e;cases e;have d':Data.seq vs.toArray _=Data.dict es ep:=d
    cases d'
  have nsK:∀{b:Addr} {m:Str->Option Value},s₁.heap.Ns b m->(lT s₁.heap H).Ns b m:=fun {b m} ⟨o,es,ep,e,d,r⟩=>⟨o,es,ep,base_of e (noA e d),d,r⟩
  have hKb:K.In (lT s₁.heap H):=fun b o e=>base_of (KX b o e) (by
   cases q:H b with
   |none=>rfl
   |some u=>have e':b=a:=hA b (by rw [q];simp);subst e';rw [hK (by rw [q];simp)] at e;cases e)
  have hM:Mod K mg (lT s₁.heap H):=⟨hKb,nsK hns,⟨mb,nsK hb,hbb⟩,let ⟨mc,h1,h2⟩:=hlim;⟨mc,nsK h1,h2⟩⟩
  have e0:Env0 P w K mg (lT s₁.heap H) callerA [] s₁ H:=⟨rfl,hM,fun b o e=>zy e,v0 (tY _ _),trivial,fun b hb=>absurd (show b∈([]:List Addr) from hb) (by simp),hok,.of_eq hg⟩
  refine codeAny_mono ((F _ hKb (nsK hns)).run callerA [] s₁ H ⟨[.ref a],[]⟩ [.ref a] [.ref a] _ _ hr e0 (hbind s₁ (.ref a)) (.cons rfl .nil) (hsp H hO hS)) fun r s' h=>?_
  cases r with
  |error e=>exact (hCX H e s' h).elim
  |ok fl=>
   cases fl with
   |next=>exact False.elim h
   |brk=>exact False.elim h
   |cont=>exact False.elim h
   |ret u=>
    obtain ⟨v,H',os,bare,un,hok',r',q⟩:=h;have q':v=.bl true:=q;subst q';obtain rfl:u=Value.bool true:=r';refine ⟨rfl,OldK.of_keep fun b o e=>?_,os,bare⟩
    cases q:H b with
    |none=>exact un.keep b o e q (by intro z;exact absurd (show b∈([]:List Addr) from z) (by simp)) (by simp)
    |some u=>
     rcases hO b with z | ⟨ob,xs,z⟩
     ·rw [q] at z;cases z
     ·have z2:=un.frzs b ob _ z;obtain ⟨e1,_⟩:=hok b _ z;obtain ⟨e2,_⟩:=hok' b _ z2;rw [e] at e1;cases e1;exact e2
 cases hk:K.lookup a with
 |some o=>
  have e:=KX a o hk;rw [ha] at e
  cases e
  refine core (fun _=>none) (fun _=>.inl rfl) (.inr ⟨_,vs.toArray,_,hk,rfl,rfl,rfl,by rw [eM,lenV];exact hl,by simpa using rv⟩) (fun b u z=>by have z':(none:Option HO)=some u:=z;cases z') (fun b z=>absurd rfl z) fun z=>absurd rfl z
 |none=>
  refine core (fun b=>if b=a then some (.frz {cls:=.type "list",data:=.seq vs.toArray} (.lst (ns.map V.int))) else none) (fun b=>?_) (.inl (.inr ⟨{cls:=.type "list",data:=.seq vs.toArray},if_pos rfl⟩)) (fun b u z=>?_) (fun b z=>?_) fun _=>hk
  ·by_cases hb:b=a
   ·exact .inr ⟨_,_,if_pos hb⟩
   ·exact .inl (if_neg hb)
  ·by_cases hb:b=a
   ·have z':=(if_pos hb).symm.trans z
    cases z'
    subst hb;exact ⟨ha,by rw [zq1];exact hl,vs,_,rv,ha⟩
   ·have z':=(if_neg hb).symm.trans z
    cases z'
  ·by_cases hb:b=a
   ·exact hb
   ·exact absurd (if_neg hb) z
end L2
namespace L2
open PySem PySem.Spec PyProof.Rows
end L2
/- THE LAST THEOREM (shape;LID,My.* are yours):
   My.Adr: a structure of the addresses that your layer names (classes,functions);My.Txt K t: a structure (Prop) of the equations over K;
   My.txt_mk:{K} {implicit addresses ..} (e1:nsIn K mainGlobals "law"=some (some (.ref f))) (e2:K.lookup f=some ⟨oc,od,.func (fnOf "law" "law" params body scope dV kV doc pm an cdv ct),sl⟩) (e3:codeIn K cdv "law"=true) ..:∃t,My.Txt K t
set_option maxRecDepth 100000 in
set_option maxHeartbeats 0 in
theorem PySem.Challenge.cw_LID_holds:PySem.Challenge.rw_LID.Holds:=by
 w_on;o_law;k_head;(case hw=>w_witness2)
 k_fill
 refine L2.walk_of (l:=PySem.Challenge.rw_LID) (n:=63) (k:=40) (x:="script") (CX:=fun w=>..) (sp:=fun _=>My.sp_law) rfl (by decide) rfl ⟨rfl,by decide,by decide⟩ (fun w h Y=>W.kIn_of Y) ?F ?S ?C
 case F=>
  intro w mg fa h KX G hmg;have T:∃t,My.Txt (L2.KOf KX) t:=by
   dsimp only [L2.KOf]                          -- K must stand as «<heap const> w.params» for k_is;refine' My.txt_mk ?e1 ?e2 ?e3 ..
   (case e1=>W.k_is)                    -- in the order: a name->its address->its object->its parts
   (case e2=>W.k_is)
   ..
  obtain ⟨t,T⟩:=T;have e0:=hmg.symm.trans (W.mg_of KX G T.law)
  cases e0                                       -- fa is the law's own address
  exact ⟨_,fun s u=>.of_eq rfl,fun base kb nb=>My.law_fn T kb nb⟩     -- if «.of_eq rfl» comes too early: refine' ⟨_,?b,fun base kb nb=>My.law_fn T kb nb⟩;exact fun s u=>.of_eq rfl
 case S=>exact fun w H a ns hl hO hS=>..
 case C=>exact ..
(the tactic k_is has no namespace: write k_is) -/
section
open PySem PySem.Spec PyProof.Rows
namespace L2
variable {H:Hp} {f:Addr} {qual x:Str}
noncomputable def cn(s:Stmt)(j:Nat):Stmt:=match s with
 | .ClassDef _ _ _ body _ _ _ _ _ _ _=>body.getD j (.Pass ⟨0,0,0,0⟩)
 |_=>.Pass ⟨0,0,0,0⟩
noncomputable def di(s:Stmt):Arguments:=match s with
 | .FunctionDef _ a _ _ _ _ _ _ _ _=>a
 |_=>{posonlyargs:=[],args:=[],vararg:=none,kwonlyargs:=[],kw_defaults:=[],kwarg:=none,defaults:=[]}
noncomputable def cX(s:Stmt):List Stmt:=match s with
 | .FunctionDef _ _ b _ _ _ _ _ _ _=>b
 |_=>[]
noncomputable def az(s:Stmt):Scope:=match s with
 | .FunctionDef _ _ _ _ _ _ sc _ _ _=>sc
 |_=>{kind:=.function,names:=[],isGenerator:=false,isCoroutine:=false}
noncomputable abbrev CX0:CXT:=fun _ _ _ _ _ _=>False
noncomputable abbrev E0:XK:=fun _ _ _=>False
theorem oA{X:Cx}:eO CX0 X E0:=fun _ _ _ _ _ _ _ h=>h.elim
structure Fun(K:W.Frag)(x qual:Str)(st:Stmt)(f:Addr)(fd:FuncData):Prop where
 ex:∃(oc:Value)(od:Option Addr)(kV doc pm:Value)(an:Option Addr)(cdv ct:Value)(osl:Array (Option Value)),
  fd=W.fnOf x qual (di st) (cX st) (az st) .none kV doc pm an cdv ct/\K.lookup f=some ⟨oc,od,.func fd,osl⟩/\W.codeIn K cdv qual=true
 kp:W.keepIn K (.ref f)=true
section
variable {P:Program} {w:World} {K:W.Frag} {mg:Str->Option Value} {base:Heap}
theorem Fun.ok{st:Stmt}{fd:FuncData}{N ps:List Str}{k:Nat}{sp:Sp}(F:Fun K x qual st f fd)(S:aD N ps (az st))(len:∀vs H Q E,sp vs H Q E->vs.length=ps.length)
 (hbody:∀(cdv:Value)(A:Around)(outer:List Env)(s:Shared)(H:Hp)(vs:List V)(Q:VK)(E:XK),Room k (A.deeper (envOfC qual (az st) s.heap.objs.size f cdv))->sp vs H Q E->
 ∃t,PSs (pX CX0 P w K mg base N qual (az st) f cdv A outer s H E).nox (cX st) t/\t {nx:=fun _ H'=>Q .non H',rt:=Q} (aM N vs) H):FnOk P w K mg base CX0 (k+1) f fd ps sp:=by
 obtain ⟨oc,od,kV,doc,pm,an,cdv,ct,osl,rfl,lk,hcd⟩:=F.ex;refine Dz lk hcd S len fun A outer s H vs Q E hr hsp=>?_;obtain ⟨t,h,q⟩:=hbody cdv A outer s H vs Q E hr hsp;exact ⟨t,h.nox,q⟩
theorem Fun.binds{st:Stmt}{fd:FuncData}{ps:List Str}(F:Fun K x qual st f fd)
 (h:∀(kV doc pm:Value)(an:Option Addr)(cdv ct:Value)(us:List Value),us.length=ps.length->bindArgs (W.fnOf x qual (di st) (cX st) (az st) .none kV doc pm an cdv ct) ⟨us,[]⟩=pure (ps.zip us)):Binds K fd ps []:=by
 obtain ⟨oc,od,kV,doc,pm,an,cdv,ct,osl,rfl,lk,hcd⟩:=F.ex;exact .all (h kV doc pm an cdv ct)
theorem lR{st:Stmt}{oc:Value}{od an:Option Addr}{osl:Array (Option Value)}{kV doc pm cdv ct:Value}(l:K.lookup f=some ⟨oc,od,.func (W.fnOf x qual (di st) (cX st) (az st) .none kV doc pm an cdv ct),osl⟩)
 (c:W.codeIn K cdv qual=true) (k:W.keepIn K (.ref f)=true):Fun K x qual st f (W.fnOf x qual (di st) (cX st) (az st) .none kV doc pm an cdv ct):=⟨⟨oc,od,kV,doc,pm,an,cdv,ct,osl,rfl,l,c⟩,k⟩
end
theorem fh{A:Around}{k:Nat}(hr:Room k A):A.units+1<cLine:=yt (Nat.add_le_add_left (by decide:1<=64) _) hr.units
section
variable {X:Cx}
end
theorem G0{A B:Prop}(h:B):if false=true then A else B:=by rw [if_neg zq7];exact h
theorem G1{A B:Prop}(h:A):if true=true then A else B:=by rw [if_pos rfl];exact h
noncomputable def Same(H H':Hp):Prop:=∀b o,H b=some o->H' b=some o
theorem Same.refl(H:Hp):Same H H:=fun _ _ h=>h
theorem Same.trans{H1 H2:Hp}(a:Same H H1)(b:Same H1 H2):Same H H2:=fun c o h=>b c o (a c o h)
theorem Same.free{H':Hp}(e:Same H H'){l:Addr}(h:H' l=Option.none):H l=Option.none:=by
 cases q:H l with
 |none=>rfl
 |some o=>
  rw [e l o q] at h
  cases h
theorem Same.seq{K:W.Frag}{H':Hp}{a:Addr}{xs:List V}(e:Same H H')(h:SqL K H a xs):SqL K H' a xs:=by
 rcases h with (h | ⟨o,h⟩) | h
 ·exact .inl (.inl (e _ _ h))
 ·exact .inl (.inr ⟨o,e _ _ h⟩)
 ·exact .inr h
end L2
namespace L2
section
variable {X:Cx}
end
section
variable {κ:Type} [DecidableEq κ]
theorem yc{kvs:List (κ×V)}{k:κ}(h:bA kvs k=none):¬k∈kvs.map (·.1):=by intro m;obtain ⟨p,hp,e⟩:=zq20.mp m;have q:(kvs.any fun kv=>decide (kv.1=k))=true:=zq78.mpr ⟨p,hp,decide_eq_true e⟩;rw [cE,h] at q;exact absurd q (by simp)
theorem rV:∀{l:List κ} {k:κ},l.Nodup->¬k∈l->(l++[k]).Nodup
 | [],k,_,_=>by simp
 |a::r,k,h,hk=>by
  obtain ⟨h1,h2⟩:=zq41.mp h;show (a::(r++[k])).Nodup;refine zq41.mpr ⟨fun m=>?_,rV h2 fun m=>hk (zq6.mpr (Or.inr m))⟩;rcases zq16.mp m with q | q
  ·exact h1 q
  ·exact hk (zq6.mpr (Or.inl (zq2.mp q).symm))
theorem zu{kvs:List (κ×V)}{k:κ}(v:V)(hn:(kvs.map (·.1)).Nodup)(h:bA kvs k=none):((cv kvs k v).map (·.1)).Nodup:=by rw [oB v h,cD];exact rV hn (yc h)
end
end L2
namespace L2
section
variable {X:Cx}
noncomputable def CDivB(i j:Int):Prop:=0<j/\j.natAbs.log2<9000
theorem wG:OpR X (binaryOp .FloorDiv) (rI CDivB fun i j=>.int (i / j)):=opI fun i j _ _ _ _ _ hc q=>by have h1:(0:Int)<j:=hc.1;exact floordiv_int (by omega) (by rw [Int.fdiv_eq_ediv_of_nonneg i (by omega)];exact q) (.inl (PyProof.noPylong_of_log2 hc.2))
theorem CDivB.small{i j:Int}(h:0<j)(h2:j<1073741824):CDivB i j:=⟨h,by have h3:j.natAbs.log2<30:=(Nat.log2_lt (by omega)).mpr (by omega);omega⟩
end
theorem aH{c A B:Prop}[Decidable c](h1:c->A)(h2:¬c->B):if decide c=true then A else B:=by
 by_cases h:c
 ·rw [if_pos (decide_eq_true h)];exact h1 h
 ·rw [if_neg (fun q=>h (of_decide_eq_true q))];exact h2 h
theorem vN{c A B:Prop}[Decidable c](h1:¬c->A)(h2:c->B):if (!decide c)=true then A else B:=by
 by_cases h:c
 ·rw [decide_eq_true h];exact G0 (h2 h)
 ·rw [decide_eq_false h];exact G1 (h1 h)
structure b8(K:W.Frag)(mg:Str->Option Value)(x:Str)(st:Stmt)(ps:List Str)(f:Addr)(fd:FuncData):Prop where
 F:Fun K x x st f fd
 B:Binds K fd ps []
 M:mg x=some (.ref f)
theorem wL{X:Cx}{k:Nat}{f:Addr}{fd:FuncData}{ps:List Str}{sp:Sp}{x:Str}{st:Stmt}{p pos:Pos}{e:Expr}{es:List Expr}{t:TA}(D:b8 X.K X.mg x st ps f fd)(G:FnOk X.prog X.w X.K X.mg X.base CX0 k f fd ps sp)(hr:Room k X.A)
  (ha:PA X (e::es) t) (hg:Gl X x:=by rfl) (hdb:(x==("__debug__":Str))=false:=by decide) (he:starEach (e::es) X.env=(false,eval e X.env)::starEach es X.env:=by rfl) (hpl:(backTo pos (starEach es X.env)).any (·.1)=false:=by rfl) :
  PE X (.Call (.Name x p) (e::es) [] pos) (pC sp [] E0 t):=zN G hr hg D.M D.F.kp D.B .nil oA ha hdb he hpl
noncomputable def Ite(K:W.Frag)(a:Addr):It:=
  ⟨fun i H=>∃xs x,SqL K H a xs/\xs[i]?=some x,
   fun i H x H'=>∃p y,x=.ref p/\H p=none/\H'=upd H p (.tup [.int i,y])/\∀xs,SqL K H a xs->xs[i]?=some y,
   fun i H=>∃xs,SqL K H a xs/\xs.length<=i⟩
theorem uQ{P:Program}{w:World}{K:W.Frag}{elts:List Expr}{k0:Nat}{pos0:Pos}(a e it:Addr)(hei:e≠it):
  kc P w K (.Tuple elts k0 pos0) (Ite K a) [e,it] e (fun i h=>(∃old,IsEnum h e it i old)/\h.IsListIter it a i) where
 mem:=by simp
 obj:=fun i h ⟨⟨old,he⟩,hit⟩ b hb=>by
  rcases zq6.mp hb with rfl | hb
  ·exact ⟨_,he,fun v z=>by
    have z':Data.fields _=Data.cell v:=z
    cases z'⟩
  ·have e':b=it:=by simpa using hb
   subst e';obtain ⟨o,q,c,d⟩:=hit;exact ⟨o,q,fun v z=>by rw [d] at z;cases z⟩
 keep:=fun i h h' ⟨⟨old,he⟩,hit⟩ k=>⟨⟨old,k e (by simp) _ he⟩,hit.at fun o q=>k it (by simp) o q⟩
 item:=by
  intro X hP hw hK hc i pins s σ H E I hf st hg;subst hP hw hK;obtain ⟨xs,x,hq,hx⟩:=hg;obtain ⟨its,rv,p,hz⟩:=I.list hq;obtain ⟨u,hu,ru⟩:=rv.get hx;obtain ⟨⟨old,he⟩,hit⟩:=st;obtain ⟨f0,f1,f2,f3,f4,f5⟩:=hf e (by simp);obtain ⟨g0,g1,g2,g3,g4,g5⟩:=hf it (by simp);refine wpAny_pyNext_enum_item he hit p.isList (x:=u) (by simpa using hu) hei fun h1 ho hit1 hT hsz hk=>?_;refine ⟨_,rfl,wpAny_letOwnedTupleGo_enum ho fun h2 he2 hs2=>?_⟩;replace hs2:Heap.SameBut e h1 h2:=hs2;have helt:e<s.heap.objs.size:=zq9 he;have hk2:∀b o,b≠e->b≠it->s.heap.get? b=some o->h2.get? b=some o:=fun b o b1 b2 q=>(hs2.2 b b1).trans (hk b o b1 b2 q);have hT2:h2.get? s.heap.objs.size=some {cls:=.type "tuple",data:=.seq #[.int i s.toks,u]}:=(hs2.2 _ (pL helt)).trans hT;have hn:H s.heap.objs.size=none:=I.hok.fresh (zq0 _);have nE:∀b v,H b=some v->b≠e:=fun b v q z=>by rw [z,f0] at q;cases q
  have nI:∀b v,H b=some v->b≠it:=fun b v q z=>by rw [z,g0] at q;cases q
  have ok2:HOk X.prog X.w H h2:=fun b v q=>(I.hok b v q).stay (fun c v' hc r=>by
   rcases hc with z | z
   ·exact hk2 c v' (by rw [z];exact nE b v q) (by rw [z];exact nI b v q) r
   ·exact hk2 c v' (nE c _ z) (nI c _ z) r) (fun _ r=>r) fun _ _ r=>r
  have ok3:HOk X.prog X.w (upd H s.heap.objs.size (.tup [.int i,x])) h2:=fun b v q=>by
   by_cases hb:b=s.heap.objs.size
   ·subst hb;rw [af] at q
    cases q
    exact ⟨by show 2<=sizeLine;decide,[.int i s.toks,u],.cons ⟨_,rfl⟩ (.cons ru .nil),⟨_,hT2,rfl,_,rfl⟩⟩
   ·rw [av hb] at q;exact (ok2 b v q).stay (fun c v' _ r=>r) (fun c r=>by rw [av (ao r hn)];exact r) fun c ys r=>by rw [av (ao r hn)];exact r
  have nlt:∀{b:Addr} {o:Obj},s.heap.get? b=some o->b≠s.heap.objs.size:=fun q=>cm (zq9 q);have I2:Inv X pins σ (upd H s.heap.objs.size (.tup [.int i,x])) {s with heap:=h2,toks:=s.toks+1}:=
   I.step (g':=s.gens) (d':=s.drawn) (ch:=[e,it]) (fun b hb=>by
     rcases zq6.mp hb with rfl | hb
     ·exact ⟨f3,f1,f4,f5⟩
     ·have e':b=it:=by simpa using hb
      subst e';exact ⟨g3,g1,g4,g5⟩)
    (fun b o _ _ hc q _=>hk2 b o (fun z=>hc (by simp [z])) (fun z=>hc (by simp [z])) q)
    (fun b o _ _ hc q _=>⟨o.slots,hk2 b o (fun z=>hc (by simp [z])) (fun z=>hc (by simp [z])) q⟩)
    (fun b o _ q n=>by rw [av (nlt q)];exact n)
    (fun b o hc q=>⟨o,hk2 b o (fun z=>hc (by simp [z])) (fun z=>hc (by simp [z])) q⟩)
    (fun b ys q=>by rw [av (ao q hn)];exact q) (fun b o v q=>by rw [av (ao q hn)];exact q) (fun b ps q=>⟨#[],by rw [av (ao q hn),q];simp⟩)
    (fun m ⟨o,es,ep,hm,r⟩=>⟨o,es,ep,hk2 _ o (Ne.symm f1) (Ne.symm g1) hm,r⟩) ok3 I.bare
  refine ⟨.ref s.heap.objs.size,_,I2,rfl,⟨_,x,rfl,hn,rfl,fun ys hy=>by rw [I.list_inj hy hq];exact hx⟩,⟨⟨_,by simpa using he2⟩,hit1.at fun o y=>(hs2.2 it hei.symm).trans y⟩,fun b hb=>?_⟩;rcases zq6.mp hb with rfl | hb
  ·rw [av (cm helt)];exact f0
  ·have e':b=it:=by simpa using hb
   subst e';obtain ⟨o,q,_⟩:=hit;rw [av (nlt q)];exact g0
 done:=by intro X hP hw hK hc i pins s σ H E I hf st hg;subst hP hw hK;obtain ⟨xs,hq,hx⟩:=hg;obtain ⟨its,rv,p,hz⟩:=I.list hq;obtain ⟨⟨old,he⟩,hit⟩:=st;obtain ⟨g0,g1,g2,g3,g4,g5⟩:=hf it (by simp);have hl:=rv.length;exact wpAny_pyNext_enum_end (I.ok.hd hc) he hit p.isList (by simp;omega) fun h' eb=>⟨rfl,I.turned (t':=s.toks) (it:=it) (fun b o hb q=>eb b o hb q) g0 g1 g3 g4 g5⟩
 self:=fun _ _ _ _ _ ⟨⟨_,he⟩,_⟩ h=>wpAny_pyIter_enum he h
noncomputable def vJ(K:W.Frag)(ta:TA):TI:=fun σ H R=>ta σ H fun vs H1=>∃a,vs=[.ref a]/\(∃xs,SqL K H1 a xs)/\R (Ite K a) H1
theorem zQ{X:Cx}{a:Expr}{ta:TA}{p pos pos0:Pos}{elts:List Expr}{k0:Nat}(hm:X.mg "enumerate"=none) (ha:PA X [a] ta) (hg:Gl X "enumerate":=by rfl) (hs:starEach [a] X.env=[(false,eval a X.env)]:=by rfl) :
  PI X (.Tuple elts k0 pos0) (.Call (.Name "enumerate" p) [a] [] pos) (vJ X.K ta):=by
 intro pins s σ H R I h;refine Call_ (dW I hg hm boot_enumerate (PyProof.Rows.callWith_type1 (thn (ha pos pins s σ H _ I h) fun us s1 hhx=>?_) hs rfl));obtain ⟨vs,H1,I1,r1,q1⟩:=hhx;obtain ⟨l,e,⟨xs,hq⟩,q⟩:=q1;subst e
 cases r1 with
 |cons r rr=>
  cases rr
  cases r
  obtain ⟨its,rv,pl,hz⟩:=I1.list hq;refine call_enumerate_list pl.isList fun h' he hit hsz hk=>?_;refine wpAny_pyIter_enum he ?_;have I2:Inv X pins σ H1 {s1 with heap:=h'}:=I1.kept (t':=s1.toks) hk;refine ⟨s1.heap.objs.size+1,[s1.heap.objs.size+1,s1.heap.objs.size],_,_,H1,rfl,I2,uQ l _ _ (Nat.succ_ne_self _),⟨⟨_,he⟩,hit⟩,fun b hb=>?_,q⟩;have hle:s1.heap.objs.size<=b:=by
   rcases zq6.mp hb with rfl | hb
   ·exact mI _
   ·rw [zq2.mp hb];exact zq0 _
  exact I1.fpOk hle (I1.hok.fresh hle)
theorem vC{K:W.Frag}{a:Addr}{xs:List V}{g:TG}{tb:TS}{D:d4}{σ:St}{H:Hp}(Pv:Nat->St->Hp->Prop)(h0:Pv 0 σ H)(hl:∀i σ H,i<=xs.length->Pv i σ H->SqL K H a xs)
  (hs:∀(i:Nat)x σ H p,xs[i]?=some x->H p=none->Pv i σ H->g (.ref p) σ (upd H p (.tup [.int i,x])) fun σ2 H2=>tb {D with nx:=Pv (i+1),ct:=Pv (i+1),bk:=D.nx} σ2 H2) (hd:∀σ H,Pv xs.length σ H->D.nx σ H) :
  ∃W:Nat->Nat->St->Hp->Prop,(∃m,W 0 m σ H)/\∀i m σ H,W i m σ H->
   ((Ite K a).stop i H/\D.nx σ H)\/((Ite K a).go i H/\∃N:St->Hp->Prop,(∀σ' H',N σ' H'->∃m',m'<m/\W (i+1) m' σ' H')/\∀x H',(Ite K a).yld i H x H'->g x σ H' fun σ2 H2=>tb {D with nx:=N,ct:=N,bk:=D.nx} σ2 H2):=by
 refine ⟨fun i m σ H=>m=xs.length-i/\i<=xs.length/\Pv i σ H,⟨xs.length,by simp,cc _,h0⟩,?_⟩;rintro i m σ H ⟨rfl,hi,p⟩;have q:=hl i σ H hi p
 by_cases hlt:i<xs.length
 ·refine .inr ⟨⟨xs,xs[i],q,by simp [hlt]⟩,Pv (i+1),fun σ' H' p'=>⟨xs.length-(i+1),by omega,rfl,hlt,p'⟩,fun x H' y=>?_⟩;obtain ⟨pp,z,ex,hn,eH,y⟩:=y;subst ex eH;exact hs i z σ H pp (y xs q) hn p
 ·have e:i=xs.length:=by omega
  subst e;exact .inl ⟨⟨xs,q,zq0 _⟩,hd σ H p⟩
theorem nj{ns:List Int}(h:W.WData.layableAll [W.WData.list (ns.map W.WData.int)]=true):∀n∈ns,Builtin.Int.intBits n<=2 ^ 20:=fun n hn=>by have h1:=(W.layW_cons h).1;have h2:=W.layableW_item h1 (W.WData.int n) (zq20.mpr ⟨n,hn,rfl⟩);exact PyData.bits_of_layable (W.layable0_of_all (W.lay0_int h2))
section
open PySem.W PySem.Calls
theorem yg{l:W.OpenLaw}{n k:Nat}{q:Program}{loose:List Str}{XP:(Str->Option Value)->Heap->Prop}{YP:World->Heap->Prop}{d:DefRec}{K:Params->W.Frag}{CX:World->CXT}{sp:World->Sp}{x:Str}
  (hn:l.most=some n) (hn2:n<=sizeLine) (hdf:d.params.defaults=[]) (hr:Room k callerA)
  (hY:∀(w:World)(h:Heap),YP w h->(K w.params).In h)
  (F:∀(w:World)(mg:Str->Option Value)(fa:Addr)(h:Heap),(K w.params).In h->h.Ns mainGlobals mg->mg d.name=some (.ref fa)->
   ∃fd:FuncData,(∀(s:Shared)(u:Value),BindsTo s fd ⟨[u],[]⟩ [(x,u)])/\
    ∀base:Heap,(K w.params).In base->base.Ns mainGlobals mg->FnOk l.prog w (K w.params) mg base (CX w) k fa fd [x] (sp w))
  (hsp:∀(w:World)(H:Hp)(a:Addr)(ns:List Int),ns.length<=n->(∀z∈ns,Builtin.Int.intBits z<=2 ^ 20)->Bm H->SqL (K w.params) H a (ns.map V.int)->sp w [.ref a] H (fun v _=>v=.bl true) fun _ _ _=>False)
  (hCX:∀(w:World)(H:Hp)(s:Shared)(e:Value)(s':Shared),CX w [] H s (fun _ _ _=>False) e s'->False) :
  W.WalkO q loose XP YP l.row.toRowW d [] (fun f vs=>PySem.call f vs):=by
 intro w s₀ s₁ mg mb G Y fa o pm cd doc dV kV ho hd hcd hD hmg hg args vals as hpre hlay hrd hwl hlo;obtain rfl:dV=.none:=Dflts.none hD hdf;obtain rfl:kV=.none:=Dflts.noKw hD;obtain ⟨a,vs,ns,rfl,rfl,hobj,hints,hlen⟩:=Att.uJ hn hpre hwl;have KX:=hY w _ Y;obtain ⟨fd,hb,hF⟩:=F w mg fa _ KX G.T.g hmg;refine enter_call (codeAny_mono (vT KX G.T.g G.T.b G.T.builtins G.T.nolimit hg hobj hints (cL hlen hn2) hr hF hb (fun H hO hS=>hsp w H a ns hlen (nj hlay) hO hS) fun H e s'=>hCX w H s₁ e s') fun r s' hq=>?_);obtain ⟨rfl,h2,h3,h4⟩:=hq;exact ⟨.inl ⟨.bool true,.bool true,[],rfl,fun _=>rfl,.bool true,Att.uA l _,fun _=>⟨List.Pairwise.nil,fun _ hm=>(nomatch hm)⟩⟩,h2,h3,h4⟩
end
end L2
namespace L2
variable {a p:Addr} {a0 a1 a10 a2 a3 a4 a5 a6 a7 a8 a9 b:Option V} {c i j:Int} {r:St} {ta te:TE} {xs:List V}
section
variable {H:Hp} {Q:VK} {σ:St} {D:d4}
theorem Gb{v:V}{Z:St->Hp->Prop}:bG 0 v (b::r) H Z=Z (some v::r) H:=rfl
theorem Gc{v:V}{Z:St->Hp->Prop}:bG 1 v (a0::b::r) H Z=Z (a0::some v::r) H:=rfl
theorem Gd{v:V}{Z:St->Hp->Prop}:bG 2 v (a0::a1::b::r) H Z=Z (a0::a1::some v::r) H:=rfl
theorem Ge{v:V}{Z:St->Hp->Prop}:bG 3 v (a0::a1::a2::b::r) H Z=Z (a0::a1::a2::some v::r) H:=rfl
theorem Gf{v:V}{Z:St->Hp->Prop}:bG 4 v (a0::a1::a2::a3::b::r) H Z=Z (a0::a1::a2::a3::some v::r) H:=rfl
theorem Gg{v:V}{Z:St->Hp->Prop}:bG 5 v (a0::a1::a2::a3::a4::b::r) H Z=Z (a0::a1::a2::a3::a4::some v::r) H:=rfl
theorem Gh{v:V}{Z:St->Hp->Prop}:bG 6 v (a0::a1::a2::a3::a4::a5::b::r) H Z=Z (a0::a1::a2::a3::a4::a5::some v::r) H:=rfl
theorem Gi{v:V}{Z:St->Hp->Prop}:bG 7 v (a0::a1::a2::a3::a4::a5::a6::b::r) H Z=Z (a0::a1::a2::a3::a4::a5::a6::some v::r) H:=rfl
theorem Gj{v:V}{Z:St->Hp->Prop}:bG 8 v (a0::a1::a2::a3::a4::a5::a6::a7::b::r) H Z=Z (a0::a1::a2::a3::a4::a5::a6::a7::some v::r) H:=rfl
theorem Gk{v:V}{Z:St->Hp->Prop}:bG 9 v (a0::a1::a2::a3::a4::a5::a6::a7::a8::b::r) H Z=Z (a0::a1::a2::a3::a4::a5::a6::a7::a8::some v::r) H:=rfl
theorem E5{v:V}{Z:St->Hp->Prop}:bG 10 v (a0::a1::a2::a3::a4::a5::a6::a7::a8::a9::b::r) H Z=Z (a0::a1::a2::a3::a4::a5::a6::a7::a8::a9::some v::r) H:=rfl
theorem E6{v:V}{Z:St->Hp->Prop}:bG 11 v (a0::a1::a2::a3::a4::a5::a6::a7::a8::a9::a10::b::r) H Z=Z (a0::a1::a2::a3::a4::a5::a6::a7::a8::a9::a10::some v::r) H:=rfl
theorem E7{v:V}{Z:St->Hp->Prop}{a11:Option V}:bG 12 v (a0::a1::a2::a3::a4::a5::a6::a7::a8::a9::a10::a11::b::r) H Z=Z (a0::a1::a2::a3::a4::a5::a6::a7::a8::a9::a10::a11::some v::r) H:=rfl
theorem E8{v:V}{Z:St->Hp->Prop}{a11:Option V}{a12:Option V}:bG 13 v (a0::a1::a2::a3::a4::a5::a6::a7::a8::a9::a10::a11::a12::b::r) H Z=Z (a0::a1::a2::a3::a4::a5::a6::a7::a8::a9::a10::a11::a12::some v::r) H:=rfl
theorem r_c{v:V}:tC v σ H Q=Q v H:=rfl
theorem Gq{r:R2}{tb:TE}:tOp r ta tb σ H Q=ta σ H fun x H1=>tb σ H1 fun y H2=>r x y H2 Q:=rfl
theorem Gu{r:V->Hp->VK->Prop}:tUn r ta σ H Q=ta σ H fun x H1=>r x H1 Q:=rfl
theorem nG:decide (V.int i=V.int j)=decide (i=j):=by
 by_cases h:i=j
 ·rw [decide_eq_true h,decide_eq_true (congrArg V.int h)]
 ·rw [decide_eq_false h,decide_eq_false fun q=>h (V.int.inj q)]
theorem nH{i j:Str}:decide (V.str i=V.str j)=decide (i=j):=by
 by_cases h:i=j
 ·rw [decide_eq_true h,decide_eq_true (congrArg V.str h)]
 ·rw [decide_eq_false h,decide_eq_false fun q=>h (V.str.inj q)]
theorem E1:rEq (.int i) (.int j) H Q=Q (.bl (decide (i=j))) H:=by show (uI (.int i) (.int j)=true/\Q (.bl (decide (V.int i=V.int j))) H)=_;rw [nG];exact propext ⟨fun h=>h.2,fun h=>⟨rfl,h⟩⟩
theorem E2{i j:Str}:rEq (.str i) (.str j) H Q=Q (.bl (decide (i=j))) H:=by show (uI (.str i) (.str j)=true/\Q (.bl (decide (V.str i=V.str j))) H)=_;rw [nH];exact propext ⟨fun h=>h.2,fun h=>⟨rfl,h⟩⟩
theorem Eh:rNe (.int i) (.int j) H Q=Q (.bl (!decide (i=j))) H:=by show (uI (.int i) (.int j)=true/\Q (.bl (!decide (V.int i=V.int j))) H)=_;rw [nG];exact propext ⟨fun h=>h.2,fun h=>⟨rfl,h⟩⟩
theorem Ei{i j:Str}:rNe (.str i) (.str j) H Q=Q (.bl (!decide (i=j))) H:=by show (uI (.str i) (.str j)=true/\Q (.bl (!decide (V.str i=V.str j))) H)=_;rw [nH];exact propext ⟨fun h=>h.2,fun h=>⟨rfl,h⟩⟩
theorem Cu{c:Bool}{Z:Bool->Prop}:(∃k,V.bl c=V.bl k/\Z k)=Z c:=propext ⟨by rintro ⟨_,e,q⟩;cases e;exact q,by intro q;exact ⟨c,rfl,q⟩⟩
theorem A1{Z:Int->Prop}:(∃k,V.int c=V.int k/\Z k)=Z c:=propext ⟨by rintro ⟨_,e,q⟩;cases e;exact q,by intro q;exact ⟨c,rfl,q⟩⟩
theorem D2{t:TE}{Z:Bool->Hp->Prop}:Ba t σ H Z=t σ H fun x H'=>∃k,x=.bl k/\Z k H':=rfl
theorem r_B{t:TE}{Z:Bool->Hp->Prop}:tB t σ H Z=t σ H fun x H'=>∃k,x=.bl k/\Z k H':=rfl
theorem DV{t u:TT}{Z:Bool->Hp->Prop}:Fx t u σ H Z=t σ H fun c H1=>if c=true then u σ H1 Z else Z false H1:=rfl
theorem Gr{t u:TT}{Z:Bool->Hp->Prop}:tOr t u σ H Z=t σ H fun c H1=>if c=true then Z true H1 else u σ H1 Z:=rfl
theorem Ek{t:TT}{Z:Bool->Hp->Prop}:FE t σ H Z=t σ H fun c H1=>Z (!c) H1:=rfl
theorem Cf{tb:TE}:B4 ta tb σ H Q=ta σ H fun x H1=>∃c,x=.bl c/\if c=true then tb σ H1 Q else Q (.bl false) H1:=rfl
theorem El{tb:TE}:FF ta tb σ H Q=ta σ H fun x H1=>∃c,x=.bl c/\if c=true then Q (.bl true) H1 else tb σ H1 Q:=rfl
theorem CV:B8 ta σ H Q=ta σ H fun x H1=>∃c,x=.bl c/\Q (.bl (!c)) H1:=rfl
theorem Gm{t:TT}{tb:TE}:tIf t ta tb σ H Q=t σ H fun c H1=>if c=true then ta σ H1 Q else tb σ H1 Q:=rfl
theorem CU:B7 D σ H=D.nx σ H:=rfl
theorem xr{t u:TS}:Da t u D σ H=t {D with nx:=u D} σ H:=rfl
theorem Cp:B6 te D σ H=te σ H fun _ H1=>D.nx σ H1:=rfl
theorem Em:xX te D σ H=te σ H D.rt:=rfl
theorem AY{c:TT}{t u:TS}:D8 c t u D σ H=c σ H fun b H1=>if b=true then t D σ H1 else u D σ H1:=rfl
theorem DX{g:TG}:Aq te g D σ H=te σ H fun x H1=>g x σ H1 D.nx:=rfl
theorem G8{r:List V->Hp->VK->Prop}{t:TA}:tCB r t σ H Q=t σ H fun vs H1=>r vs H1 Q:=rfl
theorem Ej{Z:List V->Hp->Prop}:pD σ H Z=Z [] H:=rfl
theorem Ck{tr:TA}{Z:List V->Hp->Prop}:xT ta tr σ H Z=ta σ H fun x H1=>tr σ H1 fun xs H2=>Z (x::xs) H2:=rfl
theorem Cj{sp:Sp}{E:XK}{t:TA}:pC sp [] E t σ H Q=t σ H fun vs H1=>sp vs H1 Q E:=by show (t σ H fun vs H1=>sp (vs++[]) H1 Q E)=_;simp only [List.append_nil]
theorem Ep{t:TA}:FH t σ H Q=t σ H fun xs H1=>xs.length<=sizeLine/\∀p,H1 p=none->Q (.ref p) (upd H1 p (.tup xs)):=rfl
theorem Ef{t:TA}:FC t σ H Q=t σ H fun xs H1=>xs.length<=sizeLine/\∀p,H1 p=none->Q (.ref p) (upd H1 p (.lst xs)):=rfl
theorem Cm{td ty:TE}:B5 td ty σ H Q=td σ H fun x H1=>ty σ H1 fun y H2=>∃a v,x=.ref a/\DGet H2 a y (some v)/\Q v H2:=rfl
theorem Gs{r:V->Option Int->Option Int->Hp->VK->Prop}{tl th:TO}:tSl r te tl th σ H Q=te σ H fun x H1=>tl σ H1 fun l H2=>th σ H2 fun u H3=>r x l u H3 Q:=rfl
theorem xn{Z:Option Int->Hp->Prop}:sY σ H Z=Z none H:=rfl
theorem CY{Z:Option Int->Hp->Prop}:B9 te σ H Z=te σ H fun x H1=>∃i,x=.int i/\Z (some i) H1:=rfl
theorem Cw{Z:St->Hp->Prop}:DA [] σ H Z=Z σ H:=propext ⟨fun h=>h.2,fun h=>⟨rfl,h⟩⟩
theorem A3{t:TG}{u:TGs}{v:V}{r:List V}{Z:St->Hp->Prop}:AN t u (v::r) σ H Z=t v σ H fun σ' H'=>u r σ' H' Z:=propext ⟨by rintro ⟨_,_,e,q⟩;cases e;exact q,by intro q;exact ⟨v,r,rfl,q⟩⟩
theorem Ea{A B:Prop}:(if false=true then A else B)=B:=if_neg zq7
theorem Gp:(!true)=false:=rfl
theorem Gn:(!false)=true:=rfl
theorem CJ:(([]:List V).length<=sizeLine)=True:=eq_true (by show 0<=sizeLine;decide)
theorem CK{a0:V}:(([a0]:List V).length<=sizeLine)=True:=eq_true (by show 1<=sizeLine;decide)
theorem CL{a0 a1:V}:(([a0,a1]:List V).length<=sizeLine)=True:=eq_true (by show 2<=sizeLine;decide)
theorem CM{a0 a1 a2:V}:(([a0,a1,a2]:List V).length<=sizeLine)=True:=eq_true (by show 3<=sizeLine;decide)
theorem CN{a0 a1 a2 a3:V}:(([a0,a1,a2,a3]:List V).length<=sizeLine)=True:=eq_true (by show 4<=sizeLine;decide)
theorem CO{a0 a1 a2 a3 a4 a5 a6:V}:(([a0,a1,a2,a3,a4,a5,a6]:List V).length<=sizeLine)=True:=eq_true (by show 7<=sizeLine;decide)
theorem CP{a0 a1 a2 a3 a4 a5 a6 a7:V}:(([a0,a1,a2,a3,a4,a5,a6,a7]:List V).length<=sizeLine)=True:=eq_true (by show 8<=sizeLine;decide)
end
noncomputable def mM(J:It)(g:TG)(tb:TS)(D:d4)(σ:St)(H1:Hp):Prop:=∃W:Nat->Nat->St->Hp->Prop,(∃m,W 0 m σ H1)/\∀i m σ H,W i m σ H->
 (J.stop i H/\D.nx σ H)\/(J.go i H/\∃N:St->Hp->Prop,(∀σ' H',N σ' H'->∃m',m'<m/\W (i+1) m' σ' H')/\∀x H',J.yld i H x H'->g x σ H' fun σ2 H2=>tb {D with nx:=N,ct:=N,bk:=D.nx} σ2 H2)
section
variable {g:TG} {tb:TS} {D:d4} {σ:St} {H:Hp}
theorem E4{wi:TI}:D7 wi g tb D σ H=wi σ H fun J H1=>mM J g tb D σ H1:=rfl
theorem A4{K:W.Frag}{ta:TA}{R:It->Hp->Prop}:vJ K ta σ H R=ta σ H fun vs H1=>∃a,vs=[.ref a]/\(∃xs,SqL K H1 a xs)/\R (Ite K a) H1:=rfl
theorem A6{K:W.Frag}{tl:TE}{R:It->Hp->Prop}:AO K tl σ H R=tl σ H fun x H1=>∃a,x=.ref a/\(∃xs,SqL K H1 a xs)/\R (Itl K a) H1:=rfl
theorem CC{K:W.Frag}{tl:TE}{R:It->Hp->Prop}:DD K tl σ H R=tl σ H fun x H1=>∃a,x=.ref a/\(∃xs,SqT K H1 a xs)/\R (Itt K a) H1:=rfl
theorem A7{ta:TA}{R:It->Hp->Prop}:AQ ta σ H R=ta σ H fun vs H1=>∃j:Int,vs=[.int j]/\-(2 ^ 62)<=j/\j<2 ^ 62/\R (Itr 0 j.toNat) H1:=rfl
theorem A8{ta:TA}{R:It->Hp->Prop}:vK ta σ H R=ta σ H fun vs H1=>∃i j:Int,vs=[.int i,.int j]/\(-(2 ^ 62)<=i/\i<2 ^ 62/\-(2 ^ 62)<=j/\j<2 ^ 62)/\R (Itr i (j-i).toNat) H1:=rfl
theorem Cq{Z:Int->Prop}:(∃k,[V.int c]=[V.int k]/\Z k)=Z c:=propext ⟨by rintro ⟨_,e,q⟩;cases e;exact q,by intro q;exact ⟨c,rfl,q⟩⟩
theorem Cr{d:Int}{Z:Int->Int->Prop}:(∃k l,[V.int c,V.int d]=[V.int k,V.int l]/\Z k l)=Z c d:=propext ⟨by rintro ⟨_,_,e,q⟩;cases e;exact q,by intro q;exact ⟨c,d,rfl,q⟩⟩
theorem E3{c:Addr}{Z:Addr->Prop}:(∃k,V.ref c=V.ref k/\Z k)=Z c:=propext ⟨by rintro ⟨_,e,q⟩;cases e;exact q,by intro q;exact ⟨c,rfl,q⟩⟩
theorem nU{lo:Int}{n:Nat}(Pv:Nat->St->Hp->Prop)(h0:Pv 0 σ H)
 (hs:∀(i:Nat)σ H,i<n->Pv i σ H->g (.int (lo+i)) σ H fun σ2 H2=>tb {D with nx:=Pv (i+1),ct:=Pv (i+1),bk:=D.nx} σ2 H2) (hd:∀σ H,Pv n σ H->D.nx σ H):mM (Itr lo n) g tb D σ H:=tV Pv h0 hs hd
theorem fN{n:Nat}(Pv:Nat->St->Hp->Prop)(h0:Pv 0 σ H)
 (hs:∀(i:Nat)σ H,i<n->Pv i σ H->g (.int (i:Int)) σ H fun σ2 H2=>tb {D with nx:=Pv (i+1),ct:=Pv (i+1),bk:=D.nx} σ2 H2) (hd:∀σ H,Pv n σ H->D.nx σ H):mM (Itr 0 n) g tb D σ H:=
 nU Pv h0 (fun i σ H hi p=>by rw [yu];exact hs i σ H hi p) hd
theorem zk{K:W.Frag}(Pv:Nat->St->Hp->Prop)(h0:Pv 0 σ H)(hl:∀i σ H,i<=xs.length->Pv i σ H->SqL K H a xs)
 (hs:∀(i:Nat)x σ H p,xs[i]?=some x->H p=none->Pv i σ H->g (.ref p) σ (upd H p (.tup [.int i,x])) fun σ2 H2=>tb {D with nx:=Pv (i+1),ct:=Pv (i+1),bk:=D.nx} σ2 H2) (hd:∀σ H,Pv xs.length σ H->D.nx σ H):mM (Ite K a) g tb D σ H:=vC Pv h0 hl hs hd
theorem cY{K:W.Frag}(Pv:Nat->St->Hp->Prop)(h0:Pv 0 σ H)(hl:∀i σ H,i<=xs.length->Pv i σ H->SqL K H a xs)
 (hs:∀(i:Nat)x σ H,xs[i]?=some x->Pv i σ H->g x σ H fun σ2 H2=>tb {D with nx:=Pv (i+1),ct:=Pv (i+1),bk:=D.nx} σ2 H2) (hd:∀σ H,Pv xs.length σ H->D.nx σ H):mM (Itl K a) g tb D σ H:=vD Pv h0 hl hs hd
theorem Same.upd{H:Hp}{o:HO}(h:H p=none):Same H (upd H p o):=fun b u e=>by rw [av (ao e h)];exact e
theorem Same.seqT{K:W.Frag}{H H':Hp}(e:Same H H')(h:SqT K H a xs):SqT K H' a xs:=by
 rcases h with (h | ⟨o,h⟩) | h
 ·exact .inl (.inl (e _ _ h))
 ·exact .inl (.inr ⟨o,e _ _ h⟩)
 ·exact .inr h
end
section
variable {H:Hp} {Q:VK} {σ:St} {D:d4} {K:W.Frag}
theorem Ga{T:String}{r:V->List V->Hp->VK->Prop}{to:TE}{t:TA}:tBM K T r to t σ H Q=to σ H fun x H1=>tyV K T x H1/\t σ H1 fun xs H2=>r x xs H2 Q:=rfl
theorem DY{T:String}{r:V->List V->Hp->VK->Prop}{to:TE}:Fy K T r to σ H Q=to σ H fun x H1=>tyV K T x H1/\r x [] H1 Q:=rfl
theorem Ec{z:Str}:DR (.str z) (.int i) H Q=(z.length<=sizeLine/\∃c,atI z.cps.toList i=some c/\Q (.str ⟨#[c]⟩) H):=propext ⟨by rintro ⟨_,_,c,e1,e2,h1,h2,q⟩;cases e1;cases e2;exact ⟨h1,c,h2,q⟩,by rintro ⟨h1,c,h2,q⟩;exact ⟨_,_,c,rfl,rfl,h1,h2,q⟩⟩
theorem Eb:Cd K (.ref p) (.int i) H Q=∃xs v,SqL K H p xs/\atI xs i=some v/\Q v H:=propext ⟨by rintro ⟨_,xs,_,v,e1,e2,h1,h2,q⟩;cases e1;cases e2;exact ⟨xs,v,h1,h2,q⟩,by rintro ⟨xs,v,h1,h2,q⟩;exact ⟨_,xs,_,v,rfl,rfl,h1,h2,q⟩⟩
theorem Ee:Ce K (.ref p) (.int i) H Q=∃xs v,SqT K H p xs/\atI xs i=some v/\Q v H:=propext ⟨by rintro ⟨_,xs,_,v,e1,e2,h1,h2,q⟩;cases e1;cases e2;exact ⟨xs,v,h1,h2,q⟩,by rintro ⟨xs,v,h1,h2,q⟩;exact ⟨_,xs,_,v,rfl,rfl,h1,h2,q⟩⟩
theorem DZ{b:Addr}:DQ (.ref a) (.ref b) H Q=∃xs zs,H a=some (.lst xs)/\H b=some (.lst zs)/\xs.length+zs.length<=sizeLine/\∀p,H p=none->Q (.ref p) (upd H p (.lst (xs++zs))):=propext ⟨by rintro ⟨_,_,xs,zs,e1,e2,h⟩;cases e1;cases e2;exact ⟨xs,zs,h⟩,by rintro ⟨xs,zs,h⟩;exact ⟨_,_,xs,zs,rfl,rfl,h⟩⟩
theorem En{lo hi:Option Int}:DT K (.ref a) lo hi H Q=∃xs,SqL K H a xs/\∀p,H p=none->Q (.ref p) (upd H p (.lst (dU xs lo hi))):=propext ⟨by rintro ⟨_,xs,e1,h⟩;cases e1;exact ⟨xs,h⟩,by rintro ⟨xs,h⟩;exact ⟨_,xs,rfl,h⟩⟩
theorem x9{y:V}:si (.ref a) [y] H Q=∃xs,H a=some (.lst xs)/\xs.length<sizeLine/\Q .non (upd H a (.lst (xs++[y]))):=propext ⟨by rintro ⟨_,xs,_,e1,e2,h⟩;cases e1;cases e2;exact ⟨xs,h⟩,by rintro ⟨xs,h⟩;exact ⟨_,xs,_,rfl,rfl,h⟩⟩
theorem Cs{Z:Addr->List V->Prop}:(∃p ys,[V.ref a]=[V.ref p]/\Z p ys)=∃ys,Z a ys:=propext ⟨by rintro ⟨_,ys,e1,q⟩;cases e1;exact ⟨ys,q⟩,by rintro ⟨ys,q⟩;exact ⟨a,ys,rfl,q⟩⟩
theorem CH{c:Bool}{Z:Int->Prop}{Y:Bool->Prop}:((∃i,[V.bl c]=[V.int i]/\Z i)\/∃k,[V.bl c]=[V.bl k]/\Y k)=Y c:=propext ⟨fun h=>(by rcases h with ⟨_,e,q⟩ | ⟨_,e,q⟩<;>cases e<;>exact q),fun q=>Or.inr ⟨c,rfl,q⟩⟩
theorem Cz{n:Nat}{t:TGs}{Z:St->Hp->Prop}:DB K n t (.ref a) σ H Z=∃xs,SqT K H a xs/\xs.length=n/\t xs σ H Z:=propext ⟨by rintro ⟨_,xs,e,h⟩;cases e;exact ⟨xs,h⟩,by rintro ⟨xs,h⟩;exact ⟨a,xs,rfl,h⟩⟩
end
end L2
namespace L2
section
variable {prog:Program} {w:World} {A:Around} {R:Result->Shared->Prop} {s:Shared}
end
end L2
namespace L2
inductive Dq (K:W.Frag) (H:Hp):Nat->V->V->Bool->Prop where
 |flat {n:Nat} {x y:V} (fx:bz x=true) (fy:bz y=true):Dq K H n x y (eqV x y)
 |same {n:Nat} {a:Addr}:Dq K H n (.ref a) (.ref a) true
 |lists {n:Nat} {a b:Addr} {xs ys:List V} (e:Nat->Bool) (ne:a≠b) (ha:SqL K H a xs) (hb:SqL K H b ys) (hl:xs.length=ys.length)
   (he:∀(j:Nat)x y,xs[j]?=some x->ys[j]?=some y->Dq K H n x y (e j)):Dq K H (n+1) (.ref a) (.ref b) ((List.range xs.length).all e)
 |lens {n:Nat} {a b:Addr} {xs ys:List V} (ne:a≠b) (ha:SqL K H a xs) (hb:SqL K H b ys) (hl:¬xs.length=ys.length):Dq K H (n+1) (.ref a) (.ref b) false
 |tups {n:Nat} {a b:Addr} {xs ys:List V} (e:Nat->Bool) (ne:a≠b) (ha:SqT K H a xs) (hb:SqT K H b ys)
   (he:∀(j:Nat)x y,xs[j]?=some x->ys[j]?=some y->Dq K H n x y (e j)):Dq K H (n+1) (.ref a) (.ref b) ((List.range (min xs.length ys.length)).all e&&xs.length==ys.length)
section
variable {X:Cx} {pins:List (Addr×Obj)} {σ:St} {H:Hp} {s:Shared}
theorem ff{xs:List V}{its:List Value}(r:Vals xs its){j:Nat}(h:j<its.toArray.size):∃x,xs[j]?=some x/\RelV x its.toArray[j]:=by
 have hl:=r.length;have hj:j<xs.length:=by simpa [hl] using h
 obtain ⟨u,hu,ru⟩:=r.get (zq4 hj);have e:its.toArray[j]=u:=by
  have h2:its[j]?=some u:=hu;have h3:j<its.length:=by simpa using h
  rw [zq4 h3] at h2;simpa using h2
 exact ⟨xs[j],zq4 hj,by rw [e];exact ru⟩
theorem Dq.at(I:Inv X pins σ H s){n:Nat}{x y:V}{b:Bool}(d:Dq X.K H n x y b):∀{A:Around} {v u:Value},RelV x v->RelV y u->A.units+n<cLine->SeqAt.EqAt A s v u b:=by
 induction d with
 |flat fx fy=>intro A v u rv ru _;exact q5 rv ru fx fy
 |same=>intro A v u rv ru _;cases rv;cases ru;exact SeqAt.EqAt.same _
 | @lists n a b xs ys e ne ha hb hl he ih=>
  intro A v u rv ru hu
  cases rv;cases ru
  obtain ⟨its,r,p,_⟩:=I.list ha;obtain ⟨its2,r2,p2,_⟩:=I.list hb;have e1:=r.length;have e2:=r2.length;have z:=SeqAt.RcAt.lists (A:=A) (e:=e) p.isList p2.isList (by simp;omega) (by omega) fun j h1 h2=>by obtain ⟨x,hx,rx⟩:=ff r h1;obtain ⟨y,hy,ry⟩:=ff r2 h2;exact ih j x y hx hy rx ry (by show A.units+1+n<cLine;omega)
  have e3:its.toArray.size=xs.length:=by simp [e1]
  rw [e3] at z;exact SeqAt.EqAt.of_refs ne z
 | @lens n a b xs ys ne ha hb hl=>
  intro A v u rv ru hu
  cases rv;cases ru
  obtain ⟨its,r,p,_⟩:=I.list ha;obtain ⟨its2,r2,p2,_⟩:=I.list hb;have e1:=r.length;have e2:=r2.length;exact SeqAt.EqAt.of_refs ne (SeqAt.RcAt.lists_lengths (A:=A) p.isList p2.isList (by simp;omega) (by omega))
 | @tups n a b xs ys e ne ha hb he ih=>
  intro A v u rv ru hu
  cases rv;cases ru
  obtain ⟨its,r,p,_⟩:=I.tuple ha;obtain ⟨its2,r2,p2,_⟩:=I.tuple hb;have e1:=r.length;have e2:=r2.length;have z:=SeqAt.RcAt.tuples (A:=A) (e:=e) (show s.heap.IsTuple a its.toArray from p) (show s.heap.IsTuple b its2.toArray from p2) (by omega) fun j h1 h2=>by obtain ⟨x,hx,rx⟩:=ff r h1;obtain ⟨y,hy,ry⟩:=ff r2 h2;exact ih j x y hx hy rx ry (by show A.units+1+n<cLine;omega)
  have e3:its.toArray.size=xs.length:=by simp [e1]
  have e4:its2.toArray.size=ys.length:=by simp [e2]
  rw [e3,e4] at z;exact SeqAt.EqAt.of_refs ne z
end
inductive Rq (K:W.Frag) (H:Hp) (n:Nat):V->V->Bool->Prop where
 |lists {a b:Addr} {xs ys:List V} (e:Nat->Bool) (ha:SqL K H a xs) (hb:SqL K H b ys) (hl:xs.length=ys.length)
   (he:∀(j:Nat)x y,xs[j]?=some x->ys[j]?=some y->Dq K H n x y (e j)):Rq K H n (.ref a) (.ref b) ((List.range xs.length).all e)
 |lens {a b:Addr} {xs ys:List V} (ha:SqL K H a xs) (hb:SqL K H b ys) (hl:¬xs.length=ys.length):Rq K H n (.ref a) (.ref b) false
 |tups {a b:Addr} {xs ys:List V} (e:Nat->Bool) (ha:SqT K H a xs) (hb:SqT K H b ys)
   (he:∀(j:Nat)x y,xs[j]?=some x->ys[j]?=some y->Dq K H n x y (e j)):Rq K H n (.ref a) (.ref b) ((List.range (min xs.length ys.length)).all e&&xs.length==ys.length)
noncomputable def G6(K:W.Frag)(n:Nat):R2:=fun x y H Q=>∃b,Rq K H n x y b/\Q (.bl b) H
noncomputable def G7(K:W.Frag)(n:Nat):R2:=fun x y H Q=>∃b,Rq K H n x y b/\Q (.bl (!b)) H
section
variable {X:Cx}
theorem jF{n:Nat}(hu:X.A.units+(n+1)<cLine):OpR X (compareOp .Eq) (G6 X.K n):=by
 intro pins s σ H x y v u Q I rx ry h;obtain ⟨b,d,q⟩:=h
 cases d with
 | @lists a c xs ys e ha hb hl he=>
  cases rx;cases ry
  obtain ⟨its,r,p,_⟩:=I.list ha;obtain ⟨its2,r2,p2,_⟩:=I.list hb;have e1:=r.length;have e2:=r2.length;have e3:its.toArray.size=xs.length:=by simp [e1]
  refine SeqAt.eq_listAt (e:=e) p.isList p2.isList (by simp;omega) (by omega) (fun j h1 h2=>?_) ⟨.bl _,H,I,rfl,by rw [e3];exact q⟩;obtain ⟨x,hx,rx⟩:=ff r h1;obtain ⟨y,hy,ry⟩:=ff r2 h2;exact (he j x y hx hy).at I rx ry (by show X.A.units+1+n<cLine;omega)
 | @lens a c xs ys ha hb hl=>
  cases rx;cases ry
  obtain ⟨its,r,p,_⟩:=I.list ha;obtain ⟨its2,r2,p2,_⟩:=I.list hb;have e1:=r.length;have e2:=r2.length;exact SeqAt.eq_list_lengthsAt p.isList p2.isList (by simp;omega) (by omega) ⟨.bl _,H,I,rfl,q⟩
 | @tups a c xs ys e ha hb he=>
  cases rx;cases ry
  obtain ⟨its,r,p,_⟩:=I.tuple ha;obtain ⟨its2,r2,p2,_⟩:=I.tuple hb;have e1:=r.length;have e2:=r2.length;have e3:its.toArray.size=xs.length:=by simp [e1]
  have e4:its2.toArray.size=ys.length:=by simp [e2]
  refine SeqAt.eq_tupleAt (e:=e) (show s.heap.IsTuple a its.toArray from p) (show s.heap.IsTuple c its2.toArray from p2) (by omega) (fun j h1 h2=>?_) ⟨.bl _,H,I,rfl,by rw [e3,e4];exact q⟩;obtain ⟨x,hx,rx⟩:=ff r h1;obtain ⟨y,hy,ry⟩:=ff r2 h2;exact (he j x y hx hy).at I rx ry (by show X.A.units+1+n<cLine;omega)
theorem C0{n:Nat}(hu:X.A.units+(n+1)<cLine):OpR X (compareOp .NotEq) (G7 X.K n):=by
 intro pins s σ H x y v u Q I rx ry h;obtain ⟨b,d,q⟩:=h
 cases d with
 | @lists a c xs ys e ha hb hl he=>
  cases rx;cases ry
  obtain ⟨its,r,p,_⟩:=I.list ha;obtain ⟨its2,r2,p2,_⟩:=I.list hb;have e1:=r.length;have e2:=r2.length;have e3:its.toArray.size=xs.length:=by simp [e1]
  refine SeqAt.RcNeAt.lists (A:=X.A) (e:=e) p.isList p2.isList (by simp;omega) (by omega) (fun j h1 h2=>?_) X.prog X.w X.xe _ ⟨.bl _,H,I,rfl,by rw [e3];exact q⟩;obtain ⟨x,hx,rx⟩:=ff r h1;obtain ⟨y,hy,ry⟩:=ff r2 h2;exact (he j x y hx hy).at I rx ry (by show X.A.units+1+n<cLine;omega)
 | @lens a c xs ys ha hb hl=>
  cases rx;cases ry
  obtain ⟨its,r,p,_⟩:=I.list ha;obtain ⟨its2,r2,p2,_⟩:=I.list hb;have e1:=r.length;have e2:=r2.length;exact SeqAt.RcNeAt.lists_lengths (A:=X.A) p.isList p2.isList (by simp;omega) (by omega) X.prog X.w X.xe _ ⟨.bl _,H,I,rfl,q⟩
 | @tups a c xs ys e ha hb he=>
  cases rx;cases ry
  obtain ⟨its,r,p,_⟩:=I.tuple ha;obtain ⟨its2,r2,p2,_⟩:=I.tuple hb;have e1:=r.length;have e2:=r2.length;have e3:its.toArray.size=xs.length:=by simp [e1]
  have e4:its2.toArray.size=ys.length:=by simp [e2]
  refine SeqAt.RcNeAt.tuples (A:=X.A) (e:=e) (show s.heap.IsTuple a its.toArray from p) (show s.heap.IsTuple c its2.toArray from p2) (by omega) (fun j h1 h2=>?_) X.prog X.w X.xe _ ⟨.bl _,H,I,rfl,by rw [e3,e4];exact q⟩;obtain ⟨x,hx,rx⟩:=ff r h1;obtain ⟨y,hy,ry⟩:=ff r2 h2;exact (he j x y hx hy).at I rx ry (by show X.A.units+1+n<cLine;omega)
end
theorem vA{x:V}(h:bz x=true):eqV x x=true:=by cases x<;>first | rfl | (exact absurd h zq7) | (simp [eqV])
end L2
namespace L2
noncomputable def cS(cells:List (Str×Addr)):List (Str×NameKind)->List (Str×Addr)->List (Str×Addr)
 | [],acc=>acc
 | (n,k)::r,acc=>if k==.free then cS cells r ((n,(cells.lookup n).getD 0)::acc) else cS cells r acc
theorem dS{scope:Scope}{env:Env}(h:∀y∈scope.names,y.2=.free->∃c,env.cells.lookup y.1=some c):closureFor scope env=pure (cS env.cells scope.names []):=by
 have key:∀(names:List (Str×NameKind)) (acc:List (Str×Addr)),(∀y∈names,y.2=.free->∃c,env.cells.lookup y.1=some c)->
   (forIn names acc fun x (r:List (Str×Addr))=>match x with
    | (name,kind)=>if (kind==.free)=true then do let c <- cellOf env name;pure (ForInStep.yield ((name,c)::r)) else pure (ForInStep.yield r))=(pure (cS env.cells names acc):Sem (List (Str×Addr))):=by
  intro names
  induction names with
  |nil=>intro acc _;rfl
  |cons y r ih=>
   intro acc hy;obtain ⟨n,k⟩:=y;rw [List.forIn_cons]
   cases hk:(k==NameKind.free) with
   |true=>
    have hk':k=.free:=by simpa using hk
    obtain ⟨c,hc⟩:=hy (n,k) dJ hk';have e:cellOf env n=pure c:=by unfold cellOf;rw [show env.cells.lookup n=some c from hc]
    simp only [hk,if_true,e,pure_bind];rw [ih _ fun z hz=>hy z (zq5 _ hz)];simp only [cS,hk,if_true];rw [show env.cells.lookup n=some c from hc];rfl
   |false=>simp only [hk,Bool.false_eq_true,if_false,pure_bind];rw [ih _ fun z hz=>hy z (zq5 _ hz)];simp only [cS,hk,Bool.false_eq_true,if_false]
 refine (show closureFor scope env=((forIn scope.names [] fun x (r:List (Str×Addr))=>match x with
    | (name,kind)=>if (kind==.free)=true then do let c <- cellOf env name;pure (ForInStep.yield ((name,c)::r)) else pure (ForInStep.yield r)) >>= fun cs=>pure cs) from rfl).trans ?_
 rw [key scope.names [] h];rfl
theorem gO{cells:List (Str×Addr)}:∀{names:List (Str×NameKind)} {acc:List (Str×Addr)},(∀y∈names,y.2=.free->∃c,cells.lookup y.1=some c)->(∀y c,acc.lookup y=some c->cells.lookup y=some c)->
  ∀y c,(cS cells names acc).lookup y=some c->cells.lookup y=some c
 | [],_,_,ha=>ha
 | (n,k)::r,acc,hn,ha=>by
  intro y c;unfold cS
  split
  ·next hk=>
   refine gO (fun z hz=>hn z (zq5 _ hz)) (fun z d hz=>?_) y c;obtain ⟨e,he⟩:=hn (n,k) dJ (by simpa using hk);rw [pP] at hz
   split at hz
   ·next hq=>
    have:z=n:=by simpa using hq
    subst this;have he':cells.lookup z=some e:=he;rw [he'] at hz ⊢;exact hz
   ·exact ha z d hz
  ·exact gO (fun z hz=>hn z (zq5 _ hz)) ha y c
theorem jq{cells:List (Str×Addr)}{y:Str}:∀{names:List (Str×NameKind)} {acc:List (Str×Addr)},(∃c,acc.lookup y=some c)->∃c,(cS cells names acc).lookup y=some c
 | [],_,h=>h
 | (n,k)::r,acc,h=>by
  unfold cS
  split
  ·refine jq ?_;rw [pP]
   split
   ·exact ⟨_,rfl⟩
   ·exact h
  ·exact jq h
theorem dE{cells:List (Str×Addr)}{y:Str}:∀{names:List (Str×NameKind)} {acc:List (Str×Addr)},(y,NameKind.free)∈names->∃c,(cS cells names acc).lookup y=some c
 | (n,k)::r,acc,h=>by
  unfold cS;rcases zq6.mp h with e | e
  ·cases e
   rw [if_pos (by rfl)];exact jq ⟨(cells.lookup y).getD 0,by rw [pP,beq_self_eq_true]⟩
  ·split
   ·exact dE e
   ·exact dE e
structure Bk where
 C:Addr
 fp:List Addr
 s₂:Shared
 H₂:Hp
noncomputable def Cx.blk(X:Cx)(N':List Str)(scope:Scope)(b:Bk):Cx:=
 {prog:=X.prog,w:=X.w,K:=X.K,mg:=X.mg,base:=X.base,A:=X.A,N:=N',s₀:=b.s₂,H₀:=b.H₂,env:=compEnvC scope (cS X.env.cells scope.names []) b.C X.env,outer:=X.stack,stack:=X.stack,ex:=b.fp,fn:=fun _=>false,calm:=X.calm,pn:=[],xe:=fun _ _=>False}
noncomputable def aG(os:List (Option V))(ci:List Nat)(σ:St):St:=none::(os++ci.map fun i=>(σ[i]?).join)
noncomputable def bX(J:It)(g:TG)(tt:TT)(te:TE)(nt:Nat)(ci:List Nat)(σ:St)(acc:Addr)(Q:Hp->Prop)(H0:Hp):Prop:=∃W:Nat->Nat->List V->Hp->Prop,(∃m,W 0 m [] H0)/\∀i m ys H,W i m ys H->
 (J.stop i H/\Q H)\/(J.go i H/\∃N:List V->Hp->Prop,(∀zs H',N zs H'->∃m',m'<m/\W (i+1) m' zs H')/\∀y H' os,os.length=nt->J.yld i H y H'->g y (aG os ci σ) H' fun σ1 H1=>(∃os',os'.length=nt/\σ1=aG os' ci σ)/\tt σ1 H1 fun b H2=>if b=true then te σ1 H2 fun z H3=>H3 acc=some (.lst ys)/\ys.length<sizeLine/\N (ys++[z]) (upd H3 acc (.lst (ys++[z]))) else N ys H2)
noncomputable def jU(wi:TI)(g:Bk->TG)(tt:Bk->TT)(te:Bk->TE)(nt:Nat)(ci:List Nat):TE:=fun σ H Q=>wi σ H fun J H1=>∀acc,H1 acc=none->∀bk:Bk,bX J (g bk) (tt bk) (te bk) nt ci σ acc (fun H'=>Q (.ref acc) H') (upd H1 acc (.lst []))
noncomputable def tH(X:Cx)(ifs:List Expr)(t:TT):Prop:=
 ∀(pins:List (Addr×Obj)) (s:Shared) (σ:St) (H:Hp) (Q:Bool->Hp->Prop),Inv X pins σ H s->t σ H Q->
  wpAny (model X.prog X.w) X.A (forIn ifs true fun c r=>if r=true then do let ok <- isTrue c X.env (eval c X.env);pure (ForInStep.yield ok) else pure (ForInStep.yield r)) (TP X pins σ Q) X.xe s
noncomputable def j2:TT:=fun _ H Q=>Q true H
structure CompSc(X:Cx)(scope:Scope)(cns:List Str)(ci:List Nat):Prop where
 kind:scope.kind=.function
 cell:∀y∈scope.names,y.2≠.cell
 names:∀y∈scope.names,y.2=.local->scope.names.lookup y.1=some .local
 free:∀y∈scope.names,y.2=.free->X.env.kindOf y.1=some .cell\/X.env.kindOf y.1=some .free
 cap:∀(j:Nat)x,cns[j]?=some x->∃i,ci[j]?=some i/\X.N[i]?=some x/\(x,NameKind.free)∈scope.names
 len:cns.length=ci.length
 noloc:∀y,(y,NameKind.free)∈scope.names->¬(relabel scope X.env).names.lookup y=some .local
theorem dw{env:Env}:∀{names:List (Str×NameKind)} {y:Str} {k:NameKind},(names.map fun (n,k)=>if (k==NameKind.free&&env.scope.kind==.function&&env.kindOf n==some .cell) then (n,NameKind.cell) else (n,k)).lookup y=some k->k=.cell\/k=.free->
  (∀z∈names,z.2≠.cell)->(y,NameKind.free)∈names
 | [],_,_,h,_,_=>by simp at h
 | (n,k0)::r,y,k,h,hk,hc=>by
  rw [cM,pP] at h
  by_cases hf:(k0==NameKind.free&&env.scope.kind==.function&&env.kindOf n==some .cell)=true
  ·simp only [hf,if_true] at h;have k0f:k0=.free:=by have:=hf;simp only [Bool.and_eq_true] at this;simpa using this.1.1
   split at h
   ·next hq=>
    have:y=n:=by simpa using hq
    subst this;subst k0f;exact dJ
   ·exact zq5 _ (dw h hk fun z hz=>hc z (zq5 _ hz))
  ·simp only [hf] at h
   split at h
   ·next hq=>
    have:y=n:=by simpa using hq
    subst this;have e:k0=k:=by simpa using h
    subst e;rcases hk with z | z
    ·exact absurd z (hc _ dJ)
    ·subst z;exact dJ
   ·exact zq5 _ (dw h hk fun z hz=>hc z (zq5 _ hz))
section
variable {prog:Program} {w:World} {A:Around} {R:Result->Shared->Prop} {s:Shared}
theorem gP{elt target iter:Expr}{ifs:List Expr}{scope:Scope}{pos:Pos}{it acc:Value}{env:Env}(I:Nat->Shared->Prop)
  (turn:∀n s,I n s->wpAny (model prog w) A (pyNext it) (fun r s₁=>match r with
   |none=>R (.ok .next) s₁
   |some v=>wpAny (model prog w) A (letOwnedTupleGo target it v) (fun _ s₅=>wpAny (model prog w) A (assign target env v) (fun _ s₂=>
     wpAny (model prog w) A (forIn ifs true fun c r=>if r=true then do let ok <- isTrue c env (eval c env);pure (ForInStep.yield ok) else pure (ForInStep.yield r)) (fun ok s₃=>
      if ok=true then wpAny (model prog w) A (eval elt env) (fun x s₄=>wpAny (model prog w) A (call (.builtin "list.append") [acc,x]) (fun _ s₅=>∃m,m<n/\I m s₅) (fun _ _=>False) s₄) (fun _ _=>False) s₃
      else ∃m,m<n/\I m s₃) (fun _ _=>False) s₂) (fun _ _=>False) s₅) (fun _ _=>False) s₁) (fun _ _=>False) s)
  (n:Nat) (h:I n s) :
  codeAny (model prog w) A (.compLoop (.ListComp elt [⟨target,iter,ifs,0⟩] scope pos) 0 it acc env) R s:=by
 refine codeAny_loop rfl I (fun n s hI=>?_) n h;show wpAny _ _ ((compTurn (.ListComp elt [⟨target,iter,ifs,0⟩] scope pos) 0 it acc env).onRaise (fun x=>do noteFrame x env;theTreesLotGoes x)) _ _ s;refine wpAny_noted ?_;rw [compTurn_list];refine wpAny_bind (wpAny_standAt (wpAny_bind (wpAny_mono (turn n s hI) (fun r s₁ h₁=>?_) fun _ _ h'=>h'.elim)))
 cases r with
 |none=>exact wpAny_pure h₁
 |some v=>
  refine wpAny_bind (wpAny_mono h₁ (fun _ s₅ h₅=>?_) fun _ _ h'=>h'.elim);refine wpAny_bind (wpAny_mono h₅ (fun _ s₂ h₂=>wpAny_bind (wpAny_mono h₂ (fun ok s₃ h₃=>?_) fun _ _ h'=>h'.elim)) fun _ _ h'=>h'.elim)
  cases ok with
  |true=>
   rw [if_pos rfl] at h₃;exact wpAny_bind (wpAny_bind (wpAny_mono h₃ (fun x s₃ h₃=>wpAny_bind (wpAny_mono h₃ (fun _ s₄ h₄=>wpAny_pure (wpAny_pure ⟨rfl,h₄⟩)) fun _ _ h'=>h'.elim)) fun _ _ h'=>h'.elim))
  |false=>rw [if_neg zq7] at h₃;exact wpAny_bind (wpAny_pure (wpAny_pure ⟨rfl,h₃⟩))
end
theorem kG{X:Cx}{elt iter tgt:Expr}{ifs:List Expr}{pos:Pos}{scope:Scope}{g:Bk->TG}{tt:Bk->TT}{te:Bk->TE}{tns cns:List Str}{ci:List Nat}{RR:Value->Addr->Result->Shared->Prop}{E:Value->Shared->Prop}
  {pins:List (Addr×Obj)} {σ:St} {H2:Hp} {s2:Shared} {it:Addr} {fp:List Addr} {tn:Nat->Heap->Prop} {J:It} {Q:Addr->Hp->Prop}
  (hc:X.calm=true) (S:CompSc X scope cns ci)
  (hg:∀bk:Bk,PG (X.blk (".0"::(tns++cns)) scope bk) tgt (g bk))
  (ht:∀bk:Bk,tH (X.blk (".0"::(tns++cns)) scope bk) ifs (tt bk))
  (he:∀bk:Bk,PE (X.blk (".0"::(tns++cns)) scope bk) elt (te bk))
  (I2:Inv X pins σ H2 s2) (T:kc X.prog X.w X.K tgt J fp it tn) (st2:tn 0 s2.heap) (f2:∀b∈fp,iU X pins H2 b)
  (hcw:∀acc,H2 acc=none->∀bk:Bk,bX J (g bk) (tt bk) (te bk) tns.length ci σ acc (Q acc) (upd H2 acc (.lst [])))
  (fin:∀D C s5 H4 m,Inv X pins σ H4 s5->s5.heap.Ns C m->iU X pins H4 C->Q D H4->RR (.ref D) C (.ok .next) s5) :
  wpAny (model X.prog X.w) X.A (newList []) (fun acc s₃=>wpAny (model X.prog X.w) X.A (newFunctionEnv scope X.env.globals (cS X.env.cells scope.names []) [] X.env.qual none .none (some X.env)) (fun cenv s₄=>codeAny (model X.prog X.w) X.A (.compStart (.ListComp elt [⟨tgt,iter,ifs,0⟩] scope pos) 0 (.ref it) acc {cenv with scope:=relabel scope X.env}) (RR acc cenv.locals) s₄) E s₃) E s2:=by
 have hfc:∀y∈scope.names,y.2=.free->∃c,X.env.cells.lookup y.1=some c:=fun y hy hk=>I2.ok.has _ (S.free y hy hk);have hsub:∀y c,(cS X.env.cells scope.names []).lookup y=some c->X.env.cells.lookup y=some c:=gO hfc (fun y c e=>by simp at e);refine wpAny_newObj_type (wpAny_newFunctionEnv S.cell (by intro y hy;simp at hy) (fun h₁ hns₁ hsb₁=>?_) S.kind);dsimp only at hns₁ hsb₁ ⊢;generalize hH2:s2.heap.push {cls:=.type "list",dict:=none,data:=.seq ([]:List Value).toArray}=G2 at hns₁ hsb₁ ⊢;have hCz:G2.objs.size=s2.heap.objs.size+1:=by rw [<- hH2,jZ]
 have hDC:s2.heap.objs.size≠G2.objs.size:=by rw [hCz];exact cm (yR _)
 have below:∀b,b<s2.heap.objs.size->b≠G2.objs.size:=fun b hb=>by omega
 have old:∀b o,s2.heap.get? b=some o->h₁.get? b=some o:=fun b o e=>hsb₁.extBut b o (below b (zq9 e)) (c9 _ (hH2 ▸ c9 _ e));have hacc:h₁.get? s2.heap.objs.size=some {cls:=.type "list",dict:=none,data:=.seq ([]:List Value).toArray}:=hsb₁.extBut _ _ hDC (c9 _ (hH2 ▸ d8 _ rfl));have hnD:H2 s2.heap.objs.size=none:=I2.hok.fresh (zq0 _);have hnC:H2 G2.objs.size=none:=I2.hok.fresh (by omega);obtain ⟨W,⟨m0,w0⟩,turn⟩:=hcw s2.heap.objs.size hnD ⟨G2.objs.size,fp,s2,H2⟩;have nlt:∀{b:Addr} {o:Obj},s2.heap.get? b=some o->b≠s2.heap.objs.size:=fun q=>cm (zq9 q);have fpl:∀b∈fp,b<s2.heap.objs.size:=fun b hb=>by obtain ⟨o,e,_⟩:=T.obj _ _ st2 b hb;exact zq9 e
 have clt:∀y c,(cS X.env.cells scope.names []).lookup y=some c->c<s2.heap.objs.size:=fun y c e=>by obtain ⟨v,q⟩:=I2.cell y c (hsub y c e);exact q.lt
 have hasC:∀y,((relabel scope X.env).names.lookup y=some .cell\/(relabel scope X.env).names.lookup y=some .free)->∃c,(cS X.env.cells scope.names []).lookup y=some c:=fun y hk=>by
  rcases hk with z | z
  ·exact dE (dw z (.inl rfl) S.cell)
  ·exact dE (dw z (.inr rfl) S.cell)
 have ok:(X.blk (".0"::(tns++cns)) scope ⟨G2.objs.size,fp,s2,H2⟩).Ok:={
  mod:=I2.ok.mod
  kind:=S.kind
  glob:=I2.ok.glob
  blt:=I2.ok.blt
  above:=by show s2.heap.objs.size<=G2.objs.size;omega
  inj:=fun y z c e1 e2=>I2.ok.inj y z c (hsub y c e1) (hsub z c e2)
  has:=fun y hk=>hasC y hk
  cab:=fun y c e=>by
   have e':(false=true):=e
   cases e'
  hd:=I2.ok.hd
  frames:=I2.ok.frames
  stk:=.inl rfl
  exf:=fun b hb=>⟨below b (fpl b hb),fun y c e=>(f2 b hb).2.2.2.2.1 y c (hsub y c e)⟩
  bs:=I2.bs
  bsz:=cL I2.ok.bsz I2.sz
  noex:=fun b o e hb=>by
   rcases (f2 b hb).2.2.2.1 with z | z
   ·exact I2.ok.noex b o e z
   ·exact absurd (dA (zq9 e) (cL I2.ok.bsz z)) (mF _)
  exfs:=fun b hb hf=>by
   rcases zq6.mp (I2.stkSub b hf) with z | z
   ·exact (f2 b hb).2.1 z
   ·exact (f2 b hb).2.2.1 z
  funs:=I2.stack
  frf:=I2.stkFree}
 have hokD:HOk X.prog X.w (upd H2 s2.heap.objs.size (.lst [])) h₁:=I2.hok.laid old (zq0 _) ⟨cc _,[],0,.nil,hacc⟩;have clD:∀y c,(cS X.env.cells scope.names []).lookup y=some c->c≠s2.heap.objs.size:=fun y c e=>cm (clt y c e);have I3:Inv (X.blk (".0"::(tns++cns)) scope ⟨G2.objs.size,fp,s2,H2⟩) [] (aG (List.replicate tns.length none) ci σ) (upd H2 s2.heap.objs.size (.lst [])) {s2 with heap:=h₁,toks:=s2.toks+([]:List (Str×Value)).length}:={
  ok:=ok
  os:=rfl
  bare:=I2.bare
  base:=⟨fun b o e n _ _=>old b o e,fun b o e n _ _=>⟨o.slots,old b o e⟩,fun b o e n _=>by rw [av (nlt e)];exact n,fun b o e _=>⟨o,old b o e⟩,
   fun b ys e=>by rw [av (ao e hnD)];exact e,fun b o u e=>by rw [av (ao e hnD)];exact e,fun b ps e=>⟨#[],by rw [av (ao e hnD),Array.append_empty];exact e⟩⟩
  loc:=⟨_,hns₁,fun i y v e1 e2 e3=>by
   have e1':((".0":Str)::(tns++cns))[i]?=some y:=e1;unfold aG at e2
   cases i with
   |zero=>simp at e2
   |succ i=>
    rw [yv] at e1' e2
    by_cases hi:i<tns.length
    ·rw [j3 (by simpa using hi),yp,if_pos hi] at e2
     cases e2
    ·rw [iJ (by omega)] at e1';rw [iJ (by simp;omega),yq] at e2;obtain ⟨q,hq,hN,hm⟩:=S.cap _ _ e1';rw [bM,hq] at e2;have e2':(σ[q]?).join=some v:=by simpa using e2
     have e4:σ[q]?=some (some v):=by
      cases z:σ[q]? with
      |none=>rw [z] at e2';cases e2'
      |some o=>rw [z] at e2';rw [show o=some v from e2']
     obtain ⟨m,hns,hl⟩:=I2.loc;have hvis:Vis X.env.scope y:=by
      rcases S.free (y,.free) hm rfl with z | z
      ·exact .inr (.inl z)
      ·exact .inr (.inr z)
     obtain ⟨u,ru,lk⟩:=hl q y v hN e4 hvis;refine ⟨u,ru,.inr ?_⟩;have hkk:X.env.kindOf y=some .cell\/X.env.kindOf y=some .free:=S.free (y,.free) hm rfl;rcases lk with ⟨k1,_⟩ | ⟨_,c,hc1,hc2⟩
     ·rcases hkk with z | z<;>(rw [k1] at z;cases z)
     ·obtain ⟨c',hc'⟩:=dE (cells:=X.env.cells) (acc:=[]) hm;have ecc:c'=c:=by have:=hsub y c' hc';rw [hc1] at this;cases this;rfl
      subst ecc;have e3':Vis (relabel scope X.env) y:=e3;refine ⟨?_,c',hc',?_⟩
      ·rcases e3' with z | z | z
       ·exfalso;exact S.noloc y hm z
       ·exact .inl z
       ·exact .inr z
      ·exact hc2.keeps old⟩
  cell:=fun y c e=>by obtain ⟨v,q⟩:=I2.cell y c (hsub y c e);exact ⟨v,q.keeps old⟩
  free:=by show upd H2 s2.heap.objs.size (.lst []) G2.objs.size=none;rw [av (Ne.symm hDC)];exact hnC
  freeC:=fun y c e=>by rw [av (clD y c e)];exact I2.freeC y c (hsub y c e)
  pin:=fun p hp=>by have hp':p∈([]:List (Addr×Obj))++[]:=hp;simp at hp'
  hok:=hokD
  len:=by show (aG _ ci σ).length=((".0":Str)::(tns++cns)).length;unfold aG;simp [S.len]}
 have st3:tn 0 h₁:=T.keep _ _ _ st2 fun b _ o e=>old b o e;have fr3:∀b∈fp,upd H2 s2.heap.objs.size (.lst []) b=none:=fun b hb=>by rw [av (cm (fpl b hb))];exact (f2 b hb).1
 have stat:∀{H':Hp},(∀b∈fp,H' b=none)->∀b∈fp,iU (X.blk (".0"::(tns++cns)) scope ⟨G2.objs.size,fp,s2,H2⟩) [] H' b:=fun hn b hb=>⟨hn b hb,below b (fpl b hb),ok.exfs b hb,.inl hb,fun y c e=>(f2 b hb).2.2.2.2.1 y c (hsub y c e),fun p hp=>by have hp':p∈([]:List (Addr×Obj))++[]:=hp;simp at hp'⟩
 have loop:∀s₃:Shared,s₃={s2 with heap:=h₁,toks:=s2.toks+([]:List (Str×Value)).length}->
   codeAny (model X.prog X.w) X.A (.compLoop (.ListComp elt [⟨tgt,iter,ifs,0⟩] scope pos) 0 (.ref it) (.ref s2.heap.objs.size) (compEnvC scope (cS X.env.cells scope.names []) G2.objs.size X.env))
    (RR (.ref s2.heap.objs.size) G2.objs.size) s₃:=by
  rintro s₃ rfl;refine gP (fun n s'=>∃(i:Nat)(os:List (Option V)) (ys:List V) (H':Hp),os.length=tns.length/\Inv (X.blk (".0"::(tns++cns)) scope ⟨G2.objs.size,fp,s2,H2⟩) [] (aG os ci σ) H' s'/\tn i s'.heap/\(∀b∈fp,H' b=none)/\W i n ys H') ?_ m0 ⟨0,_,[],_,by simp,I3,st3,fr3,w0⟩;rintro n s4 ⟨i,os,ys,H4,hos,I4,st4,fr4,w4⟩;rcases turn i n ys H4 w4 with ⟨stop,q⟩ | ⟨go,N,hN,step⟩
  ·refine thn (T.done (X.blk (".0"::(tns++cns)) scope ⟨G2.objs.size,fp,s2,H2⟩) rfl rfl rfl hc i [] s4 _ H4 (fun _ _=>False) I4 (stat fr4) st4 stop) fun r s5 ⟨hr,I5⟩=>?_;subst hr;obtain ⟨m,hm,_⟩:=I5.loc;have fC:H4 G2.objs.size=none:=I5.free;have ub:Un (frs X.stack) fp H2 H4 s2.heap s5.heap:=I5.base;have IX:Inv X pins σ H4 s5:=I2.call' (s':=s5) (show s5.os=s2.os from I5.os) ub I5.hok I5.bare fun b hb=>⟨(f2 b hb).2.2.2.1,(f2 b hb).2.1,(f2 b hb).2.2.2.2.1,(f2 b hb).2.2.2.2.2⟩
   exact fin _ _ s5 H4 m IX hm (I2.fpOk (by omega) fC) q
  ·refine thn (T.item (X.blk (".0"::(tns++cns)) scope ⟨G2.objs.size,fp,s2,H2⟩) rfl rfl rfl hc i [] s4 _ H4 (fun _ _=>False) I4 (stat fr4) st4 go) fun r s5 ⟨u,hr,h5⟩=>?_;subst hr;refine thn h5 fun _ s6 hhx=>?_;obtain ⟨y,H6,I6,r6,y6,st6,fr6⟩:=hhx;have I6':=I6.pinned (stat fr6) (T.obj _ _ st6);refine thn (hg _ _ s6 _ H6 y u _ I6' r6 (step y H6 os hos y6)) fun _ s7 ⟨σ7,H7,I7,⟨os',hos',e7⟩,q7⟩=>?_;subst e7;have back:∀{H9:Hp} {s9:Shared},Inv (X.blk (".0"::(tns++cns)) scope ⟨G2.objs.size,fp,s2,H2⟩) ([]++gF fp s6.heap) (aG os' ci σ) H9 s9->tn (i+1) s9.heap/\∀b∈fp,H9 b=none:=fun {H9 s9} I9=>⟨T.keep _ _ _ st6 fun b hb ob e=>(I9.pin (b,ob) (dY _ (dY _ (cK hb e)))).1,fun b hb=>by obtain ⟨ob,e,d⟩:=T.obj _ _ st6 b hb;exact (I9.pin (b,ob) (dY _ (dY _ (cK hb e)))).2.1⟩
   refine thn (ht _ _ s7 _ H7 _ I7 q7) fun b s8 hhx=>?_;obtain ⟨H8,I8,q8⟩:=hhx
   cases b with
   |false=>
    rw [if_neg zq7] at q8 ⊢;obtain ⟨m',hm',w8⟩:=hN _ _ q8;exact ⟨m',hm',i+1,os',ys,_,hos',I8.unpinned,(back I8).1,(back I8).2,w8⟩
   |true=>rw [if_pos rfl] at q8 ⊢;refine thn (he _ _ s8 _ H8 _ I8 q8) fun zv s8 hhx=>?_;obtain ⟨z,H8,I8,rz,ha8,hl8,n8⟩:=hhx;obtain ⟨m',hm',w8⟩:=hN _ _ n8;refine thn (bj (X:=X.blk (".0"::(tns++cns)) scope ⟨G2.objs.size,fp,s2,H2⟩) _ s8 _ H8 (.ref s2.heap.objs.size) [z] (.ref s2.heap.objs.size) [zv] (fun _ H9=>H9=upd H8 s2.heap.objs.size (.lst (ys++[z]))) I8 rfl (.cons rz .nil) ⟨_,ys,z,rfl,rfl,ha8,hl8,rfl⟩) fun _ s9 hhx=>?_;obtain ⟨_,H9,I9,_,e9⟩:=hhx;subst e9;exact ⟨m',hm',i+1,os',ys++[z],_,hos',I9.unpinned,(back I9).1,(back I9).2,w8⟩
 exact codeAny_compStart_list (loop _ rfl) (T.self _ 0 _ _ _ st3 (loop _ rfl))
theorem wM{X:Cx}{elt iter tgt:Expr}{ifs:List Expr}{pos:Pos}{scope:Scope}{wi:TI}{g:Bk->TG}{tt:Bk->TT}{te:Bk->TE}{tns cns:List Str}{ci:List Nat}(hc:X.calm=true)(S:CompSc X scope cns ci)(hi:PI X tgt iter wi)
  (hg:∀bk:Bk,PG (X.blk (".0"::(tns++cns)) scope bk) tgt (g bk))
  (ht:∀bk:Bk,tH (X.blk (".0"::(tns++cns)) scope bk) ifs (tt bk))
  (he:∀bk:Bk,PE (X.blk (".0"::(tns++cns)) scope bk) elt (te bk))
  (hs:∀v,foldedSetIterable iter X.env v=pure v:=by intro _;rfl) :
  PE X (.ListComp elt [⟨tgt,iter,ifs,0⟩] scope pos) (jU wi g tt te tns.length ci):=by
 intro pins s σ H Q I h;have hfc:∀y∈scope.names,y.2=.free->∃c,X.env.cells.lookup y.1=some c:=fun y hy hk=>I.ok.has _ (S.free y hy hk);rw [eval_ListComp];refine wpAny_comprehension_free (use:=none) rfl hs (dS hfc) S.kind S.names (thn (hi pins s σ H _ I h) fun v s1 h1=>thn h1 fun itv s2 h2=>?_);obtain ⟨it,fp,tn,J,H2,rfl,I2,T,st2,f2,hcw⟩:=h2;refine kG (RR:=fun acc C=>compPost (model X.prog X.w) X.A X.xe none (EP X pins σ Q) acc C) hc S hg ht he I2 T st2 f2 hcw fun D C s5 H4 m I5 hm fo q=>?_;refine ⟨m,hm,fun h' hs'=>⟨.ref D,H4,?_,rfl,q⟩⟩;exact I5.turned (t':=s5.toks) (it:=C) (fun b o hb e=>(hs'.2 b hb).trans e) fo.1 fo.2.1 fo.2.2.2.1 fo.2.2.2.2.1 fo.2.2.2.2.2
noncomputable def jO(i:Nat)(wi:TI)(g:Bk->TG)(tt:Bk->TT)(te:Bk->TE)(nt:Nat)(ci:List Nat):TS:=fun D σ H=>wi σ H fun J H1=>∀acc,H1 acc=none->∀bk:Bk,bX J (g bk) (tt bk) (te bk) nt ci σ acc (fun H'=>D.nx (σ.set i (some (.ref acc))) H') (upd H1 acc (.lst []))
theorem qr{X:Cx}{i:Nat}{x:Str}{px pos':Pos}{elt iter tgt:Expr}{ifs:List Expr}{pos:Pos}{scope:Scope}{wi:TI}{g:Bk->TG}{tt:Bk->TT}{te:Bk->TE}{tns cns:List Str}{ci:List Nat}
  (hN:X.N.Nodup) (hx:X.N[i]?=some x) (hl:Loc X.env.scope x) (hf:X.fn x=true) (hsw:swapsWith (.ListComp elt [⟨tgt,iter,ifs,0⟩] scope pos) (some (.Name x px)) pos'.line X.env=pure true)
  (hc:X.calm=true) (S:CompSc X scope cns ci) (hi:PI X tgt iter wi)
  (hg:∀bk:Bk,PG (X.blk (".0"::(tns++cns)) scope bk) tgt (g bk))
  (ht:∀bk:Bk,tH (X.blk (".0"::(tns++cns)) scope bk) ifs (tt bk))
  (he:∀bk:Bk,PE (X.blk (".0"::(tns++cns)) scope bk) elt (te bk))
  (hs:∀v,foldedSetIterable iter X.env v=pure v:=by intro _;rfl) :
  PS X (.Assign [.Name x px] (.ListComp elt [⟨tgt,iter,ifs,0⟩] scope pos) pos') (jO i wi g tt te tns.length ci):=by
 intro pins s σ H D I h;have hfc:∀y∈scope.names,y.2=.free->∃c,X.env.cells.lookup y.1=some c:=fun y hy hk=>I.ok.has _ (S.free y hy hk);rw [exec_Assign_Name_used _ _ _ _ hsw];refine wpAny_bind (wpAny_standAt (wpAny_bind ?_));show wpAny _ _ (do let _ <- comprehension (.ListComp elt [⟨tgt,iter,ifs,0⟩] scope pos) scope X.env _ (newList []) false (eval iter X.env) (some (assign (.Name x px) X.env))) _ _ s;refine wpAny_bind (wpAny_mono (wpAny_comprehension_free (use:=some (assign (.Name x px) X.env)) (Q:=fun _ s'=>SP X pins D .next s') rfl hs (dS hfc) S.kind S.names
  (thn (hi pins s σ H _ I h) fun v s1 h1=>thn h1 fun itv s2 h2=>?_)) (fun _ s' hq=>wpAny_pure (wpAny_pure hq)) fun _ _ e=>e)
 obtain ⟨it,fp,tn,J,H2,rfl,I2,T,st2,f2,hcw⟩:=h2;refine kG (RR:=fun acc C=>compPost (model X.prog X.w) X.A X.xe (some (assign (.Name x px) X.env)) (fun _ s'=>SP X pins D .next s') acc C) hc S hg ht he I2 T st2 f2 hcw fun D' C s5 H4 m I5 hm fo q=>?_;obtain ⟨o,es,ep,ho,hd,hr⟩:=id hm;have IP:Inv X (pins++gF [C] s5.heap) σ H4 s5:=I5.pinned (fp:=[C]) (fun b hb=>by rw [zq2.mp hb];exact fo) fun b hb=>by rw [zq2.mp hb];exact ⟨o,ho,fun v z=>by rw [hd] at z;cases z⟩
 show wpAny _ _ (assign (.Name x px) X.env (.ref D')) _ _ s5;refine thn (sg (X:=X) (i:=i) hN hx hl (.inl hf) _ s5 σ H4 (.ref D') (.ref D') (fun σ' H'=>σ'=σ.set i (some (.ref D'))/\H'=H4) IP rfl ⟨rfl,rfl⟩) fun _ s6 hhx=>?_;obtain ⟨σ6,H6,I6,e1,e2⟩:=hhx;subst e1 e2;have hC6:s6.heap.get? C=some o:=(I6.pin (C,o) (dY _ (dY _ (cK (zq2.mpr rfl) ho)))).1;refine ⟨m,⟨o,es,ep,hC6,hd,hr⟩,fun h' hs'=>⟨_,_,?_,q⟩⟩;exact I6.unpinned.turned (t':=s6.toks) (it:=C) (fun b o hb e=>(hs'.2 b hb).trans e) fo.1 fo.2.1 fo.2.2.2.1 fo.2.2.2.2.1 fo.2.2.2.2.2
noncomputable def uG(scope osc:Scope):List (Str×NameKind):=scope.names.map fun (n,k)=>if (k==NameKind.free&&osc.kind==.function&&osc.names.lookup n==some .cell) then (n,NameKind.cell) else (n,k)
noncomputable def jl(N:List Str)(names:List (Str×NameKind)):List Str->List Nat->Bool
 | [],[]=>true
 |x::xs,i::is=>N[i]?==some x&&names.any (fun y=>y.1==x&&y.2==.free)&&jl N names xs is
 |_,_=>false
noncomputable def Dt(osc:Scope)(N:List Str)(scope:Scope)(cns:List Str)(ci:List Nat):Bool:=
 scope.kind==.function&&scope.names.all (fun y=>y.2 != .cell)&&scope.names.all (fun y=>y.2 != .local || scope.names.lookup y.1==some .local) &&
 scope.names.all (fun y=>y.2 != .free || (osc.names.lookup y.1==some .cell || osc.names.lookup y.1==some .free))&&jl N scope.names cns ci &&
 scope.names.all (fun y=>y.2 != .free || (uG scope osc).lookup y.1 != some .local)
theorem ik{N:List Str}{names:List (Str×NameKind)}:∀{cns:List Str} {ci:List Nat},jl N names cns ci=true->cns.length=ci.length/\∀(j:Nat)x,cns[j]?=some x->∃i,ci[j]?=some i/\N[i]?=some x/\(x,NameKind.free)∈names
 | [],[],_=>⟨rfl,fun j x e=>by simp at e⟩
 | [],_::_,h=>by simp [jl] at h
 |_::_,[],h=>by simp [jl] at h
 |x::xs,i::is,h=>by
  unfold jl at h;rw [dc,dc] at h;obtain ⟨⟨h1,h2⟩,h3⟩:=h;obtain ⟨l,r⟩:=ik h3;refine ⟨by simp [l],fun j y e=>?_⟩
  cases j with
  |zero=>
   have e':x=y:=by simpa using e
   subst e';refine ⟨i,by simp,by simpa using h1,?_⟩;obtain ⟨z,hz,hq⟩:=zq78.mp h2;rw [dc] at hq;obtain ⟨a,b⟩:=z;have e1:a=x:=by simpa using hq.1
   have e2:b=.free:=by simpa using hq.2
   subst e1 e2;exact hz
  |succ j=>obtain ⟨k,hk⟩:=r j y (by simpa using e);exact ⟨k,by simpa using hk.1,hk.2⟩
theorem CompSc.of{X:Cx}{scope:Scope}{cns:List Str}{ci:List Nat}(h:Dt X.env.scope X.N scope cns ci=true):CompSc X scope cns ci:=by
 unfold Dt at h;rw [dc,dc,dc,dc,dc] at h;obtain ⟨⟨⟨⟨⟨h1,h2⟩,h3⟩,h4⟩,h5⟩,h6⟩:=h;obtain ⟨l,r⟩:=ik h5;refine ⟨by simpa using h1,fun y hy=>?_,fun y hy hk=>?_,fun y hy hk=>?_,r,l,fun y hy z=>?_⟩
 ·simpa using zq37.mp h2 y hy
 ·have:=zq37.mp h3 y hy;rw [kn] at this;rcases this with q | q
  ·exact absurd hk (by simpa using q)
  ·simpa using q
 ·have:=zq37.mp h4 y hy;rw [kn,kn] at this;rcases this with q | q | q
  ·exact absurd hk (by simpa using q)
  ·exact .inl (show X.env.scope.names.lookup y.1=_ by simpa using q)
  ·exact .inr (show X.env.scope.names.lookup y.1=_ by simpa using q)
 ·have:=zq37.mp h6 _ hy;rw [kn] at this;rcases this with q | q
  ·simp at q
  ·have z':(uG scope X.env.scope).lookup y=some .local:=z;have q':((uG scope X.env.scope).lookup y != some .local)=true:=q;rw [z'] at q';exact absurd q' (by decide)
section
variable {K:W.Frag} {g:TG} {tt:TT} {te:TE} {nt:Nat} {ci:List Nat} {σ:St} {acc:Addr} {Q:Hp->Prop} {H0:Hp}
theorem dh{a:Addr}{xs:List V}(Pv:Nat->List V->Hp->Prop)(h0:Pv 0 [] H0)(hl:∀i ys H,i<=xs.length->Pv i ys H->SqL K H a xs)
  (hs:∀(i:Nat)x ys H os,xs[i]?=some x->os.length=nt->Pv i ys H->g x (aG os ci σ) H fun σ1 H1=>(∃os',os'.length=nt/\σ1=aG os' ci σ)/\tt σ1 H1 fun b H2=>if b=true then te σ1 H2 fun z H3=>H3 acc=some (.lst ys)/\ys.length<sizeLine/\Pv (i+1) (ys++[z]) (upd H3 acc (.lst (ys++[z]))) else Pv (i+1) ys H2)
  (hd:∀ys H,Pv xs.length ys H->Q H):bX (Itl K a) g tt te nt ci σ acc Q H0:=by
 refine ⟨fun i m ys H=>m=xs.length-i/\i<=xs.length/\Pv i ys H,⟨xs.length,by simp,cc _,h0⟩,?_⟩;rintro i m ys H ⟨rfl,hi,p⟩;have q:=hl i ys H hi p
 by_cases hlt:i<xs.length
 ·refine .inr ⟨⟨xs,xs[i],q,by simp [hlt]⟩,Pv (i+1),fun ys' H' p'=>⟨xs.length-(i+1),by omega,rfl,hlt,p'⟩,fun y H' os ho yl=>?_⟩;obtain ⟨rfl,yl⟩:=yl;exact hs i y ys H' os (yl xs q) ho p
 ·have e:i=xs.length:=by omega
  subst e;exact .inl ⟨⟨xs,q,zq0 _⟩,hd ys H p⟩
theorem Br{a:Addr}{xs:List V}(Pv:Nat->List V->Hp->Prop)(h0:Pv 0 [] H0)(hl:∀i ys H,i<=xs.length->Pv i ys H->SqT K H a xs)
  (hs:∀(i:Nat)x ys H os,xs[i]?=some x->os.length=nt->Pv i ys H->g x (aG os ci σ) H fun σ1 H1=>(∃os',os'.length=nt/\σ1=aG os' ci σ)/\tt σ1 H1 fun b H2=>if b=true then te σ1 H2 fun z H3=>H3 acc=some (.lst ys)/\ys.length<sizeLine/\Pv (i+1) (ys++[z]) (upd H3 acc (.lst (ys++[z]))) else Pv (i+1) ys H2)
  (hd:∀ys H,Pv xs.length ys H->Q H):bX (Itt K a) g tt te nt ci σ acc Q H0:=by
 refine ⟨fun i m ys H=>m=xs.length-i/\i<=xs.length/\Pv i ys H,⟨xs.length,by simp,cc _,h0⟩,?_⟩;rintro i m ys H ⟨rfl,hi,p⟩;have q:=hl i ys H hi p
 by_cases hlt:i<xs.length
 ·refine .inr ⟨⟨xs,xs[i],q,by simp [hlt]⟩,Pv (i+1),fun ys' H' p'=>⟨xs.length-(i+1),by omega,rfl,hlt,p'⟩,fun y H' os ho yl=>?_⟩;obtain ⟨rfl,yl⟩:=yl;exact hs i y ys H' os (yl xs q) ho p
 ·have e:i=xs.length:=by omega
  subst e;exact .inl ⟨⟨xs,q,zq0 _⟩,hd ys H p⟩
theorem jo{lo:Int}{n:Nat}(Pv:Nat->List V->Hp->Prop)(h0:Pv 0 [] H0)
  (hs:∀(i:Nat)ys H os,i<n->os.length=nt->Pv i ys H->g (.int (lo+i)) (aG os ci σ) H fun σ1 H1=>(∃os',os'.length=nt/\σ1=aG os' ci σ)/\tt σ1 H1 fun b H2=>if b=true then te σ1 H2 fun z H3=>H3 acc=some (.lst ys)/\ys.length<sizeLine/\Pv (i+1) (ys++[z]) (upd H3 acc (.lst (ys++[z]))) else Pv (i+1) ys H2)
  (hd:∀ys H,Pv n ys H->Q H):bX (Itr lo n) g tt te nt ci σ acc Q H0:=by
 refine ⟨fun i m ys H=>m=n-i/\i<=n/\Pv i ys H,⟨n,by simp,cc _,h0⟩,?_⟩;rintro i m ys H ⟨rfl,hi,p⟩
 by_cases hlt:i<n
 ·refine .inr ⟨hlt,Pv (i+1),fun ys' H' p'=>⟨n-(i+1),by omega,rfl,hlt,p'⟩,fun y H' os ho yl=>?_⟩;obtain ⟨rfl,rfl⟩:=yl;exact hs i ys H' os hlt ho p
 ·have e:i=n:=by omega
  subst e;exact .inl ⟨zq0 _,hd ys H p⟩
end
end L2
namespace L2
noncomputable def isiT:List String:=["int","bool","str","list","tuple","dict"]
inductive gJ (K:W.Frag) (H:Hp):V->String->Prop where
 |non:gJ K H .non "NoneType"
 |bl {b:Bool}:gJ K H (.bl b) "bool"
 |int {i:Int}:gJ K H (.int i) "int"
 |str {x:Str}:gJ K H (.str x) "str"
 |lst {a:Addr} {xs:List V} (h:SqL K H a xs):gJ K H (.ref a) "list"
 |tup {a:Addr} {xs:List V} (h:SqT K H a xs):gJ K H (.ref a) "tuple"
 |dic {a:Addr} (h:IsD H a):gJ K H (.ref a) "dict"
noncomputable def lZ(k T:String):Bool:=k==T || (k=="bool"&&T=="int")
noncomputable def x6(K:W.Frag):List V->Hp->VK->Prop:=fun xs H Q=>∃x T k,xs=[x,.ty T]/\isiT.contains T=true/\gJ K H x k/\Q (.bl (lZ k T)) H
section
variable {X:Cx}
theorem bN:dM X (.builtin "isinstance") (x6 X.K):=by
 intro pins s σ H xs us Q I r h;obtain ⟨x,T,k,rfl,hT,hk,q⟩:=h;obtain ⟨u,v,rfl,ru,rv⟩:=yf r
 cases rv
 have hT':T="int"\/T="bool"\/T="str"\/T="list"\/T="tuple"\/T="dict":=by simpa [isiT] using hT
 have fin:∀{b:Bool},b=lZ k T->EP X pins σ Q (.bool b) s:=fun e=>⟨.bl _,H,I,rfl,by rw [e];exact q⟩
 have finT:∀{b:Bool},b=lZ k T->EP X pins σ Q (.bool b) {s with toks:=s.toks+1}:=fun e=>⟨.bl _,H,I.tok _,rfl,by rw [e];exact q⟩
 cases hk with
 |non=>
  cases ru
  rcases hT' with rfl | rfl | rfl | rfl | rfl | rfl
  ·exact IsiPair.NoneType_int (finT (by decide +kernel))
  ·exact IsiPair.NoneType_bool (finT (by decide +kernel))
  ·exact IsiPair.NoneType_str (finT (by decide +kernel))
  ·exact IsiPair.NoneType_list (finT (by decide +kernel))
  ·exact IsiPair.NoneType_tuple (finT (by decide +kernel))
  ·exact IsiPair.NoneType_dict (finT (by decide +kernel))
 |bl=>
  cases ru
  rcases hT' with rfl | rfl | rfl | rfl | rfl | rfl
  ·exact IsiPair.bool_int (fin (by decide +kernel))
  ·exact IsiPair.bool_bool (fin (by decide +kernel))
  ·exact IsiPair.bool_str (finT (by decide +kernel))
  ·exact IsiPair.bool_list (finT (by decide +kernel))
  ·exact IsiPair.bool_tuple (finT (by decide +kernel))
  ·exact IsiPair.bool_dict (finT (by decide +kernel))
 |int=>
  obtain ⟨t,rfl⟩:=ru;rcases hT' with rfl | rfl | rfl | rfl | rfl | rfl
  ·exact IsiPair.int_int (fin (by decide +kernel))
  ·exact IsiPair.int_bool (finT (by decide +kernel))
  ·exact IsiPair.int_str (finT (by decide +kernel))
  ·exact IsiPair.int_list (finT (by decide +kernel))
  ·exact IsiPair.int_tuple (finT (by decide +kernel))
  ·exact IsiPair.int_dict (finT (by decide +kernel))
 |str=>
  obtain ⟨t,rfl⟩:=ru;rcases hT' with rfl | rfl | rfl | rfl | rfl | rfl
  ·exact IsiPair.str_int (finT (by decide +kernel))
  ·exact IsiPair.str_bool (finT (by decide +kernel))
  ·exact IsiPair.str_str (fin (by decide +kernel))
  ·exact IsiPair.str_list (finT (by decide +kernel))
  ·exact IsiPair.str_tuple (finT (by decide +kernel))
  ·exact IsiPair.str_dict (finT (by decide +kernel))
 |lst hl=>
  cases ru
  obtain ⟨its,_,⟨o,n,e,c,_⟩,_⟩:=I.list hl;rcases hT' with rfl | rfl | rfl | rfl | rfl | rfl
  ·exact IsiPair.list_int e c (finT (by decide +kernel))
  ·exact IsiPair.list_bool e c (finT (by decide +kernel))
  ·exact IsiPair.list_str e c (finT (by decide +kernel))
  ·exact IsiPair.list_list e c (fin (by decide +kernel))
  ·exact IsiPair.list_tuple e c (finT (by decide +kernel))
  ·exact IsiPair.list_dict e c (finT (by decide +kernel))
 |tup hl=>
  cases ru
  obtain ⟨its,_,⟨o,e,c,_⟩,_⟩:=I.tuple hl;rcases hT' with rfl | rfl | rfl | rfl | rfl | rfl
  ·exact IsiPair.tuple_int e c (finT (by decide +kernel))
  ·exact IsiPair.tuple_bool e c (finT (by decide +kernel))
  ·exact IsiPair.tuple_str e c (finT (by decide +kernel))
  ·exact IsiPair.tuple_list e c (finT (by decide +kernel))
  ·exact IsiPair.tuple_tuple e c (fin (by decide +kernel))
  ·exact IsiPair.tuple_dict e c (finT (by decide +kernel))
 |dic hl=>
  cases ru
  obtain ⟨o,e,c⟩:=(vM I hl).1;rcases hT' with rfl | rfl | rfl | rfl | rfl | rfl
  ·exact IsiPair.dict_int e c (finT (by decide +kernel))
  ·exact IsiPair.dict_bool e c (finT (by decide +kernel))
  ·exact IsiPair.dict_str e c (finT (by decide +kernel))
  ·exact IsiPair.dict_list e c (finT (by decide +kernel))
  ·exact IsiPair.dict_tuple e c (finT (by decide +kernel))
  ·exact IsiPair.dict_dict e c (fin (by decide +kernel))
end
section
variable {H:Hp} {Q:VK} {σ:St} {D:d4} {K:W.Frag}
theorem zV{wi:TI}{g:Bk->TG}{tt:Bk->TT}{te:Bk->TE}{nt:Nat}{ci:List Nat}:jU wi g tt te nt ci σ H Q=wi σ H fun J H1=>∀acc,H1 acc=none->∀bk:Bk,bX J (g bk) (tt bk) (te bk) nt ci σ acc (fun H'=>Q (.ref acc) H') (upd H1 acc (.lst [])):=rfl
theorem uD{i:Nat}{wi:TI}{g:Bk->TG}{tt:Bk->TT}{te:Bk->TE}{nt:Nat}{ci:List Nat}:jO i wi g tt te nt ci D σ H=wi σ H fun J H1=>∀acc,H1 acc=none->∀bk:Bk,bX J (g bk) (tt bk) (te bk) nt ci σ acc (fun H'=>D.nx (σ.set i (some (.ref acc))) H') (upd H1 acc (.lst [])):=rfl
theorem Er{Q:Bool->Hp->Prop}:j2 σ H Q=Q true H:=rfl
end
end L2
namespace L2
variable {p:Addr} {x:V}
section
variable {H:Hp} {Q:VK} {σ:St} {D:d4} {K:W.Frag}
theorem Eo{a:Addr}{lo hi:Option Int}:DU K (.ref a) lo hi H Q=∃xs,SqT K H a xs/\¬(HT.sIx xs.length 0 lo=0/\HT.sIx xs.length xs.length hi=xs.length)/\∀p,H p=none->Q (.ref p) (upd H p (.tup (dU xs lo hi))):=propext ⟨by rintro ⟨_,xs,e1,h⟩;cases e1;exact ⟨xs,h⟩,by rintro ⟨xs,h⟩;exact ⟨_,xs,rfl,h⟩⟩
theorem E9:rIn K false x (.ref p) H Q=∃xs,(SqL K H p xs\/SqT K H p xs)/\bz x=true/\xs.all bz=true/\Q (.bl (inV x xs)) H:=propext ⟨by rintro ⟨_,xs,e1,h⟩;cases e1;exact ⟨xs,h⟩,by rintro ⟨xs,h⟩;exact ⟨_,xs,rfl,h⟩⟩
theorem xo:rIn K true x (.ref p) H Q=∃xs,(SqL K H p xs\/SqT K H p xs)/\bz x=true/\xs.all bz=true/\Q (.bl (!inV x xs)) H:=propext ⟨by rintro ⟨_,xs,e1,h⟩;cases e1;exact ⟨xs,h⟩,by rintro ⟨xs,h⟩;exact ⟨_,xs,rfl,h⟩⟩
end
theorem Paired.get{α β:Type}{F:α->β->Prop}:∀{l₁:List α} {l₂:List β} {i:Nat} {a:α},Paired F l₁ l₂->l₁[i]?=some a->∃b,l₂[i]?=some b/\F a b
 |_,_,_,_,.nil,e=>by simp at e
 |_,_,0,_,.cons h _,e=>by simp at e;subst e;exact ⟨_,rfl,h⟩
 |_,_,i+1,a,.cons _ t,e=>by obtain ⟨b,h1,h2⟩:=Paired.get (i:=i) (a:=a) t (by simpa using e);exact ⟨b,by simpa using h1,h2⟩
theorem Paired.getR{α β:Type}{F:α->β->Prop}:∀{l₁:List α} {l₂:List β} {i:Nat} {b:β},Paired F l₁ l₂->l₂[i]?=some b->∃a,l₁[i]?=some a/\F a b
 |_,_,_,_,.nil,e=>by simp at e
 |_,_,0,_,.cons h _,e=>by simp at e;subst e;exact ⟨_,rfl,h⟩
 |_,_,i+1,b,.cons _ t,e=>by obtain ⟨a,h1,h2⟩:=Paired.getR (i:=i) (b:=b) t (by simpa using e);exact ⟨a,by simpa using h1,h2⟩
theorem Same.updM{H0 H:Hp}{o:HO}(s:Same H0 H)(h:H0 p=none):Same H0 (L2.upd H p o):=fun b u e=>by rw [av (ao e h)];exact s b u e
theorem Same.updN{H0 H:Hp}{o:HO}(s:Same H0 H)(h:H p=none):Same H0 (L2.upd H p o):=s.updM (s.free h)
theorem gW{b:Bool}{A B:Prop}(h1:b=true->A)(h2:b=false->B):if b=true then A else B:=by
 cases b
 ·rw [if_neg zq7];exact h2 rfl
 ·rw [if_pos rfl];exact h1 rfl
theorem Bu{CX:CXT}{P:Program}{w:World}{K:W.Frag}{mg:Str->Option Value}{base:Heap}{N:List Str}{qual:Str}{scope:Scope}{f:Addr}{cd:Value}{A:Around}{outer:List Env}{s:Shared}{H:Hp}{E:XK}:(pX CX P w K mg base N qual scope f cd A outer s H E).K=K:=rfl
theorem Df{X:Cx}{E:Value->Shared->Prop}:(X.wish E).K=X.K:=rfl
theorem Ds{X:Cx}{N':List Str}{scope:Scope}{b:Bk}:(X.blk N' scope b).K=X.K:=rfl
theorem Cg{o:Option V}{ci:List Nat}{σ:St}:aG [o] ci σ=none::o::ci.map fun i=>(σ[i]?).join:=rfl
theorem Ci{o o':Option V}{ci:List Nat}{σ:St}:aG [o,o'] ci σ=none::o::o'::ci.map fun i=>(σ[i]?).join:=rfl
theorem jA{n k:Nat}{P:Prop}(h:¬HT.sIx n 0 (some (k:Int))=0):¬(HT.sIx n 0 (some (k:Int))=0/\P):=fun z=>h z.1
noncomputable def iu:V->Bool
 | .str _=>true
 |_=>false
theorem fO{n:Str}:∀{ns:List Str},inV (.str n) (ns.map V.str)=decide (n∈ns)
 | []=>by simp [inV]
 |m::ns=>by
  have ih:=fO (n:=n) (ns:=ns);unfold inV at ih ⊢;rw [cM,pN,ih];have e:eqV (.str m) (.str n)=decide (m=n):=by unfold eqV;rfl
  rw [e]
  by_cases h1:m=n
  ·subst h1;simp
  ·have h2:¬n=m:=fun z=>h1 z.symm;simp [h1,h2]
theorem ip:∀{ns:List Str},(ns.map V.str).all bz=true
 | []=>rfl
 |n::ns=>by rw [cM,qR,ip];rfl
section
variable {K:W.Frag} {tt:TT} {te:TE} {ci:List Nat} {σ:St} {acc:Addr} {Q:Hp->Prop} {H1:Hp} {a:Addr} {xs:List V}
theorem tU(p:V->Bool)(f:V->V){x:V}{ys:List V}{H:Hp}{os:List (Option V)}{i:Nat}{Pv:Nat->List V->Hp->Prop}(ho:os.length=1)(hi:xs[i]?=some x)
  (hp:∀Q',Q' (p x) H->tt (aG [some x] ci σ) H Q') (hf:∀Q',p x=true->Q' (f x) H->te (aG [some x] ci σ) H Q') (hacc:H acc=some (.lst ys)) (hlen:ys.length<sizeLine)
  (h1:p x=true->Pv (i+1) (ys++[f x]) (upd H acc (.lst (ys++[f x])))) (h2:p x=false->Pv (i+1) ys H) :
  bG 1 x (aG os ci σ) H fun σ1 H1=>(∃os',os'.length=1/\σ1=aG os' ci σ)/\tt σ1 H1 fun b H2=>if b=true then te σ1 H2 fun z H3=>H3 acc=some (.lst ys)/\ys.length<sizeLine/\Pv (i+1) (ys++[z]) (upd H3 acc (.lst (ys++[z]))) else Pv (i+1) ys H2:=by
 have e:(aG os ci σ).set 1 (some x)=aG [some x] ci σ:=by
  match os,ho with
  | [o],_=>rfl
 show (∃os',os'.length=1/\(aG os ci σ).set 1 (some x)=aG os' ci σ)/\tt ((aG os ci σ).set 1 (some x)) H _;rw [e];refine ⟨⟨[some x],rfl,rfl⟩,hp _ ?_⟩
 cases hb:p x with
 |true=>rw [if_pos rfl];exact hf _ hb ⟨hacc,hlen,h1 hb⟩
 |false=>rw [if_neg zq7];exact h2 hb
theorem cG{p:V->Bool}{f:V->V}{xs:List V}{i:Nat}(hi:xs[i]?=some x):((xs.take (i+1)).filter p).map f=((xs.take i).filter p).map f++(if p x=true then [f x] else []):=by
 obtain ⟨h,e⟩:=zq10.mp hi;rw [dG h,e,yT,cD];congr 1
 cases hb:p x<;>simp [hb]
theorem nS{p:V->Bool}{f:V->V}{xs:List V}{i:Nat}(hi:xs[i]?=some x)(hz:xs.length<=sizeLine):(((xs.take i).filter p).map f).length<sizeLine:=by obtain ⟨h,e⟩:=zq10.mp hi;rw [zq1];have:=AI p (xs.take i);rw [d9] at this;omega
theorem lP{J:It}(p:V->Bool)(f:V->V)(hz:xs.length<=sizeLine)(hacc:H1 acc=none)
 (hJ:∀(Pv:Nat->List V->Hp->Prop),Pv 0 [] (upd H1 acc (.lst []))->(∀i ys H,Pv i ys H->∃ys',H=upd H1 acc (.lst ys'))->
 (∀(i:Nat)x ys H os,xs[i]?=some x->os.length=1->Pv i ys H->bG 1 x (aG os ci σ) H fun σ1 H1=>(∃os',os'.length=1/\σ1=aG os' ci σ)/\tt σ1 H1 fun b H2=>
 if b=true then te σ1 H2 fun z H3=>H3 acc=some (.lst ys)/\ys.length<sizeLine/\Pv (i+1) (ys++[z]) (upd H3 acc (.lst (ys++[z]))) else Pv (i+1) ys H2)->
 (∀ys H,Pv xs.length ys H->Q H)->bX J (bG 1) tt te 1 ci σ acc Q (upd H1 acc (.lst [])))
 (hp:∀x∈xs,∀H Q',Same H1 H->Q' (p x) H->tt (aG [some x] ci σ) H Q') (hf:∀x∈xs,∀H Q',Same H1 H->p x=true->Q' (f x) H->te (aG [some x] ci σ) H Q')
 (q:Q (upd H1 acc (.lst ((xs.filter p).map f)))):bX J (bG 1) tt te 1 ci σ acc Q (upd H1 acc (.lst [])):=by
 refine hJ (fun i ys H=>ys=((xs.take i).filter p).map f/\H=upd H1 acc (.lst ys)) ⟨by simp,rfl⟩ (fun i ys H h=>⟨ys,h.2⟩) ?_ ?_
 ·rintro i x ys H os hi ho ⟨rfl,rfl⟩;have hm:=zq8 hi;refine tU (xs:=xs) (Pv:=fun i ys H=>ys=((xs.take i).filter p).map f/\H=upd H1 acc (.lst ys)) p f ho hi (fun Q' h=>hp x hm _ _ (Same.upd hacc) h) (fun Q' hb h=>hf x hm _ _ (Same.upd hacc) hb h) af (nS hi hz) (fun hb=>?_) (fun hb=>?_)
  ·rw [cG hi,if_pos hb];exact ⟨rfl,by rw [Ar]⟩
  ·rw [cG hi,if_neg (by rw [hb];exact zq7),gH];exact ⟨rfl,rfl⟩
 ·rintro ys H ⟨rfl,rfl⟩;rw [dZ];exact q
theorem vq(p:V->Bool)(f:V->V)(hz:xs.length<=sizeLine)(hl:SqL K H1 a xs)(hacc:H1 acc=none)
  (hp:∀x∈xs,∀H Q',Same H1 H->Q' (p x) H->tt (aG [some x] ci σ) H Q') (hf:∀x∈xs,∀H Q',Same H1 H->p x=true->Q' (f x) H->te (aG [some x] ci σ) H Q')
  (q:Q (upd H1 acc (.lst ((xs.filter p).map f)))):bX (Itl K a) (bG 1) tt te 1 ci σ acc Q (upd H1 acc (.lst [])):=
 lP p f hz hacc (fun Pv h0 hH hs hd=>dh Pv h0 (fun i ys H _ h=>by obtain ⟨ys',rfl⟩:=hH i ys H h;exact (Same.upd hacc).seq hl) hs hd) hp hf q
theorem jm(p:V->Bool)(f:V->V)(hz:xs.length<=sizeLine)(hl:SqT K H1 a xs)(hacc:H1 acc=none)
  (hp:∀x∈xs,∀H Q',Same H1 H->Q' (p x) H->tt (aG [some x] ci σ) H Q') (hf:∀x∈xs,∀H Q',Same H1 H->p x=true->Q' (f x) H->te (aG [some x] ci σ) H Q')
  (q:Q (upd H1 acc (.lst ((xs.filter p).map f)))):bX (Itt K a) (bG 1) tt te 1 ci σ acc Q (upd H1 acc (.lst [])):=
 lP p f hz hacc (fun Pv h0 hH hs hd=>Br Pv h0 (fun i ys H _ h=>by obtain ⟨ys',rfl⟩:=hH i ys H h;exact (Same.upd hacc).seqT hl) hs hd) hp hf q
theorem vt{lo:Int}{n:Nat}(p:Int->Bool)(f:Int->V)(hz:n<=sizeLine)(hacc:H1 acc=none)
 (hp:∀i:Nat,i<n->∀H Q',Same H1 H->Q' (p (lo+i)) H->tt (aG [some (.int (lo+i))] ci σ) H Q') (hf:∀i:Nat,i<n->∀H Q',Same H1 H->p (lo+i)=true->Q' (f (lo+i)) H->te (aG [some (.int (lo+i))] ci σ) H Q')
 (q:Q (upd H1 acc (.lst (((List.range n).filter fun i:Nat=>p (lo+i)).map fun i:Nat=>f (lo+i))))):bX (Itr lo n) (bG 1) tt te 1 ci σ acc Q (upd H1 acc (.lst [])):=by
 have hx:∀(i:Nat),i<n->((List.range n).map fun k:Nat=>V.int (lo+k))[i]?=some (.int (lo+i)):=fun i hi=>by simp [hi]
 have key:=lP (xs:=(List.range n).map fun k:Nat=>V.int (lo+k)) (J:=Itr lo n) (tt:=tt) (te:=te) (ci:=ci) (σ:=σ) (acc:=acc) (Q:=Q) (H1:=H1)
  (fun x=>match x with | .int i=>p i | _=>false) (fun x=>match x with | .int i=>f i | _=>.non) (by simpa using hz) hacc
  (fun Pv h0 hH hs hd=>jo Pv h0 (fun i ys H os hi ho h=>hs i _ ys H os (hx i hi) ho h) (fun ys H h=>hd ys H (by simpa using h)))
  (fun x hm H Q' sm h=>by obtain ⟨k,hk,rfl⟩:=zq20.mp hm;exact hp k (zq34.mp hk) H Q' sm h)
  (fun x hm H Q' sm hb h=>by obtain ⟨k,hk,rfl⟩:=zq20.mp hm;exact hf k (zq34.mp hk) H Q' sm hb h)
 refine key ?_;have e:(((List.range n).map fun k:Nat=>V.int (lo+k)).filter (fun x=>match x with | .int i=>p i | _=>false)).map (fun x=>match x with | .int i=>f i | _=>.non)=((List.range n).filter fun i:Nat=>p (lo+i)).map fun i:Nat=>f (lo+i):=by rw [yw,fj];rfl
 rw [e];exact q
end
end L2
end
namespace FB
open PySem L2
inductive Opd where
 |box (n:Str)
 |word (i:Int)
 deriving DecidableEq
noncomputable def Opd.v:Opd->V
 | .box n=>.str n
 | .word i=>.int i
noncomputable def Opd.reads:Opd->List Str
 | .box n=>[n]
 | .word _=>[]
inductive Deed where
 |tell (a:Opd)
 |copy (d:Str) (a:Opd)
 |op (f d:Str) (a b:Opd)
 deriving DecidableEq
noncomputable def opsL:List Str:=["plus","less","and","or","xor","below","same"]
noncomputable def Deed.vs:Deed->List V
 | .tell a=>[.str "tell",a.v]
 | .copy d a=>[.str "copy",.str d,a.v]
 | .op f d a b=>[.str f,.str d,a.v,b.v]
noncomputable def Deed.fine:Deed->Prop
 | .op f _ _ _=>f∈opsL
 |_=>True
noncomputable def Deed.reads:Deed->List Str
 | .tell a=>a.reads
 | .copy _ a=>a.reads
 | .op _ _ a b=>a.reads++b.reads
noncomputable def Deed.writes:Deed->List Str
 | .tell _=>[]
 | .copy d _=>[d]
 | .op _ d _ _=>[d]
noncomputable def Deed.tells:Deed->Bool
 | .tell _=>true
 |_=>false
noncomputable def iW(one other:Deed):Option Int:=
 if one.tells=true/\other.tells=true then some 1
 else if ∃n∈one.writes,n∈other.reads\/n∈other.writes then some 1
 else if ∃n∈other.writes,n∈one.reads then some 0 else none
noncomputable def md:Option Int->V
 |none=>.non
 |some i=>.int i
end FB
section
open PySem PySem.Spec PyProof.Rows
namespace L2
section
variable {X:Cx}
theorem lA:∀{ns:List Str} {us:List Value},Vals (ns.map V.str) us->StrsAre us ns
 | [],_,r=>by cases r;exact .nil
 |n::ns,_,r=>by
  cases r with
  |cons r0 rr=>obtain ⟨t,rfl⟩:=r0;exact StrsAre.cons _ _ (lA rr)
noncomputable def AU(K:W.Frag):V->List V->Hp->VK->Prop:=fun x vs H Q=>∃(z:Str)(p:Addr)(ys:List Str),x=.str z/\vs=[.ref p]/\SqL K H p (ys.map V.str)/\(ys.map (·.length)).sum+ys.length * z.length<=16777216/\Q (.str (Txt.join z ys)) H
theorem zt:MtR X "str.join" (AU X.K):=by
 intro pins s σ H x vs v us Q I rx rv h;obtain ⟨z,p,ys,rfl,rfl,hq,hz,q⟩:=h;obtain ⟨t,rfl⟩:=rx;obtain ⟨u,rfl,ru⟩:=rv.one
 cases ru
 obtain ⟨its,r,pl,_⟩:=I.list hq;exact join_list pl.isList (by simpa using lA r) hz fun t' k=>⟨.str _,H,I.tok _,⟨_,rfl⟩,q⟩
theorem Ap{pins:List (Addr×Obj)}{σ:St}{H:Hp}{s:Shared}(I:Inv X pins σ H s):(s.heap.objs.size==sysModules)=false:=by have:=I.big;simp only [beq_eq_false_iff_ne,ne_eq];exact fun e=>by rw [e] at this;exact absurd this (mF _)
noncomputable def Cc:V->List V->Hp->VK->Prop:=fun x vs H Q=>∃p kvs,x=.ref p/\vs=[]/\Rd H p (.dK kvs)/\∀l,H l=none->Q (.ref l) (upd H l (.dK kvs))
noncomputable def zi(ka kb:List (Key×V)):Bool:=ka.length==kb.length&&ka.all fun kv=>match bA kb kv.1 with | none=>false | some y=>eqV kv.2 y
theorem FI{kvs:List (Key×V)}{vs:List (Key×Value)}(r:KV kvs vs)(k:Key):(bA kvs k=none/\valueAt vs k=none)\/∃v u,bA kvs k=some v/\valueAt vs k=some u/\RelV v u:=by
 induction r with
 |nil=>exact .inl ⟨rfl,rfl⟩
 | @cons a b l1 l2 h t ih=>
  obtain ⟨h1,h2⟩:=h
  by_cases e:a.1=k
  ·refine .inr ⟨a.2,b.2,bQ e,?_,h2⟩;unfold valueAt;rw [List.find?_cons];simp [h1.symm.trans e]
  ·rw [bI e];have e':valueAt (b::l2) k=valueAt l2 k:=by unfold valueAt;rw [List.find?_cons];have:¬b.1=k:=fun z=>e (h1.trans z);simp [this]
   rw [e'];exact ih
theorem rO{A:Around}{s:Shared}{kb:List (Key×V)}{wb:List (Key×Value)}(rb:KV kb wb)(fb:kb.all (fun kv=>bz kv.2)=true):∀{ka:List (Key×V)} {wa:List (Key×Value)},KV ka wa->ka.all (fun kv=>bz kv.2)=true->
  W.KeqHits A s wb wa (ka.all fun kv=>match bA kb kv.1 with | none=>false | some y=>eqV kv.2 y)
 |_,_,.nil,_=>.nil
 |a::ka,b::wa,.cons ⟨h1,h2⟩ t,hf=>by
  rw [qR,dc] at hf;rw [qR];rcases FI rb a.1 with ⟨e1,e2⟩ | ⟨v,u,e1,e2,r⟩
  ·rw [e1];obtain ⟨k,y⟩:=b;have hk:a.1=k:=h1;subst hk;rw [uZ];exact .miss e2
  ·rw [e1];obtain ⟨k,y⟩:=b;have hk:a.1=k:=h1;subst hk;refine .hit e2 ?_ (rO rb fb t hf.2);have fv:bz v=true:=by
    have hm:∃kv∈kb,kv.2=v:=by unfold bA at e1;obtain ⟨kv,hkv,e⟩:=zq35.mp e1;exact ⟨kv,yx hkv,e⟩
    obtain ⟨kv,hm,rfl⟩:=hm;exact zq37.mp fb kv hm
   exact q5 h2 r hf.1 fv
noncomputable def zS:R2:=fun x y H Q=>∃a b ka kb,x=.ref a/\y=.ref b/\Rd H a (.dK ka)/\Rd H b (.dK kb)/\ka.all (fun kv=>bz kv.2)=true/\kb.all (fun kv=>bz kv.2)=true/\Q (.bl (zi ka kb)) H
theorem kQ(hu:X.A.units<cLine):OpR X (compareOp .Eq) zS:=by
 intro pins s σ H x y v u Q I rx ry h;obtain ⟨a,b,ka,kb,rfl,rfl,ha,hb,fa,fb,q⟩:=h
 cases rx;cases ry
 obtain ⟨za,hda,va,ra,da⟩:=gS I.hok ha;obtain ⟨zb,hdb,vb,rb,db⟩:=gS I.hok hb;refine W.keq_eq hda hdb da db hu (fun _=>rO rb fb ra fa) ?_;rw [<- ra.length,<- rb.length];exact ⟨.bl _,H,I,rfl,q⟩
theorem tT{ka:List (Key×V)}(hn:(ka.map (·.1)).Nodup)(hf:ka.all (fun kv=>bz kv.2)=true):zi ka ka=true:=by
 unfold zi;rw [beq_self_eq_true,qS,zq37];intro kv hm;have e:bA ka kv.1=some kv.2:=by
  clear hf
  induction ka with
  |nil=>cases hm
  |cons p r ih=>
   rw [cM,zq41] at hn;rcases zq6.mp hm with rfl | hm
   ·exact bQ rfl
   ·rw [bI (fun z=>hn.1 (by rw [z];exact zq20.mpr ⟨kv,hm,rfl⟩))];exact ih hn.2 hm
 rw [e];exact vA (zq37.mp hf kv hm)
end
end L2
namespace L2
variable {H:Hp} {sc:Scope} {σ:St}
section
variable {X:Cx} {x:Str} {p pos:Pos} {e:Expr} {es:List Expr} {t:TA} {id T:String} {r:List V->Hp->VK->Prop}
theorem qv(i:Nat){x:Str}{pos:Pos}(hv:Vis X.env.scope x)(hN:X.N[i]?=some x:=by rfl)(hd:(x==("__debug__":Str))=false:=by kernel_rfl) (hcd:(x==("__classdict__":Str))=false:=by kernel_rfl):PE X (.Name x pos) (Dc i):=C5 hN hv hd hcd
theorem vl{x:Str}(h:sc.names.lookup x=some .local:=by kernel_rfl):Vis sc x:=.inl h
theorem vc{x:Str}(h:sc.names.lookup x=some .cell:=by kernel_rfl):Vis sc x:=.inr (.inl h)
theorem ll{x:Str}(h:sc.names.lookup x=some .local:=by kernel_rfl):Loc sc x:=.inl h
theorem lc{x:Str}(h:sc.names.lookup x=some .cell:=by kernel_rfl):Loc sc x:=.inr h
theorem gl{X:Cx}{x:Str}(h:X.env.scope.names.lookup x=some .globalImplicit:=by kernel_rfl):Gl X x:=h
theorem m7{x:Str}(h:(x==("__name__":Str))=false:=by kernel_rfl):x≠"__name__":=fun z=>by subst z;exact absurd h (by decide +kernel)
theorem wZ{k:Nat}{f:Addr}{fd:FuncData}{ps:List Str}{sp:Sp}{x:Str}{st:Stmt}{p pos:Pos}{e:Expr}{es:List Expr}{t:TA}(D:b8 X.K X.mg x st ps f fd)(G:FnOk X.prog X.w X.K X.mg X.base CX0 k f fd ps sp)(hr:Room k X.A)
  (ha:PA X (e::es) t) (hg:Gl X x) (hdb:(x==("__debug__":Str))=false:=by kernel_rfl) (he:starEach (e::es) X.env=(false,eval e X.env)::starEach es X.env:=by rfl) (hpl:(backTo pos (starEach es X.env)).any (·.1)=false:=by rfl) :
  PE X (.Call (.Name x p) (e::es) [] pos) (pC sp [] E0 t):=wL D G hr ha hg hdb he hpl
noncomputable def pW:Expr->Option V
 | .Constant (.int i) _ _=>some (.int i)
 | .Constant (.str x) _ _=>some (.str x)
 | .Constant (.bool b) _ _=>some (.bl b)
 | .Constant .none _ _=>some .non
 |_=>none
noncomputable def j4:List Expr->Option (List V)
 | []=>some []
 |e::es=>(pW e).bind fun v=>(j4 es).map fun vs=>v::vs
noncomputable def tVs(vs:List V):TA:=fun _ H Q=>Q vs H
theorem tL{e:Expr}{v:V}(h:pW e=some v):PE X e (tC v)/\∀es,starEach (e::es) X.env=(false,eval e X.env)::starEach es X.env:=by
 unfold pW at h
 split at h
 ·cases h;exact ⟨wO,fun _=>rfl⟩
 ·cases h;exact ⟨wV,fun _=>rfl⟩
 ·cases h;exact ⟨AT,fun _=>rfl⟩
 ·cases h;exact ⟨wU,fun _=>rfl⟩
 ·cases h
theorem oz:∀{es:List Expr} {vs:List V},j4 es=some vs->PA X es (tVs vs)
 | [],_,h=>by cases h;exact wJ
 |e::es,vs,h=>by unfold j4 at h;obtain ⟨v,h1,h2⟩:=Option.bind_eq_some_iff.mp h;obtain ⟨ws,h3,h4⟩:=zq35.mp h2;subst h4;obtain ⟨p1,p2⟩:=tL (X:=X) h1;exact sd p1 (oz h3) (p2 es)
theorem G9{vs:List V}{Z:List V->Hp->Prop}:tVs vs σ H Z=Z vs H:=rfl
theorem CI{z:Str}{p:Addr}{K:W.Frag}{Q:VK}:AU K (.str z) [.ref p] H Q=∃ys:List Str,SqL K H p (ys.map V.str)/\(ys.map (·.length)).sum+ys.length * z.length<=16777216/\Q (.str (Txt.join z ys)) H:=propext ⟨by rintro ⟨_,_,ys,e1,e2,h⟩;cases e1;cases e2;exact ⟨ys,h⟩,by rintro ⟨ys,h⟩;exact ⟨_,_,ys,rfl,rfl,h⟩⟩
theorem Af{z:Str}{K:W.Frag}:tyV K "str" (.str z) H=True:=eq_true (show ("str":String)="str" from rfl)
theorem zY{Q:VK}:xV σ H Q=∀p,H p=none->Q (.ref p) (upd H p (.dK [])):=rfl
theorem Co{td ty tv:TE}{D:d4}:xE td ty tv D σ H=tv σ H fun v H1=>td σ H1 fun x H2=>ty σ H2 fun y H3=>∃a H4,x=.ref a/\DPut H3 a y v H4/\D.nx σ H4:=rfl
theorem Ct{c:Addr}{Z:Addr->Hp->Prop}:(∃a H4,V.ref c=.ref a/\Z a H4)=∃H4,Z c H4:=propext ⟨by rintro ⟨_,H4,e,q⟩;cases e;exact ⟨H4,q⟩,by rintro ⟨H4,q⟩;exact ⟨c,H4,rfl,q⟩⟩
theorem Cy{to ti:TE}{ts:vg}{v:V}{Q:St->Hp->Prop}:BA to ti ts v σ H Q=to σ H fun o H1=>ti σ H1 fun i H2=>ts o i v H2 fun H3=>Q σ H3:=rfl
noncomputable def D9(t u:TS):TS:=fun D σ H=>∃Mid:St->Hp->Prop,t {D with nx:=Mid} σ H/\∀σ' H',Mid σ' H'->u D σ' H'
theorem xl{ta tb:TS}{D:d4}:D9 ta tb D σ H=∃Mid:St->Hp->Prop,ta {D with nx:=Mid} σ H/\∀σ' H',Mid σ' H'->tb D σ' H':=rfl
end
end L2
namespace L2
variable {dx:Addr}
structure KlsAt(K:W.Frag)(mg:Str->Option Value)(x:Str)(C:Addr):Prop where
 cl:Cls K C
 mks:W.makesIn K C=true
 kp:W.keepIn K (.ref C)=true
 M:mg x=some (.ref C)
structure bH(K:W.Frag)(C:Addr)(m qual:Str)(st:Stmt)(ps:List Str)(f:Addr)(fd:FuncData):Prop where
 F:Fun K m qual st f fd
 B:Binds K fd ps []
 M:tG K C m f
theorem KlsAt.make{K:W.Frag}{mg:Str->Option Value}{x qual:Str}{C f:Addr}{st:Stmt}{ps:List Str}{fd:FuncData}(c:KlsAt K mg x C)(m:bH K C "__init__" qual st ps f fd):Mk K C f:=⟨c.mks,m.M.at_,m.M.fn,c.kp⟩
section
variable {X:Cx} {k:Nat} {f C:Addr} {fd:FuncData} {ps:List Str} {sp:Sp} {x m qual:Str} {st:Stmt} {p pos apos:Pos} {e o:Expr} {es:List Expr} {ta:TE} {t:TA}
theorem x3(c:KlsAt X.K X.mg x C)(D:bH X.K C "__init__" qual st ps f fd) (G:FnOk X.prog X.w X.K X.mg X.base CX0 k f fd ps sp) (hr:Room (k+1) X.A)
  (ha:PA X (e::es) t) (hg:Gl X x) (hdb:(x==("__debug__":Str))=false:=by kernel_rfl) (he:starEach (e::es) X.env=(false,eval e X.env)::starEach es X.env:=by rfl) (hpl:(backTo pos (starEach es X.env)).any (·.1)=false:=by rfl) :
  PE X (.Call (.Name x p) (e::es) [] pos) (jV C sp [] E0 t):=zP (c.make D) G hr hg c.M D.B .nil oA ha hdb he hpl
theorem x4{pl:Sem Bool}(c:Cls X.K C)(D:bH X.K C m qual st ps f fd)(G:FnOk X.prog X.w X.K X.mg X.base CX0 k f fd ps sp)(hr:Room k X.A)(he:PE X o ta)(ha:PA X (e::es) t)
  (hst:starEach (e::es) X.env=(false,eval e X.env)::starEach es X.env:=by rfl) (hpl:(backTo pos (starEach es X.env)).any (·.1)=false:=by rfl)
  (ht:eval (.Call (.Attribute o m apos) (e::es) [] pos) X.env=(do
   let ov <- eval o X.env
   standAt apos.atName
   let (f,first) <- holding [ov] (getMethod ov m pl)
   callWith pos f first (backTo pos (starEach (e::es) X.env)) (backToKw pos (keywordEach [] X.env))):=by rfl) :
  PE X (.Call (.Attribute o m apos) (e::es) [] pos) (i7 C m sp [] E0 ta t):=se he c D.M G hr D.B .nil oA ha hst hpl ht
theorem uB{pl:Sem Bool}(c:Cls X.K C)(D:bH X.K C m qual st ps f fd)(G:FnOk X.prog X.w X.K X.mg X.base CX0 k f fd ps sp)(hr:Room k X.A)(he:PE X o ta)
  (ht:eval (.Call (.Attribute o m apos) [] [] pos) X.env=(do
   let ov <- eval o X.env
   standAt apos.atName
   let (f,first) <- holding [ov] (getMethod ov m pl)
   callWith pos f first (backTo pos (starEach [] X.env)) (backToKw pos (keywordEach [] X.env))):=by rfl) :
  PE X (.Call (.Attribute o m apos) [] [] pos) (i7 C m sp [] E0 ta pD):=wR he c D.M G hr D.B .nil oA ht
end
section
variable {H:Hp} {Q:VK} {σ:St} {D:d4} {K:W.Frag}
noncomputable def vf(K:W.Frag)(x:V)(f:Str)(y:V)(H:Hp)(Z:Hp->Prop):Prop:=∃a C dx fs,x=.ref a/\H a=some (.ins C dx fs)/\Cls K C/\NoAttr K C f/\fs.length<1000/\Z (upd H a (.ins C dx (dq f y fs)))
noncomputable def vd(K:W.Frag)(x:V)(f:Str)(H:Hp)(Q:VK):Prop:=∃a C dx fs v,x=.ref a/\H a=some (.ins C dx fs)/\Cls K C/\NoAttr K C f/\fs.lookup f=some v/\Q v H
noncomputable def lI(C:Addr)(m:Str)(x:V)(H:Hp)(Z:Prop):Prop:=∃a dx fs,x=.ref a/\H a=some (.ins C dx fs)/\fs.lookup m=none/\Z
noncomputable def Dm(C:Addr)(sp:Sp)(vs:List V)(H:Hp)(Q:VK)(E:XK):Prop:=∀x dx,H x=none->H dx=none->dx≠x->sp (.ref x::vs) (upd (upd H dx (.own x)) x (.ins C dx [])) (fun v H2=>v=.non/\Q (.ref x) H2) E
theorem D1{ta tv:TE}{f:Str}:Es K ta tv f D σ H=tv σ H fun y H1=>ta σ H1 fun x H2=>vf K x f y H2 (D.nx σ):=rfl
theorem CA{ta:TE}{f:Str}:Fz K ta f σ H Q=ta σ H fun x H1=>vd K x f H1 Q:=rfl
theorem CT{C:Addr}{m:Str}{sp:Sp}{E:XK}{ta:TE}{t:TA}:i7 C m sp [] E ta t σ H Q=ta σ H fun x H1=>lI C m x H1 (t σ H1 fun vs H2=>sp (x::vs) H2 Q E):=by unfold i7 lI;simp only [List.append_nil]
theorem CS{C:Addr}{sp:Sp}{E:XK}{t:TA}:jV C sp [] E t σ H Q=t σ H fun vs H1=>Dm C sp vs H1 Q E:=by unfold jV Dm;simp only [List.append_nil]
theorem nT{p C:Addr}{fs:List (Str×V)}{f:Str}{y:V}{Z:Hp->Prop}(e:H p=some (.ins C dx fs))(c:Cls K C)(n:NoAttr K C f)(l:fs.length<1000)(h:Z (upd H p (.ins C dx (dq f y fs)))):vf K (.ref p) f y H Z:=⟨p,C,dx,fs,rfl,e,c,n,l,h⟩
theorem iV{p C:Addr}{fs:List (Str×V)}{f:Str}{v:V}(e:H p=some (.ins C dx fs))(c:Cls K C)(n:NoAttr K C f)(l:fs.lookup f=some v)(h:Q v H):vd K (.ref p) f H Q:=⟨p,C,dx,fs,v,rfl,e,c,n,l,h⟩
theorem bL{p C:Addr}{fs:List (Str×V)}{m:Str}{Z:Prop}(e:H p=some (.ins C dx fs))(l:fs.lookup m=none)(h:Z):lI C m (.ref p) H Z:=⟨p,dx,fs,rfl,e,l,h⟩
end
end L2
namespace L2
section
variable {K:W.Frag} {h:Heap} {mg:Str->Option Value}
noncomputable abbrev fnS (x qual:Str) (st:Stmt) (kV doc pm:Value) (an:Option Addr) (cdv ct:Value):FuncData:=W.fnOf x qual (di st) (cX st) (az st) .none kV doc pm an cdv ct
noncomputable abbrev pS (x qual:Str) (st:Stmt) (ps:List Str):Prop:=∀(kV doc pm:Value)(an:Option Addr)(cdv ct:Value)(us:List Value),us.length=ps.length->bindArgs (fnS x qual st kV doc pm an cdv ct) ⟨us,[]⟩=pure (ps.zip us)
theorem cf{x:Str}{st:Stmt}{ps:List Str}{f:Addr}{oc:Value}{od an:Option Addr}{osl:Array (Option Value)}{kV doc pm cdv ct:Value}(X:K.In h)(G:h.Ns mainGlobals mg)(a:W.nsIn K mainGlobals x=some (some (.ref f)))
  (l:K.lookup f=some ⟨oc,od,.func (W.fnOf x x (di st) (cX st) (az st) .none kV doc pm an cdv ct),osl⟩) (c:W.codeIn K cdv x=true) (k:W.keepIn K (.ref f)=true) (b:pS x x st ps):b8 K mg x st ps f (W.fnOf x x (di st) (cX st) (az st) .none kV doc pm an cdv ct):=
 ⟨lR l c k,(lR l c k).binds b,W.mg_of X G a⟩
theorem gY{C:Addr}{x qual:Str}{st:Stmt}{ps:List Str}{f:Addr}{oc:Value}{od an:Option Addr}{osl:Array (Option Value)}{kV doc pm cdv ct:Value}(a:W.findIn K (.ref C) x=some (some (.ref f)))(i:W.isFn K (.ref f)=true)
  (l:K.lookup f=some ⟨oc,od,.func (W.fnOf x qual (di st) (cX st) (az st) .none kV doc pm an cdv ct),osl⟩) (c:W.codeIn K cdv qual=true) (k:W.keepIn K (.ref f)=true) (b:pS x qual st ps):bH K C x qual st ps f (W.fnOf x qual (di st) (cX st) (az st) .none kV doc pm an cdv ct):=
 ⟨lR l c k,(lR l c k).binds b,⟨a,i,k⟩⟩
theorem Bs{x:Str}{C:Addr}(X:K.In h)(G:h.Ns mainGlobals mg)(a:W.nsIn K mainGlobals x=some (some (.ref C)))(h1:W.plainGet K C Str.empty=true)(h2:W.hasDictIn K C=true)(h3:W.plainOver K C=true)
  (h4:W.findIn K (.ref C) "__setattr__"=some (some (.builtin "object.__setattr__"))) (h5:W.makesIn K C=true) (h6:W.keepIn K (.ref C)=true):KlsAt K mg x C:=⟨⟨h1,h2,h3,h4⟩,h5,h6,W.mg_of X G a⟩
end
section
variable {x qual p q r s t u:Str} {st:Stmt}
theorem bn1(h:∀kV doc pm an cdv ct a,bindArgs (fnS x qual st kV doc pm an cdv ct) ⟨[a],[]⟩=pure [(p,a)]):pS x qual st [p]:=fun kV doc pm an cdv ct us hl=>by
 match us,hl with
 | [a],_=>exact h kV doc pm an cdv ct a
theorem bn2(h:∀kV doc pm an cdv ct a b,bindArgs (fnS x qual st kV doc pm an cdv ct) ⟨[a,b],[]⟩=pure [(p,a),(q,b)]):pS x qual st [p,q]:=fun kV doc pm an cdv ct us hl=>by
 match us,hl with
 | [a,b],_=>exact h kV doc pm an cdv ct a b
theorem bn3(h:∀kV doc pm an cdv ct a b c,bindArgs (fnS x qual st kV doc pm an cdv ct) ⟨[a,b,c],[]⟩=pure [(p,a),(q,b),(r,c)]):pS x qual st [p,q,r]:=fun kV doc pm an cdv ct us hl=>by
 match us,hl with
 | [a,b,c],_=>exact h kV doc pm an cdv ct a b c
theorem bn4(h:∀kV doc pm an cdv ct a b c d,bindArgs (fnS x qual st kV doc pm an cdv ct) ⟨[a,b,c,d],[]⟩=pure [(p,a),(q,b),(r,c),(s,d)]):pS x qual st [p,q,r,s]:=fun kV doc pm an cdv ct us hl=>by
 match us,hl with
 | [a,b,c,d],_=>exact h kV doc pm an cdv ct a b c d
theorem bn5(h:∀kV doc pm an cdv ct a b c d e,bindArgs (fnS x qual st kV doc pm an cdv ct) ⟨[a,b,c,d,e],[]⟩=pure [(p,a),(q,b),(r,c),(s,d),(t,e)]):pS x qual st [p,q,r,s,t]:=fun kV doc pm an cdv ct us hl=>by
 match us,hl with
 | [a,b,c,d,e],_=>exact h kV doc pm an cdv ct a b c d e
end
end L2
namespace L2
section
variable {X:Cx}
end
end L2
namespace L2
theorem rP:∀{ns:List Int} {its:List Value},Vals (ns.map V.int) its->IntsAre its ns
 | [],_,.nil=>.nil
 |n::ns,_,.cons h t=>by obtain ⟨tk,rfl⟩:=h;exact .cons _ _ (rP t)
section
variable {X:Cx}
noncomputable def sj(K:W.Frag):List V->Hp->VK->Prop:=fun xs H Q=>∃(a:Addr)(ns:List Int),xs=[.ref a]/\SqL K H a (ns.map V.int)/\ns.length<64/\∀(l:Addr)(ns':List Int),H l=none->ns'.Perm ns->ns'.Pairwise (·<=·)->Q (.ref l) (upd H l (.lst (ns'.map V.int)))
theorem nz:dM X (.builtin "sorted") (sj X.K):=by
 intro pins s σ H xs us Q I r h;obtain ⟨a,ns,rfl,hq,h64,q⟩:=h;obtain ⟨u,rfl,ru⟩:=gu r
 cases ru
 obtain ⟨its,rv,pl,_⟩:=I.list hq;have hl:=rv.length;rw [zq1] at hl;refine sorted_ints (vs:=its) pl.isList (rP rv) (by omega) fun out ns' a1 a2 a3=>?_;obtain ⟨e,he⟩:=sortedAll_at s.heap its out;have hk:∀b o,s.heap.get? b=some o->(sortedAll s.heap its out).get? b=some o:=fun _ _=>sortedAll_old;refine ⟨.ref (s.heap.objs.size+1),_,I.laid (t':=s.toks) hk (mI _) (show ObjOk X.prog X.w _ (sortedAll s.heap its out) _ (.lst (ns'.map V.int)) from ⟨?_,out.toList,e,iF a1,?_⟩),rfl,q _ _ (I.hok.fresh (mI _)) a2 a3⟩
 ·rw [zq1,a2.length_eq,sizeLine_eq];omega
 ·rw [Array.toArray_toList];exact he
theorem nq:∀{bs:List Bool} {its:List Value},Vals (bs.map V.bl) its->its=bs.map Value.bool
 | [],_,.nil=>rfl
 |b::bs,_,.cons h t=>by have e:_=Value.bool b:=h;rw [e,nq t];rfl
theorem uF{bs:List Bool}:(List.range bs.length).any (fun i=>bs.getD i true)=bs.any id:=by
 rw [mH,zq78,zq78]
 constructor
 ·rintro ⟨i,hi,h⟩;have hi:=zq34.mp hi;rw [eN,zq4 hi] at h;exact ⟨_,ko hi,h⟩
 ·rintro ⟨b,hb,h⟩;obtain ⟨i,hi,rfl⟩:=List.mem_iff_getElem.mp hb;refine ⟨i,zq34.mpr hi,?_⟩;rw [eN,zq4 hi];exact h
noncomputable def DP(K:W.Frag):List V->Hp->VK->Prop:=fun xs H Q=>∃(a:Addr)(bs:List Bool),xs=[.ref a]/\SqL K H a (bs.map V.bl)/\Q (.bl (bs.any id)) H
theorem pH{P:Program}{w:World}{A:Around}{bs:List Bool}:TruthOf P w A (fun i v=>(bs.map Value.bool).toArray[i]?=some v) (fun i=>bs.getD i true):=by intro i v s Q E hv q;rw [Bc,bM] at hv;obtain ⟨b,hb,rfl⟩:=zq35.mp hv;replace q:Q (bs.getD i true) s:=q;rw [eN,hb] at q;exact wpAny_truthy_bool q
theorem nv(hc:X.calm=true):dM X (.builtin "any") (DP X.K):=by
 intro pins s σ H xs us Q I r h;obtain ⟨a,bs,rfl,hq,q⟩:=h;obtain ⟨u,rfl,ru⟩:=gu r
 cases ru
 obtain ⟨its,rv,pl,_⟩:=I.list hq;obtain rfl:=nq rv;obtain ⟨o,ho,ro⟩:=pl.isList;have W:=Walks.list (prog:=X.prog) (w:=X.w) (A:=X.A.in1) (I.ok.hd hc) s.heap.objs.size a (cm (zq9 ho)) (bs.map Value.bool).toArray;refine call_any_walk (wpAny_pyIter_list pl.isList ⟨s.heap.objs.size,_,_,_,_,_,fun i=>bs.getD i true,rfl,W,⟨⟨_,d8 _ rfl,rfl,rfl⟩,pl.isList.push _⟩,pH,fun h' tk hk=>?_⟩);have e:(bs.map Value.bool).toArray.size=bs.length:=by simp
 rw [e,uF];exact ⟨.bl _,H,I.kept (t':=tk) fun b ob hb=>hk b ob (fun z=>mF _ (by have:=zq9 hb;rw [zq2.mp z] at this;exact this)) (c9 _ hb),rfl,q⟩
end
end L2
namespace L2
open AutoSeq1 (wpAny_loadPart')
theorem sE:mroOf (.type "reversed")=pure [.type "reversed",.type "object"]:=by rw [mroOf_type];kernel_rfl
theorem Ah:typeLookup (.type "reversed") "__new__"=pure (some (.builtin "reversed.__new__")):=by rw [typeLookup_type,builtinLookup_eq_fast];kernel_rfl
theorem xy:Bind.madeBy (.type "reversed")=pure (some "reversed.__new__"):=madeBy_type sE Ah (by decide +kernel)
theorem Ai:isSubtype (.type "list_reverseiterator") (.type "reversed")=pure false:=by rw [isSubtype_type];kernel_rfl
theorem xA:isSubtype (.type "reversed") (.type "reversed")=pure true:=by rw [isSubtype_type];kernel_rfl
theorem uH:entryFor table "reversed.__new__"=some Builtin.«reversed.__new__»:=entryFor_of_tree (by kernel_rfl)
theorem gC(l:Addr)(items:Array Value)(n:Nat)(dct:Option Addr)(sl:Array (Option Value)):
  Meets (Builtin.«reversed.__new__» ⟨[.type "reversed",.ref l],[]⟩) (fun _ R s=>s.heap.get? l=some {cls:=.type "list",dict:=dct,data:=.seq items n,slots:=sl}/\
   R (.ok (.ret (.ref s.heap.objs.size))) {s with heap:=s.heap.push {cls:=.type "list_reverseiterator",data:=.fields #[.ref l,rawInt (((items.size:Nat):Int)-1)]}}):=
 .of_wp fun prog w A R s h=>by
  obtain ⟨hp,g,d,tk,os⟩:=s;obtain ⟨hl,h⟩:=h;have hsub:=xA;have hL:Heap.IsList (Shared.heap ⟨hp,g,d,tk,os⟩) l items:=⟨_,hl,rfl,n,rfl⟩
  wp_walk using wpAny_loadPart' hl
  refine wpAny_of_eq PySem.F.slot_list_reversed.lookup ?_;refine wpAny_bind ?_;unfold bindSpecial;refine wpAny_bind (wpAny_of_eq PySem.F.type_list_reversed ?_);rw [if_pos (by decide)];refine wpAny_pure ?_;show wpAny _ _ (if (Value.builtin "list.__reversed__"==Value.none)=true then _ else _) _ _ _;rw [if_neg (by decide)];refine wpAny_bind (wpAny_rule ?_);refine wpAny_bind ?_;show wpAny (model prog w) A.in1 (call (.builtin "list.__reversed__") [.ref l]) _ _ _;refine wpAny_call_entry PySem.F.slot_list_reversed hL.typeIs PySem.F.entry_list_reversed ?_ (PySem.F.args_list_reversed_1 _)
  wp_walk using wpAny_loadPart' hl
  exact ⟨_,rfl,wpAny_pure ⟨_,rfl,h⟩⟩
noncomputable def IsRev(h:Heap)(it l:Addr)(k:Int):Prop:=∃o,h.get? it=some o/\o.cls=.type "list_reverseiterator"/\o.data=.fields #[.ref l,.int k 0]
section
variable {prog:Program} {w:World} {A:Around} {E:Value->Shared->Prop} {s:Shared}
theorem gv{l:Addr}{items:Array Value}{Q:Value->Shared->Prop}(hL:s.heap.IsList l items)
  (h:∀h',IsRev h' s.heap.objs.size l (((items.size:Nat):Int)-1)->h'.objs.size=s.heap.objs.size+1->(∀b o,s.heap.get? b=some o->h'.get? b=some o)->Q (.ref s.heap.objs.size) {s with heap:=h'}) :
  wpAny (model prog w) A (call (.type "reversed") [.ref l]) Q E s:=by
 obtain ⟨⟨c,dct,dt,sl⟩,hl,hc,n,hd⟩:=hL;replace hc:c=.type "list":=hc;replace hd:dt=.seq items n:=hd;subst hc hd;have hmro:=sE;have hmade:=xy;have hsub:=Ai;refine wpAny_call (codeAny_of_tree ?_);show wpAny _ _ (callAny (.type "reversed") _) _ _ _;refine wpAny_pure ⟨Code.quiet_builtin _ (by decide +kernel),codeAny_builtin F.entry_type_call ?_⟩;rw [Around.under_plain (weight_type_call_type "reversed" [.ref l] []) (units_type_call_type "reversed" [.ref l] [])];have h1:(Value.type "reversed"==Value.type "type")=false:=by decide +kernel
 have h2:((Manifest.find? "reversed").bind (·.mro.findSome? fun t=>(Manifest.find? t).bind fun b=>if b.noNew then some true else if b.attrs.any (·.1=="__new__") then some false else none)).getD false=false:=by decide +kernel
 have hct:checkTypeCall "reversed" ⟨[.ref l],[]⟩=pure ():=by kernel_rfl
 have hcn:checkBuiltinCall "reversed.__new__" ⟨[.type "reversed",.ref l],[]⟩=pure ():=by kernel_rfl
 repeat (any_goals (first | assumption | wp_step))
 have key:=gC l items n dct sl prog w A.in1 (wants (fun v s'=>v=.ref s.heap.objs.size/\s'={s with heap:=s.heap.push {cls:=.type "list_reverseiterator",data:=.fields #[.ref l,rawInt (((items.size:Nat):Int)-1)]}}) E) s ⟨hl,rfl,rfl⟩;refine codeAny_mono (codeAny_call_builtin (by decide +kernel) uH (wpAny_of_eq hcn key)) fun r s₁ hr=>?_
 cases r with
 |error e=>exact hr
 |ok fl=>
  cases fl with
  |ret obj=>
   obtain ⟨rfl,rfl⟩:=hr;have hT:Shared.TypeIs {s with heap:=s.heap.push {cls:=.type "list_reverseiterator",data:=.fields #[.ref l,rawInt (((items.size:Nat):Int)-1)]}} (.ref s.heap.objs.size) "list_reverseiterator":=⟨_,d8 _ rfl,rfl⟩
   repeat (any_goals (first | assumption | wp_step))
   exact h _ ⟨_,d8 _ rfl,rfl,rfl⟩ (jZ ..) (fun b o x=>c9 _ x)
  |_=>exact hr.elim
end
end L2
namespace L2
variable {it l:Addr}
theorem slot_rev_next:Slot "list_reverseiterator" "__next__" "list_reverseiterator.__next__":=
 .of (owner:="list_reverseiterator") (n:="__next__") (by rw [typeLookup_type,builtinLookup_eq_fast];kernel_rfl) (by decide +kernel) (by decide +kernel) (by decide +kernel)
  (by first | exact .inl (by decide +kernel) | exact .inr (by decide +kernel)) (by rw [isSubtype_type];kernel_rfl)
theorem gk:Slot "list_reverseiterator" "__iter__" "list_reverseiterator.__iter__":=
 .of (owner:="list_reverseiterator") (n:="__iter__") (by rw [typeLookup_type,builtinLookup_eq_fast];kernel_rfl) (by decide +kernel) (by decide +kernel) (by decide +kernel)
  (by first | exact .inl (by decide +kernel) | exact .inr (by decide +kernel)) (by rw [isSubtype_type];kernel_rfl)
theorem fm:entryFor table "list_reverseiterator.__next__"=some Builtin.«list_reverseiterator.__next__»:=entryFor_of_tree (by kernel_rfl)
theorem js:entryFor table "list_reverseiterator.__iter__"=some Builtin.«dict_keyiterator.__iter__»:=
 entryFor_alias (id':="dict_keyiterator.__iter__") (by kernel_rfl) (by first | rfl | decide +kernel | (unfold String.splitOn;simp +decide [String.splitOnAux])) (by decide +kernel) (by kernel_rfl)
theorem gf(a:Value):argsOk "list_reverseiterator.__next__" ⟨[a],[]⟩:=by unfold argsOk;kernel_rfl
theorem kd(a:Value):argsOk "list_reverseiterator.__iter__" ⟨[a],[]⟩:=by unfold argsOk;kernel_rfl
theorem IsRev.typeIs{s:Shared}{k:Int}(x:IsRev s.heap it l k):s.TypeIs (.ref it) "list_reverseiterator":=let ⟨o,ho,hc,_⟩:=x;⟨o,ho,hc⟩
section
variable {prog:Program} {w:World} {A:Around} {E:Value->Shared->Prop} {s:Shared}
theorem jG{k:Int}{Q:Value->Shared->Prop}(hi:IsRev s.heap it l k)(h:Q (.ref it) s):wpAny (model prog w) A (pyIter (.ref it)) Q E s:=by refine wpAny_pyIter_slot hi.typeIs gk (wpAny_call_entry gk hi.typeIs js ?_ (kd _));show wpAny _ _ (ret (.ref it)) _ _ s;exact wpAny_pure ⟨_,rfl,"list_reverseiterator",_,hi.typeIs,slot_rev_next.lookup,h⟩
theorem j1{i:Nat}{items:Array Value}{x:Value}{Q:Option Value->Shared->Prop}(hit:IsRev s.heap it l (i:Int))(hl:s.heap.IsList l items)(hx:items[i]?=some x)
 (hQ:∀h',IsRev h' it l ((i:Int)-1)->Heap.SameBut it s.heap h'->Q (some x) {s with heap:=h'}):wpAny (model prog w) A (pyNext (.ref it)) Q E s:=by
 obtain ⟨o,ho,hc,hd⟩:=id hit;obtain ⟨ol,hol,_,nl,hdl⟩:=hl;unfold pyNext;refine wpAny_bind (wpAny_attempt (wpAny_callSpecial?_slot (name:=Str.ofString "__next__") hit.typeIs slot_rev_next (wpAny_call_entry slot_rev_next hit.typeIs fm ?_ (gf _))));show wpAny _ _ (field (.ref it) 1 >>= _) _ _ s;refine wpAny_bind (wpAny_field ho hd (x:=.int i 0) rfl ?_);show wpAny _ _ (if (i:Int)<0 then _ else _) _ _ s;rw [if_neg (by omega)];show wpAny _ _ (field (.ref it) 0 >>= _) _ _ s;refine wpAny_bind (wpAny_field ho hd (x:=.ref l) rfl ?_);show wpAny _ _ (seqItems? (.ref l) >>= _) _ _ s;refine wpAny_bind (wpAny_seqItems hol hdl ?_);simp only [Int.toNat_natCast,hx];refine wpAny_bind (wpAny_setField ho hd (by simp) (wpAny_pure ⟨x,rfl,wpAny_pure (hQ _ ?_ (Heap.SameBut.update ..))⟩));exact ⟨_,yr _ ho (Obj.isFreed_of_fields (Obj.data_mapFields hd _)),(Obj.cls_mapFields ..).trans hc,by rw [Obj.data_mapFields hd];simp [rawInt]⟩
theorem jH{Q:Option Value->Shared->Prop}(hh:A.handled=none)(hit:IsRev s.heap it l (-1))
 (hQ:∀h',Heap.ExtBut it s.heap h'->Q none {s with heap:=h'}):wpAny (model prog w) A (pyNext (.ref it)) Q E s:=by
 obtain ⟨o,ho,hc,hd⟩:=id hit;unfold pyNext;refine wpAny_bind (wpAny_attempt (wpAny_callSpecial?_slot (name:=Str.ofString "__next__") hit.typeIs slot_rev_next (wpAny_call_entry slot_rev_next hit.typeIs fm ?_ (gf _))));show wpAny _ _ (field (.ref it) 1 >>= _) _ _ s;refine wpAny_bind (wpAny_field ho hd (x:=.int (-1) 0) rfl ?_);show wpAny _ _ (if (-1:Int)<0 then _ else _) _ _ s;rw [if_pos (by decide)];refine wpAny_bind (wpAny_rule ?_);refine wpAny_bind ?_;show wpAny _ _ (newExc (.type "StopIteration") [] >>= _) _ _ _;refine wpAny_bind ?_;simp only [newExc,newTuple];refine wpAny_bind (wpAny_newObj_type ?_ (by size_fits));refine wpAny_bind (m:=firstArgMember _ _) (wpAny_of_eq (a:=Value.none) (by first | rfl | (simp only [firstArgMember];rfl)) ?_);refine wpAny_newObj_type ?_ (by size_fits);simp only [raiseNew];refine wpAny_bind (wpAny_handled ?_);rw [show A.in1.handled=none from hh];refine wpAny_bind (wpAny_pure (wpAny_throw ?_));refine wpAny_bind (wpAny_isInstance (T:="StopIteration") (b:=true) ⟨_,d8 _ rfl,rfl⟩ isSubtype_stop ?_);exact wpAny_pure (hQ _ (fun b o _ e=>c9 _ (c9 _ e)))
end
end L2
namespace L2
noncomputable def Itv(K:W.Frag)(a:Addr)(n:Nat):It:=
 ⟨fun i H=>∃xs,SqL K H a xs/\xs.length=n/\i<n,fun i H x H'=>H'=H/\∀xs,SqL K H a xs->xs.reverse[i]?=some x,fun i _=>n<=i⟩
theorem D3{α:Type}{xs:List α}{i:Nat}(h:i<xs.length):xs.reverse[i]?=xs[xs.length-1-i]?:=by rw [Bd h]
theorem IsRev.keep{h h':Heap}{it l:Addr}{k:Int}(x:IsRev h it l k)(hk:∀o,h.get? it=some o->h'.get? it=some o):IsRev h' it l k:=let ⟨o,ho,r⟩:=x;⟨o,hk o ho,r⟩
theorem ya{P:Program}{w:World}{K:W.Frag}{tg:Expr}(a it:Addr)(n:Nat):kc P w K tg (Itv K a n) [it] it (fun i h=>i<=n/\IsRev h it a ((n:Int)-1-(i:Nat))) where
 mem:=by simp
 obj:=fun i h st b hb=>by
  have e:b=it:=by simpa using hb
  subst e;obtain ⟨_,o,e,c,d⟩:=st;exact ⟨o,e,fun v z=>by rw [d] at z;cases z⟩
 keep:=fun i h h' st k=>⟨st.1,st.2.keep fun o e=>k it (by simp) o e⟩
 item:=by
  intro X hP hw hK hc i pins s σ H E I hf st hg;subst hP hw hK;obtain ⟨xs,hq,hn,hi⟩:=hg;subst hn;obtain ⟨x,hx⟩:∃x,xs[xs.length-1-i]?=some x:=⟨_,zq4 (by omega)⟩
  obtain ⟨its,rv,p,hz⟩:=I.list hq;obtain ⟨u,hu,ru⟩:=rv.get hx;obtain ⟨f0,f1,f2,f3,f4,f5⟩:=hf it (by simp);have st0:IsRev s.heap it a ((xs.length-1-i:Nat):Int):=by have:=st.2;rw [show ((xs.length:Int)-1-(i:Nat))=((xs.length-1-i:Nat):Int) by omega] at this;exact this
  refine j1 st0 p.isList (x:=u) (by simpa using hu) fun h' st' sb=>?_;have I1:Inv X pins σ H {s with heap:=h'}:=I.turned (t':=s.toks) (fun b o hb e=>(sb.2 b hb).trans e) f0 f1 f3 f4 f5;obtain ⟨o,e,c,d⟩:=id st';have st2:IsRev h' it a ((xs.length:Int)-1-((i+1:Nat):Int)):=by rw [show ((xs.length:Int)-1-((i+1:Nat):Int))=((xs.length-1-i:Nat):Int)-1 by omega];exact st'
  exact ⟨u,rfl,rM (s:={s with heap:=h'}) e c d (by decide) ⟨x,H,I1,ru,⟨rfl,fun ys hy=>by rw [I.list_inj hy hq,D3 hi];exact hx⟩,⟨hi,st2⟩,fun b hb=>(hf b hb).1⟩⟩
 done:=by
  intro X hP hw hK hc i pins s σ H E I hf st hg;subst hP hw hK;obtain ⟨f0,f1,f2,f3,f4,f5⟩:=hf it (by simp);have hg':n<=i:=hg;have e:i=n:=Nat.le_antisymm st.1 hg';have st0:IsRev s.heap it a (-1):=by have:=st.2;rw [show ((n:Int)-1-(i:Nat))=-1 by omega] at this;exact this
  exact jH (I.ok.hd hc) st0 fun h' eb=>⟨rfl,I.turned (t':=s.toks) (fun b o hb e=>eb b o hb e) f0 f1 f3 f4 f5⟩
 self:=fun _ _ _ _ _ st h=>jG st.2 h
noncomputable def BE(K:W.Frag)(ta:TA):TI:=fun σ H R=>ta σ H fun vs H1=>∃a xs,vs=[.ref a]/\SqL K H1 a xs/\R (Itv K a xs.length) H1
theorem C7{X:Cx}{tg a:Expr}{ta:TA}{p pos:Pos}(hm:X.mg "reversed"=none) (ha:PA X [a] ta) (hg:Gl X "reversed":=by rfl) (hs:starEach [a] X.env=[(false,eval a X.env)]:=by rfl) :
  PI X tg (.Call (.Name "reversed" p) [a] [] pos) (BE X.K ta):=by
 intro pins s σ H R I h;refine Call_ (dW I hg hm boot_reversed (PyProof.Rows.callWith_type1 (thn (ha pos pins s σ H _ I h) fun us s1 hhx=>?_) hs rfl));obtain ⟨vs,H1,I1,r1,q1⟩:=hhx;obtain ⟨l,xs,e,hq,q⟩:=q1;subst e
 cases r1 with
 |cons r rr=>
  cases rr
  cases r
  obtain ⟨its,rv,pl,hz⟩:=I1.list hq;have hlen:=rv.length;refine gv pl.isList fun h' hit hsz hk=>?_;refine jG hit ?_;have I2:Inv X pins σ H1 {s1 with heap:=h'}:=I1.kept (t':=s1.toks) hk;refine ⟨s1.heap.objs.size,[s1.heap.objs.size],_,_,H1,rfl,I2,ya l _ xs.length,⟨cc _,?_⟩,fun b hb=>?_,q⟩
  ·have e:(((its.toArray.size:Nat):Int)-1)=((xs.length:Int)-1-((0:Nat):Int)):=by simp [hlen]
   rw [e] at hit;exact hit
  ·rw [zq2.mp hb];exact I1.fpOk (zq0 _) (I1.hok.fresh (zq0 _))
section
variable {g:TG} {tb:TS} {D:d4} {σ:St} {H:Hp}
theorem CB{K:W.Frag}{ta:TA}{R:It->Hp->Prop}:BE K ta σ H R=ta σ H fun vs H1=>∃a xs,vs=[.ref a]/\SqL K H1 a xs/\R (Itv K a xs.length) H1:=rfl
theorem By{K:W.Frag}{a:Addr}{xs:List V}(Pv:Nat->St->Hp->Prop)(h0:Pv 0 σ H)(hl:∀i σ H,i<=xs.length->Pv i σ H->SqL K H a xs)
  (hs:∀(i:Nat)x σ H,xs.reverse[i]?=some x->Pv i σ H->g x σ H fun σ2 H2=>tb {D with nx:=Pv (i+1),ct:=Pv (i+1),bk:=D.nx} σ2 H2) (hd:∀σ H,Pv xs.length σ H->D.nx σ H):mM (Itv K a xs.length) g tb D σ H:=by
 refine ⟨fun i m σ H=>m=xs.length-i/\i<=xs.length/\Pv i σ H,⟨xs.length,by simp,cc _,h0⟩,?_⟩;rintro i m σ H ⟨rfl,hi,p⟩;have q:=hl i σ H hi p
 by_cases hlt:i<xs.length
 ·refine .inr ⟨⟨xs,q,rfl,hlt⟩,Pv (i+1),fun σ' H' p'=>⟨xs.length-(i+1),by omega,rfl,hlt,p'⟩,fun x H' y=>?_⟩;obtain ⟨eH,y⟩:=y;subst eH;exact hs i x σ H' (y xs q) p
 ·have e:i=xs.length:=by omega
  subst e;exact .inl ⟨zq0 _,hd σ H p⟩
end
end L2
namespace L2
section
variable {prog:Program} {w:World} {A:Around} {E:Value->Shared->Prop} {s:Shared}
end
end L2
namespace L2
section
variable {X:Cx}
theorem w5:MtM X "dict.copy" Cc:=by
 intro pins s σ H x vs v us Q I rx rv h;obtain ⟨l,kvs,rfl,rfl,hH,q⟩:=h
 cases rx
 have hus:=rv.zero;subst hus;obtain ⟨z,hd,ws,rel,dd⟩:=gS I.hok hH;refine call_meetsIn PySem.F.slot_dict_copy dd.typeIs PySem.F.entry_dict_copy (PySem.F.args_dict_copy_1 _) (meets_dict_copy (bg X.prog X.w) l hd) ⟨ws,dd,by rw [<- rel.length];exact z,fun h' dn _ hk=>?_⟩;exact ⟨.ref s.heap.objs.size,_,I.laid (t':=s.toks) hk (zq0 _) (vx z (Ap I) rel dn),rfl,q _ (I.hok.fresh (zq0 _))⟩
end
end L2
namespace L2
theorem zX{td ty tx:TE}{σ:St}{H:Hp}{Q:VK}:xU td ty tx σ H Q=td σ H fun x H1=>∃a,x=.ref a/\IsD H1 a/\ty σ H1 fun y H2=>tx σ H2 fun z H3=>∃o,DGet H3 a y o/\Q (o.getD z) H3:=rfl
end L2
namespace L2
variable {X:Cx} {a b c e i iter o:Expr} {apos cpos p pos':Pos} {es:List Expr} {f:Addr} {ps:List Str} {qual x:Str} {sp:Sp} {tA:TT} {ta te to:TE} {wi:TI}
structure XE(X:Cx)(e:Expr)(t:TE):Prop where
 h:PE X e t
structure XT(X:Cx)(e:Expr)(t:TT):Prop where
 h:PT X e t
structure XW(X:Cx)(e:Expr)(t:TT):Prop where
 h:PW X e t
structure XA(X:Cx)(es:List Expr)(t:TA):Prop where
 h:PA X es t
structure XS(X:Cx)(st:Stmt)(t:TS):Prop where
 h:PS X st t
structure XSs(X:Cx)(st:List Stmt)(t:TS):Prop where
 h:PSs X st t
structure XG(X:Cx)(target:Expr)(t:TG):Prop where
 h:PG X target t
structure XGs(X:Cx)(ts:List Expr)(t:TGs):Prop where
 h:PGs X ts t
structure XI(X:Cx)(tg iter:Expr)(wi:TI):Prop where
 h:PI X tg iter wi
structure XO(X:Cx)(e:Option Expr)(t:TO):Prop where
 h:PO X e t
structure XC(X:Cx)(op:CmpOp)(a b:Expr)(t:TE):Prop where
 h:PC X op a b t
structure vh(X:Cx)(ifs:List Expr)(t:TT):Prop where
 h:tH X ifs t
theorem ac{i j pos}:XE X (.Constant (.int i) j pos) (tC (.int i)):=⟨wO⟩
theorem c6{b j pos}:XE X (.Constant (.bool b) j pos) (tC (.bl b)):=⟨AT⟩
theorem fY{j pos}:XE X (.Constant .none j pos) (tC .non):=⟨wU⟩
theorem aE{x j pos}:XE X (.Constant (.str x) j pos) (tC (.str x)):=⟨wV⟩
theorem am{tb:TE}{pos:Pos}{op:Operator}{r:R2}(ho:OpR X (binaryOp op) r)(ha:XE X a ta)(hb:XE X b tb):XE X (.BinOp a op b pos) (tOp r ta tb):=⟨by intro pins s σ H Q I h;exact wpAny_BinOp (Bo ha.h hb.h I h fun v u s2 x y H2 I2 rx ry q=>ho pins s2 σ H2 x y v u Q I2 rx ry q)⟩
theorem gG{pos:Pos}{op:UnaryOp}{r:V->Hp->VK->Prop}(ho:UnR X (unaryOp op) r)(ha:XE X a ta):XE X (.UnaryOp op a pos) (tUn r ta):=⟨by intro pins s σ H Q I h;exact UnaryOp_ (thn (ha.h pins s σ H _ I h) fun v s1 ⟨x,H1,I1,r1,q1⟩=>ho pins s1 σ H1 x v Q I1 r1 q1)⟩
theorem aR{tb:TE}{pos:Pos}{op:CmpOp}{r:R2}(ho:OpR X (compareOp op) r)(ha:XE X a ta)(hb:XE X b tb)(hm:behindInMarks op b=false):XE X (.Compare a [op] [b] pos) (tOp r ta tb):=⟨by intro pins s σ H Q I h;exact wpAny_Compare1 (Bo ha.h hb.h I h fun v u s2 x y H2 I2 rx ry q=>ho pins s2 σ H2 x y v u Q I2 rx ry q) hm⟩
theorem cq{b:Expr}{tb:TE}{pos:Pos}{fD:List Expr}(ha:XE X a ta)(hb:XE X (.BoolOp .And (b::fD) pos) tb):XE X (.BoolOp .And (a::b::fD) pos) (B4 ta tb):=⟨by
 intro pins s σ H Q I h;refine BoolOp_and (thn (ha.h pins s σ H _ I h) fun v s1 hhx=>?_);obtain ⟨x,H1,I1,r1,q1⟩:=hhx;obtain ⟨c,rfl,q1⟩:=q1
 cases r1
 refine wpAny_truthy_bool ?_
 cases c with
 |true=>exact hb.h pins s1 σ H1 Q I1 q1
 |false=>exact ⟨.bl false,H1,I1,rfl,q1⟩⟩
theorem Di{b:Expr}{tb:TE}{pos:Pos}{fD:List Expr}(ha:XE X a ta)(hb:XE X (.BoolOp .Or (b::fD) pos) tb):XE X (.BoolOp .Or (a::b::fD) pos) (FF ta tb):=⟨by
 intro pins s σ H Q I h;refine BoolOp_or (thn (ha.h pins s σ H _ I h) fun v s1 hhx=>?_);obtain ⟨x,H1,I1,r1,q1⟩:=hhx;obtain ⟨c,rfl,q1⟩:=q1
 cases r1
 refine wpAny_truthy_bool ?_
 cases c with
 |false=>exact hb.h pins s1 σ H1 Q I1 q1
 |true=>exact ⟨.bl true,H1,I1,rfl,q1⟩⟩
theorem cZ{pos:Pos}{op}{t:TE}(h:XE X a t):XE X (.BoolOp op [a] pos) t:=⟨fun pins s σ H Q I hw=>BoolOp_one (h.h pins s σ H Q I hw)⟩
theorem Ay{pos:Pos}(ha:XE X a ta):XE X (.UnaryOp .Not a pos) (B8 ta):=⟨by
 intro pins s σ H Q I h;refine UnaryOp_ (thn (ha.h pins s σ H _ I h) fun v s1 hhx=>?_);obtain ⟨x,H1,I1,r1,q1⟩:=hhx;obtain ⟨c,rfl,q1⟩:=q1
 cases r1
 exact not_of (wpAny_truthy_bool ⟨.bl (!c),H1,I1,rfl,q1⟩)⟩
theorem iG{tb:TE}{pos:Pos}(hc:XT X c tA)(ha:XE X a ta)(hb:XE X b tb):XE X (.IfExp c a b pos) (tIf tA ta tb):=⟨by
 intro pins s σ H Q I h;refine wpAny_IfExp (thn (hc.h pins s σ H _ I h) fun d s1 hhx=>?_);obtain ⟨H1,I1,q1⟩:=hhx
 cases d with
 |true=>exact ha.h pins s1 σ H1 Q I1 q1
 |false=>exact hb.h pins s1 σ H1 Q I1 q1⟩
theorem aQ{t:TA}{pos:Pos}(h:XA X es t):XE X (.List es pos) (FC t):=⟨by intro pins s σ H Q I hq;refine wpAny_List_spliced (thn (h.h pos pins s σ H _ I hq) fun us s1 ⟨xs,H1,I1,r,z,q⟩=>⟨by rw [<- r.length];exact z,?_⟩);have hf:H1 s1.heap.objs.size=none:=I1.hok.fresh (zq0 _);refine ⟨.ref s1.heap.objs.size,upd H1 s1.heap.objs.size (.lst xs),I1.laid (t':=s1.toks) (fun b u e=>c9 _ e) (zq0 _) ?_,rfl,q _ hf⟩;exact ⟨z,us,0,r,d8 _ rfl⟩⟩
theorem aN{t:TA}{pos:Pos}{x1}(h:XA X es t):XE X (.Tuple es x1 pos) (FH t):=⟨by intro pins s σ H Q I hq;refine wpAny_Tuple_spliced (thn (h.h pos pins s σ H _ I hq) fun us s1 ⟨xs,H1,I1,r,z,q⟩=>⟨by rw [<- r.length];exact z,?_⟩);have hf:H1 s1.heap.objs.size=none:=I1.hok.fresh (zq0 _);refine ⟨.ref s1.heap.objs.size,upd H1 s1.heap.objs.size (.tup xs),I1.laid (t':=s1.toks) (fun b u e=>c9 _ e) (zq0 _) ?_,rfl,q _ hf⟩;exact ⟨z,us,r,⟨_,d8 _ rfl,rfl,_,rfl⟩⟩⟩
theorem lE{pos:Pos}:XE X (.Dict [] [] pos) xV:=⟨fun pins s σ H Q I h=>wpAny_Dict_empty ⟨.ref s.heap.objs.size,_,I.laid (a:=s.heap.objs.size) (o:=.dK []) (t':=s.toks) (fun _ _ q=>c9 _ q) (zq0 _) (vw s.heap I.big),rfl,h _ (I.hok.fresh (zq0 _))⟩⟩
theorem aw{pos:Pos}{e:Expr}{t:TA}{id:String}{r:List V->Hp->VK->Prop}(hc:dM X (.builtin id) r)(hg:Gl X x)(hm:X.mg x=none)(hv:bootBuiltins x=some (.builtin id))(ha:XA X (e::es) t)(hn:(x==("__name__":Str))=false:=by kernel_rfl) (hdb:(x==("__debug__":Str))=false:=by kernel_rfl) (he:starEach (e::es) X.env=(false,eval e X.env)::starEach es X.env:=by rfl) (hpl:(backTo pos (starEach es X.env)).any (·.1)=false:=by rfl):XE X (.Call (.Name x p) (e::es) [] pos) (tCB r t):=⟨wK hc hg hm hv ha.h (m7 hn) hdb he hpl⟩
theorem bw{pos:Pos}{e:Expr}{t:TA}{T:String}{r:List V->Hp->VK->Prop}(hc:dM X (.type T) r)(hg:Gl X x)(hm:X.mg x=none)(hv:bootBuiltins x=some (.type T))(ha:XA X (e::es) t)(hn:(x==("__name__":Str))=false:=by kernel_rfl) (hdb:(x==("__debug__":Str))=false:=by kernel_rfl) (he:starEach (e::es) X.env=(false,eval e X.env)::starEach es X.env:=by rfl) (hpl:(backTo pos (starEach es X.env)).any (·.1)=false:=by rfl):XE X (.Call (.Name x p) (e::es) [] pos) (tCB r t):=⟨uw hc hg hm hv ha.h (m7 hn) hdb he hpl⟩
theorem ap{k:Nat}{fd:FuncData}{st:Stmt}{pos:Pos}{e:Expr}{t:TA}(D:b8 X.K X.mg x st ps f fd)(G:FnOk X.prog X.w X.K X.mg X.base CX0 k f fd ps sp)(hr:Room k X.A)(ha:XA X (e::es) t)(hg:Gl X x)(hdb:(x==("__debug__":Str))=false:=by kernel_rfl) (he:starEach (e::es) X.env=(false,eval e X.env)::starEach es X.env:=by rfl) (hpl:(backTo pos (starEach es X.env)).any (·.1)=false:=by rfl):XE X (.Call (.Name x p) (e::es) [] pos) (pC sp [] E0 t):=⟨wZ D G hr ha.h hg hdb he hpl⟩
theorem cx{e:Expr}{t:TA}{name:Str}{T id:String}{r:V->List V->Hp->VK->Prop}(pa:PlainAttrs T)(slot:Slot T name id)(hty:typeOf (.builtin id)=pure (.type "method_descriptor")) (hm:MtR X id r) (ho:XE X o to) (ha:XA X (e::es) t) (hbase:attributeBase o name X.env (eval o X.env)=eval o X.env:=by rfl) (hfew:((backTo cpos (starEach (e::es) X.env)).all (fun x=>!x.1)&&(backToKw cpos (keywordEach [] X.env)).all (fun x=>x.1.isSome)
 && decide ((e::es).length+([]:List Keyword).length+(if ([]:List Keyword).isEmpty then 0 else 1)<30))=true:=by rfl) (hline:(apos.endLine==cpos.line)=true:=by rfl) (hs:starEach (e::es) X.env=(false,eval e X.env)::starEach es X.env:=by rfl) (hplain:(backTo cpos (starEach es X.env)).any (·.1)=false:=by rfl):XE X (.Call (.Attribute o name apos) (e::es) [] cpos) (tBM X.K T r to t):=⟨DO pa slot hty hm ho.h ha.h hbase hfew hline hs hplain⟩
theorem Ax{name:Str}{T id:String}{r:V->List V->Hp->VK->Prop}(pa:PlainAttrs T)(slot:Slot T name id)(hty:typeOf (.builtin id)=pure (.type "method_descriptor")) (hm:MtR X id r) (ho:XE X o to) (hbase:attributeBase o name X.env (eval o X.env)=eval o X.env:=by rfl) (hline:(apos.endLine==cpos.line)=true:=by rfl):XE X (.Call (.Attribute o name apos) [] [] cpos) (Fy X.K T r to):=⟨by intro pins s σ H Q I h;refine wpAny_Call_method0_late hbase hline (thn (ho.h pins s σ H _ I h) fun v s1 hhx=>?_);obtain ⟨x,H1,I1,r1,ty,q1⟩:=hhx;obtain ⟨h1,h2⟩:=qK I1 r1 ty;exact ⟨T,id,pa,slot,hty,h1,h2,Calls.callWith_builtin rfl (PySem.evalArgs_none (hm pins s1 σ H1 x [] v [] Q I1 r1 .nil q1))⟩⟩
theorem bq{lo hi:Option Expr}{tl th:TO}{pos p2:Pos}{r:V->Option Int->Option Int->Hp->VK->Prop}(hr:SlR X r)(he:XE X e te)(hl:XO X lo tl)(hu:XO X hi th):XE X (.Subscript e (.Slice lo hi none p2) pos) (tSl r te tl th):=⟨by intro pins s σ H Q I h;refine Subscript_ (thn (he.h pins s σ H _ I h) fun v s1 hhx=>?_);obtain ⟨x,H1,I1,r1,q1⟩:=hhx;refine wpAny_Slice (thn (hl.h pins s1 σ H1 _ I1 q1) fun vl s2 ⟨l,H2,I2,pl,q2⟩=>thn (hu.h pins s2 σ H2 _ I2 q2) fun vu s3 hhx=>?_);obtain ⟨u,H3,I3,pu,q3⟩:=hhx;rw [evalPart_none];refine wpAny_pure ?_;have I4:Inv X pins σ H3 {s3 with heap:=s3.heap.push {cls:=.type "slice",data:=.fields #[vl,vu,.none]}}:=I3.kept (t':=s3.toks) fun b ob q=>c9 _ q;obtain ⟨T,id,hT,ht,hg⟩:=hr pins {s3 with heap:=s3.heap.push {cls:=.type "slice",data:=.fields #[vl,vu,.none]}} σ H3 x v vl vu l u s3.heap.objs.size Q I4 r1 (Heap.IsSliceOf.new ..) pl pu q3;show wpAny (model X.prog X.w) X.A (subscriptTail e (.Slice lo hi none p2) v (.ref s3.heap.objs.size)) (EP X pins σ Q) X.xe {s3 with heap:=s3.heap.push {cls:=.type "slice",data:=.fields #[vl,vu,.none]}};exact tail_any (ops:=[.ref s3.heap.objs.size,v]) ht hT hg (by with_unfolding_all rfl)⟩
theorem fI{pos:Pos}{td ty:TE}(hu:X.A.units+1<cLine)(ho:XE X o td)(hi:XE X i ty)(hs:Dn i):XE X (.Subscript o i pos) (B5 td ty):=⟨by intro pins s σ H Q I h;refine Ao PySem.F.slot_dict_getitem.lookup hs (thn (ho.h pins s σ H _ I h) fun u s1 ⟨x,H1,I1,rx,q1⟩=>thn (hi.h pins s1 σ H1 _ I1 q1) fun iv s2 hhx=>?_);obtain ⟨y,H2,I2,ry,a,v,ex,g,q2⟩:=hhx;subst ex;obtain rfl:u=Value.ref a:=rx;exact ⟨nN I2 g,tO hu I2 g ry fun w' s3 I3 rw'=>⟨v,H2,I3,rw',q2⟩⟩⟩
theorem uV{f:Expr}{td ty tx:TE}(hu:X.A.units+1<cLine)(ho:XE X o td)(he:XE X e ty)(hf:XE X f tx)(m:M2 X o "get" apos e f cpos):XE X (.Call (.Attribute o "get" apos) [e,f] [] cpos) (xU td ty tx):=⟨by
 intro pins s σ H Q I h;refine wpAny_Call_method m.base m.few m.line PySem.F.plainAttrs_dict PySem.F.slot_dict_get PySem.F.type_dict_get (thn (ho.h pins s σ H _ I h) fun u s1 hhx=>?_);obtain ⟨x,H1,I1,rx,a,ex,d,q1⟩:=hhx;subst ex;obtain rfl:u=Value.ref a:=rx;obtain ⟨t1,t2,_⟩:=vM I1 d;refine ⟨t1,t2,?_⟩;rw [m.trees];refine Calls.callWith_builtin rfl (Calls.evalArgs_plain (Calls.spliced_cons (thn (he.h pins s1 σ H1 _ I1 q1) fun iv s2 ⟨y,H2,I2,ry,q2⟩=>Calls.spliced_cons (thn (hf.h pins s2 σ H2 _ I2 q2) fun fv s3 ⟨z,H3,I3,rz,ov,g,q3⟩=>Calls.spliced_nil ?_))))
 exact Bv hu I3 g ry rz fun w' s4 I4 rw'=>⟨_,H3,I4,rw',q3⟩⟩
theorem ak{tb:TE}{pos:Pos}{r:R2}(hr:IxR X r)(ha:XE X a ta)(hb:XE X b tb)(hs:z7 b:=by intro _ _;rfl):XE X (.Subscript a b pos) (tOp r ta tb):=⟨by intro pins s σ H Q I h;exact Subscript_ (Bo ha.h hb.h I h fun v u s2 x y H2 I2 rx ry q=>hr a b pins s2 σ H2 x y v u Q I2 rx ry q (hs _ _))⟩
theorem cH{f:Str}{pos:Pos}(he:XE X e ta)(hb:attributeBase e f X.env (eval e X.env)=eval e X.env):XE X (.Attribute e f pos) (Fz X.K ta f):=⟨by intro pins s σ H Q I h;refine zc hb (thn (he.h pins s σ H _ I h) fun u s1 hhx=>?_);obtain ⟨x,H1,I1,rx,a,C,dx,fs,v,ex,ea,c,n,l,q⟩:=hhx;subst ex;obtain rfl:u=Value.ref a:=rx;exact qa I1 ea c n l fun u' s2 I2 ru=>⟨v,H1,I2,ru,q⟩⟩
theorem bu{elt tgt:Expr}{ifs:List Expr}{pos:Pos}{scope:Scope}{g:Bk->TG}{tt:Bk->TT}{te:Bk->TE}{tns cns:List Str}{ci:List Nat}(hc:X.calm=true)(S:CompSc X scope cns ci)(hi:XI X tgt iter wi)(hg:∀bk:Bk,XG (X.blk (".0"::(tns++cns)) scope bk) tgt (g bk)) (ht:∀bk:Bk,vh (X.blk (".0"::(tns++cns)) scope bk) ifs (tt bk)) (he:∀bk:Bk,XE (X.blk (".0"::(tns++cns)) scope bk) elt (te bk)) (hs:∀v,foldedSetIterable iter X.env v=pure v:=by intro _;rfl):XE X (.ListComp elt [⟨tgt,iter,ifs,0⟩] scope pos) (jU wi g tt te tns.length ci):=⟨wM hc S hi.h (fun bk=>(hg bk).h) (fun bk=>(ht bk).h) (fun bk=>(he bk).h) hs⟩
theorem bS{v:V}{u:Value}{pos:Pos}(hg:Gl X x)(hm:X.mg x=none)(hv:bootBuiltins x=some u)(r:RelV v u)(hn:(x==("__name__":Str))=false:=by kernel_rfl) (hd:(x==("__debug__":Str))=false:=by kernel_rfl):XE X (.Name x pos) (tC v):=⟨zM hg hm hv r (m7 hn) hd⟩
theorem yk{v:V}{u:Value}{pos:Pos}(hg:Gl X x)(hm:X.mg x=some u)(r:RelV v u)(hd:(x==("__debug__":Str))=false:=by kernel_rfl):XE X (.Name x pos) (tC v):=⟨zO hg hm r hd⟩
theorem ar{tb:TE}{pos:Pos}{op:CmpOp}{r:R2}(ho:OpR X (compareOp op) r)(ha:XE X a ta)(hb:XE X b tb)(hm:behindInMarks op b=false):XT X (.Compare a [op] [b] pos) (Ba (tOp r ta tb)):=⟨by
 intro pins s σ H Q I h;refine wpAny_isTrue_Compare1 (thn (ha.h pins s σ H _ I h) fun v s1 ⟨x,H1,I1,r1,q1⟩=>thn (hb.h pins s1 σ H1 _ I1 q1) fun u s2 ⟨y,H2,I2,r2,q2⟩=>thn (ho pins s2 σ H2 x y v u _ I2 r1 r2 q2) fun c s3 ⟨z,H3,I3,r3,k,e,q3⟩=>?_) hm
 subst e
 cases r3
 exact wpAny_truthy_bool ⟨H3,I3,q3⟩⟩
theorem bi{t:TE}(h:XE X e t)(he:∀whole,isTrue e X.env whole=(do let v <- whole;standAt e.pos;holding [v] (truthy v)):=by intro _;rfl):XT X e (tB t):=⟨by
 intro pins s σ H Q I hw;refine isTrue_plain (thn (h.h pins s σ H _ I hw) fun v s1 hhx=>?_) (he _);obtain ⟨x,H1,I1,r1,q1⟩:=hhx;obtain ⟨d,rfl,q⟩:=q1
 cases r1
 exact wpAny_truthy_bool ⟨H1,I1,q⟩⟩
theorem bR{pos:Pos}(ha:XT X a tA):XT X (.UnaryOp .Not a pos) (FE tA):=⟨by intro pins s σ H Q I h;exact isTrue_not (ha.h pins s σ H (fun c H1=>Q (!c) H1) I h)⟩
theorem AB{pos:Pos}{op:CmpOp}{t:TE}(h:XC X op a b t)(h1:behindInMarks op b=false:=by first | exact w6 _ (by decide) (by decide) | rfl):XT X (.Compare a [op] [b] pos) (tB t):=⟨by
 intro pins s σ H Q I hw;refine wpAny_isTrue_Compare1 (thn (h.h pins s σ H _ I hw) fun v s1 h1=>thn h1 fun u s2 h2=>thn h2 fun c s3 hhx=>?_) h1;obtain ⟨x,H1,I1,r1,q1⟩:=hhx;obtain ⟨d,rfl,q⟩:=q1
 cases r1
 exact wpAny_truthy_bool ⟨H1,I1,q⟩⟩
theorem bU{t:TT}(h:XW X e t):XT X e t:=⟨PW.pt h.h⟩
theorem dR{b:Expr}{pos:Pos}{tB':TT}{fD:List Expr}(ha:XT X a tA)(hb:XW X (.BoolOp .And (b::fD) pos) tB'):XW X (.BoolOp .And (a::b::fD) pos) (Fx tA tB'):=⟨by
 intro wh pins s σ H Q I h;refine isTrue_and (thn (ha.h pins s σ H _ I h) fun c s1 hhx=>?_);obtain ⟨H1,I1,q1⟩:=hhx
 cases c with
 |true=>exact hb.h wh pins s1 σ H1 Q I1 q1
 |false=>exact ⟨H1,I1,q1⟩⟩
theorem d7{pos:Pos}(ha:XT X a tA):XW X (.BoolOp .And [a] pos) tA:=⟨by
 intro wh pins s σ H Q I h;refine isTrue_and (thn (ha.h pins s σ H Q I h) fun c s1 e=>?_)
 cases c with
 |true=>exact isTrue_and_nil e
 |false=>exact e⟩
theorem cj{b:Expr}{pos:Pos}{tB':TT}{fD:List Expr}(ha:XT X a tA)(hb:XW X (.BoolOp .Or (b::fD) pos) tB'):XW X (.BoolOp .Or (a::b::fD) pos) (tOr tA tB'):=⟨by
 intro wh pins s σ H Q I h;refine isTrue_or (thn (ha.h pins s σ H _ I h) fun c s1 hhx=>?_);obtain ⟨H1,I1,q1⟩:=hhx
 cases c with
 |true=>exact ⟨H1,I1,q1⟩
 |false=>exact hb.h wh pins s1 σ H1 Q I1 q1⟩
theorem cB{pos:Pos}(ha:XT X a tA):XW X (.BoolOp .Or [a] pos) tA:=⟨by
 intro wh pins s σ H Q I h;refine isTrue_or (thn (ha.h pins s σ H Q I h) fun c s1 e=>?_)
 cases c with
 |false=>exact isTrue_or_nil e
 |true=>exact e⟩
theorem ae:XA X [] pD:=⟨wJ⟩
theorem aa{e:Expr}{t:TA}(ha:XE X e te)(hr:XA X es t)(hs:starEach (e::es) X.env=(false,eval e X.env)::starEach es X.env:=by rfl):XA X (e::es) (xT te t):=⟨sd ha.h hr.h hs⟩
theorem c7:XO X none sY:=⟨by intro pins s σ H Q I h;rw [evalPart_none];exact wpAny_pure ⟨none,H,I,.none,h⟩⟩
theorem bh(h:XE X e te):XO X (some e) (B9 te):=⟨by intro pins s σ H Q I hw;rw [evalPart_some];refine thn (h.h pins s σ H _ I hw) fun u s1 hhx=>?_;obtain ⟨x,H1,I1,r1,q1⟩:=hhx;obtain ⟨i,rfl,q⟩:=q1;obtain ⟨t,rfl⟩:=r1;exact ⟨some i,H1,I1,.int i t,q⟩⟩
theorem aC{pos:Pos}{i:Nat}(hN:X.N.Nodup)(hi:X.N[i]?=some x)(hx:Loc X.env.scope x)(hf:X.fn x=true\/X.env.scope.names.lookup x=some .local:=by first | exact .inl rfl | exact .inr rfl | assumption):XG X (.Name x pos) (bG i):=⟨sg hN hi hx hf⟩
theorem fZ{pos:Pos}{k:Nat}{t:TGs}{n:Nat}(hc:X.calm=true)(h:XGs X es t)(hn:(assignEach es X.env).length=n:=by rfl)(hst:(assignEach es X.env).findIdx? (·.1)=none:=by rfl):XG X (.Tuple es k pos) (DB X.K n t):=⟨by
 intro pins s σ H v u Q I r hw;obtain ⟨a,xs,e1,hq,hl,hw⟩:=hw;subst e1
 cases r
 obtain ⟨its,rv,ht,hz⟩:=I.tuple hq;refine assign_Tuple_tuple (I.ok.hd hc) ht (by simp [hn,<- hl,rv.length]) hst fun h' hx=>?_;have I1:Inv X pins σ H {s with heap:=h'}:=I.kept (t':=s.toks) fun b o e=>hx b o (cm (zq9 e)) e;exact h.h pins _ σ H xs _ Q I1 (by simpa using rv) hw⟩
theorem eJ:XGs X [] DA:=⟨by
 intro pins s σ H vs us Q I r h;obtain ⟨e,h⟩:=h;subst e
 cases r
 exact assignInOrder_nil ⟨σ,H,I,h⟩⟩
theorem bv{e:Expr}{t:TG}{u:TGs}(h1:XG X e t)(h2:XGs X es u)(hs:(assignEach (e::es) X.env).map (·.2)=assign e X.env::(assignEach es X.env).map (·.2):=by rfl):XGs X (e::es) (AN t u):=⟨by
 intro pins s σ H vs us Q I r h;obtain ⟨v,vr,e1,h⟩:=h;subst e1
 cases r with
 |cons r rr=>rw [hs];refine assignInOrder_cons (thn (h1.h pins s σ H _ _ _ I r h) fun _ s1 hhx=>?_);obtain ⟨σ1,H1,I1,q1⟩:=hhx;exact h2.h pins s1 σ1 H1 _ _ Q I1 rr q1⟩
theorem mD{pos:Pos}{ti:TE}{t:vg}(ho:XE X o to)(hi:XE X i ti)(hs:Bn X t)(ha:∀v,assign (.Subscript o i pos) X.env v=(do
 let ov <- holding [v] (eval o X.env)
 let iv <- holding [v,ov] (eval i X.env)
 standAt pos
 holding [v,ov,iv] (setItem ov iv v)
 release [v,ov,iv] []):=by intro _;rfl):XG X (.Subscript o i pos) (BA to ti t):=⟨C6 ho.h hi.h hs ha⟩
theorem bV{tg:Expr}{ta:TA}{pos:Pos}(hg:Gl X "range") (hm:X.mg "range"=none) (ha:XA X [a] ta) (hs:starEach [a] X.env=[(false,eval a X.env)]:=by rfl):XI X tg (.Call (.Name "range" p) [a] [] pos) (AQ ta):=⟨by
 intro pins s σ H R I h;refine Call_ (dW I hg hm boot_range (PyProof.Rows.callWith_type1 (thn (ha.h pos pins s σ H _ I h) fun us s1 hhx=>?_) hs rfl));obtain ⟨vs,H1,I1,r1,q1⟩:=hhx;obtain ⟨j,e,q1,q2,q⟩:=q1;subst e
 cases r1 with
 |cons r rr=>
  cases rr
  obtain ⟨t,rfl⟩:=r;exact call_range_1 (oE I1 (by omega) (by omega) q1 q2 (by simpa using q))⟩
theorem qP{tg:Expr}{ta:TA}{pos:Pos}(hg:Gl X "range") (hm:X.mg "range"=none) (ha:XA X [a,b] ta) (hs:starEach [a,b] X.env=[(false,eval a X.env),(false,eval b X.env)]:=by rfl) (hs2:starEach [b] X.env=[(false,eval b X.env)]:=by rfl):XI X tg (.Call (.Name "range" p) [a,b] [] pos) (vK ta):=⟨uz hg hm ha.h hs hs2⟩
theorem yj{ta:TA}{pos pos0:Pos}{elts:List Expr}{k0:Nat}(hm:X.mg "enumerate"=none) (ha:XA X [a] ta) (hg:Gl X "enumerate":=by rfl) (hs:starEach [a] X.env=[(false,eval a X.env)]:=by rfl):XI X (.Tuple elts k0 pos0) (.Call (.Name "enumerate" p) [a] [] pos) (vJ X.K ta):=⟨zQ hm ha.h hg hs⟩
theorem aZ{tg:Expr}{l:Expr}{tl:TE}(hl:XE X l tl):XI X tg l (AO X.K tl):=⟨by
 intro pins s σ H R I h;refine thn (hl.h pins s σ H _ I h) fun v s1 hhx=>?_;obtain ⟨x,H1,I1,r1,q1⟩:=hhx;obtain ⟨a,e,⟨xs,hq⟩,q⟩:=q1;subst e
 cases r1
 obtain ⟨its,rv,p,hz⟩:=I1.list hq;refine wpAny_pyIter_list p.isList ?_;refine ⟨s1.heap.objs.size,[s1.heap.objs.size],_,_,H1,rfl,I1.kept (t':=s1.toks) fun b o e=>c9 _ e,uR a _,⟨_,d8 _ rfl,rfl,rfl⟩,fun b hb=>?_,q⟩;have e:b=s1.heap.objs.size:=by simpa using hb
 subst e;exact I1.fpOk (zq0 _) (I1.hok.fresh (zq0 _))⟩
theorem mE{tg:Expr}{l:Expr}{tl:TE}(hl:XE X l tl):XI X tg l (DD X.K tl):=⟨by
 intro pins s σ H R I h;refine thn (hl.h pins s σ H _ I h) fun v s1 hhx=>?_;obtain ⟨x,H1,I1,r1,q1⟩:=hhx;obtain ⟨a,e,⟨xs,hq⟩,q⟩:=q1;subst e
 cases r1
 obtain ⟨its,rv,p,hz⟩:=I1.tuple hq;refine wpAny_pyIter_tuple (show s1.heap.IsTuple a its.toArray from p) ?_;refine ⟨s1.heap.objs.size,[s1.heap.objs.size],_,_,H1,rfl,I1.kept (t':=s1.toks) fun b o e=>c9 _ e,qJ a _,⟨_,d8 _ rfl,rfl,rfl⟩,fun b hb=>?_,q⟩;have e:b=s1.heap.objs.size:=by simpa using hb
 subst e;exact I1.fpOk (zq0 _) (I1.hok.fresh (zq0 _))⟩
theorem ax{pos:Pos}{i:Nat}(hN:X.N.Nodup)(hi:X.N[i]?=some x)(hx:Loc X.env.scope x)(he:XE X e te)(hs:swapsWith e (some (.Name x pos')) pos.line X.env=pure false:=by rfl)(hf:X.fn x=true\/X.env.scope.names.lookup x=some .local:=by first | exact .inl rfl | exact .inr rfl | assumption):XS X (.Assign [.Name x pos'] e pos) (Aq te (bG i)):=⟨Cb hN hi hx he.h hs hf⟩
theorem cQ{i:Nat}{px:Pos}{elt tgt:Expr}{ifs:List Expr}{pos:Pos}{scope:Scope}{g:Bk->TG}{tt:Bk->TT}{te:Bk->TE}{tns cns:List Str}{ci:List Nat}(hN:X.N.Nodup)(hx:X.N[i]?=some x)(hl:Loc X.env.scope x)(hf:X.fn x=true)(hsw:swapsWith (.ListComp elt [⟨tgt,iter,ifs,0⟩] scope pos) (some (.Name x px)) pos'.line X.env=pure true)(hc:X.calm=true)(S:CompSc X scope cns ci)(hi:XI X tgt iter wi)(hg:∀bk:Bk,XG (X.blk (".0"::(tns++cns)) scope bk) tgt (g bk)) (ht:∀bk:Bk,vh (X.blk (".0"::(tns++cns)) scope bk) ifs (tt bk)) (he:∀bk:Bk,XE (X.blk (".0"::(tns++cns)) scope bk) elt (te bk)) (hs:∀v,foldedSetIterable iter X.env v=pure v:=by intro _;rfl):XS X (.Assign [.Name x px] (.ListComp elt [⟨tgt,iter,ifs,0⟩] scope pos) pos') (jO i wi g tt te tns.length ci):=⟨qr hN hx hl hf hsw hc S hi.h (fun bk=>(hg bk).h) (fun bk=>(ht bk).h) (fun bk=>(he bk).h) hs⟩
theorem g6{pos:Pos}{tg:Expr}{g:TG}(he:XE X e te)(hg:XG X tg g)(hs:swapsWithSole [tg] e pos.line X.env=pure false:=by rfl)(hw:swappedStores [tg] e X.env=pure none:=by rfl)(h1:(assignEach [tg] X.env).map (·.2)=[assign tg X.env]:=by rfl):XS X (.Assign [tg] e pos) (Aq te g):=⟨by intro pins s σ H D I h;refine wpAny_Assign_stores (thn (he.h pins s σ H _ I h) fun v s1 hhx=>?_) hs hw;obtain ⟨x,H1,I1,r1,q1⟩:=hhx;rw [h1];exact thn (hg.h pins s1 σ H1 x v _ I1 r1 q1) fun _ s2 q=>q⟩
theorem dQ{value:Expr}{f:Str}{pos:Pos}{tv:TE}(ha:XE X o ta)(hv:XE X value tv)(hs:swapsWith value (some (.Attribute o f pos')) pos.line X.env=pure false):XS X (.Assign [.Attribute o f pos'] value pos) (Es X.K ta tv f):=⟨by intro pins s σ H D I h;refine plainObj_wpAny_Assign_Attribute (thn (hv.h pins s σ H _ I h) fun u s1 ⟨y,H1,I1,ry,q⟩=>thn (ha.h pins s1 σ H1 _ I1 q) fun ov s2 hhx=>?_) hs;obtain ⟨x,H2,I2,rx,a,C,dx,fs,ex,ea,c,n,l,q2⟩:=hhx;subst ex;obtain rfl:ov=Value.ref a:=rx;exact qC I2 ea c n l ry fun s3 I3=>⟨σ,_,I3,q2⟩⟩
theorem eK{value:Expr}{pos:Pos}{td ty tv:TE}(hu:X.A.units+1<cLine)(ho:XE X o td)(hi:XE X i ty)(hv:XE X value tv)(hs:swapsWith value (some (.Subscript o i pos')) pos.line X.env=pure false):XS X (.Assign [.Subscript o i pos'] value pos) (xE td ty tv):=⟨zR hu ho.h hi.h hv.h hs⟩
theorem aq{pos:Pos}(he:XE X e te):XS X (.Return (some e) pos) (xX te):=⟨by intro pins s σ H D I h;exact wpAny_Return_some (thn (he.h pins s σ H _ I h) fun v s1 ⟨x,H1,I1,r1,q1⟩=>⟨x,σ,H1,I1,r1,q1⟩)⟩
theorem bB{pos:Pos}(he:XE X e te)(hs:swapsWith e none pos.line X.env=pure false:=by rfl):XS X (.Expr e pos) (B6 te):=⟨by intro pins s σ H D I h;exact wpAny_Expr_any (thn (he.h pins s σ H _ I h) fun v s1 ⟨x,H1,I1,r1,q1⟩=>⟨σ,H1,I1,q1⟩) I.quiet hs⟩
theorem aF{t u:TS}{pos:Pos}{a b:List Stmt}{tc:TT}(hc:XT X c tc)(ha:XSs X a t)(hb:XSs X b u):XS X (.If c a b pos) (D8 tc t u):=⟨by
 intro pins s σ H D I h;refine wpAny_If (thn (hc.h pins s σ H _ I h) fun d s1 hhx=>?_);obtain ⟨H1,I1,q1⟩:=hhx
 cases d with
 |true=>exact ha.h pins s1 σ H1 D I1 q1
 |false=>exact hb.h pins s1 σ H1 D I1 q1⟩
theorem iH{pos:Pos}{body:List Stmt}{tc:TT}{tb:TS}(hp:PassesOwn (model X.prog X.w) X.A X.env X.xe)(hc:XT X c tc)(hb:XSs X body tb):XS X (.While c body [] pos) (xY tc tb):=⟨by
 intro pins s σ H D I h;obtain ⟨W,⟨m0,w0⟩,turn⟩:=h;refine wpAny_While (codeAny_whileLoop (fun n s'=>∃σ' H',Inv X pins σ' H' s'/\W n σ' H') ?_ m0 ⟨σ,H,I,w0⟩);rintro n s1 ⟨σ1,H1,I1,w1⟩;refine wpAny_passesOwn hp (thn (hc.h pins s1 σ1 H1 _ I1 (turn n σ1 H1 w1)) fun b s2 hhx=>?_);obtain ⟨H2,I2,q2⟩:=hhx
 cases b with
 |true=>
  obtain ⟨N,hN,q2⟩:=q2;rw [if_pos rfl];refine wpAny_passesOwn hp (thn (hb.h pins s2 σ1 H2 _ I2 q2) fun f s3 q3=>?_)
  cases f with
  |next=>
   obtain ⟨σ3,H3,I3,n3⟩:=q3;obtain ⟨m',hm,w3⟩:=hN σ3 H3 n3;exact ⟨m',hm,σ3,H3,I3,w3⟩
  |cont=>
   obtain ⟨σ3,H3,I3,n3⟩:=q3;obtain ⟨m',hm,w3⟩:=hN σ3 H3 n3;exact ⟨m',hm,σ3,H3,I3,w3⟩
  |brk=>exact q3
  |ret v=>exact q3
 |false=>rw [if_neg zq7];exact wpAny_execs_nil ⟨σ1,H2,I2,q2⟩⟩
theorem bF{tg:Expr}{body:List Stmt}{g:TG}{tb:TS}{pos:Pos}(hp:PassesOwn (model X.prog X.w) X.A X.env X.xe)(hc:X.calm=true)(hi:XI X tg iter wi)(hg:XG X tg g)(hb:XSs X body tb)(hs:∀x,foldedSetIterable iter X.env x=pure x:=by intro _;rfl):XS X (.For tg iter body [] pos) (D7 wi g tb):=⟨Ca hp hc hi.h hg.h hb.h hs⟩
theorem aB:XSs X [] B7:=⟨fun _ _ σ H _ I h=>wpAny_execs_nil ⟨σ,H,I,h⟩⟩
theorem aj{st:Stmt}{t:TS}(h1:XS X st t):XSs X [st] t:=⟨by
 intro pins s σ H D I h;refine wpAny_execs_cons (thn (h1.h pins s σ H D I h) fun f s1 q=>?_)
 cases f with
 |next=>exact wpAny_execs_nil q
 |ret v=>exact q
 |brk=>exact q
 |cont=>exact q⟩
theorem ai{st:Stmt}{fD:List Stmt}{t u:TS}(h1:XS X st t)(h2:XSs X fD u):XSs X (st::fD) (Da t u):=⟨by
 intro pins s σ H D I h;refine wpAny_execs_cons (thn (h1.h pins s σ H {D with nx:=u D} I h) fun f s1 q=>?_)
 cases f with
 |next=>
  obtain ⟨σ',H',I',q⟩:=q;exact h2.h pins s1 σ' H' D I' q
 |ret v=>exact q
 |brk=>exact q
 |cont=>exact q⟩
theorem bD{st:Stmt}{ss:List Stmt}{ta tb:TS}(h1:XS X st ta)(h2:XSs X ss tb):XSs X (st::ss) (D9 ta tb):=⟨by
 intro pins s σ H D I h;obtain ⟨Mid,a,b⟩:=h;refine wpAny_execs_cons (thn (h1.h pins s σ H {D with nx:=Mid} I a) fun f s1 q=>?_)
 cases f with
 |next=>
  obtain ⟨σ',H',I',q⟩:=q;exact h2.h pins s1 σ' H' D I' (b σ' H' q)
 |ret v=>exact q
 |brk=>exact q
 |cont=>exact q⟩
theorem cr:vh X [] j2:=⟨fun pins s σ H Q I h=>wpAny_tests_nil ⟨H,I,h⟩⟩
theorem dP{t:TT}(h:XT X c t):vh X [c] t:=⟨fun pins s σ H Q I q=>wpAny_tests_one (h.h pins s σ H Q I q)⟩
theorem qL{td ty:TE}(hu:X.A.units+1<cLine)(hi:XE X i ty)(ho:XE X o td):XC X .NotIn i o (sW ty td):=⟨by intro pins s σ H Q I h;refine thn (hi.h pins s σ H _ I h) fun iv s1 ⟨y,H1,I1,ry,q1⟩=>thn (ho.h pins s1 σ H1 _ I1 q1) fun u s2 hhx=>?_;obtain ⟨x,H2,I2,rx,a,ov,ex,g,q2⟩:=hhx;subst ex;obtain rfl:u=Value.ref a:=rx;exact zh hu I2 g ry fun s3 I3=>⟨.bl (!ov.isSome),H2,I3,rfl,q2⟩⟩
theorem FK{CX:CXT}{k:Nat}{C:Addr}{fd:FuncData}{dvs:List V}{ds:List Value}{E:XK}{m:Str}{pos:Pos}{e:Expr}{t:TA}{pl:Sem Bool}(he:XE X o ta)(c:Cls X.K C)(hm:tG X.K C m f)(F:FnOk X.prog X.w X.K X.mg X.base CX k f fd ps sp)(hr:Room k X.A)(hb:Binds X.K fd ps ds)(hd:Vals dvs ds)(hx:eO CX X E)(ha:XA X (e::es) t)(hst:starEach (e::es) X.env=(false,eval e X.env)::starEach es X.env:=by rfl)(hpl:(backTo pos (starEach es X.env)).any (·.1)=false:=by rfl)(ht:eval (.Call (.Attribute o m apos) (e::es) [] pos) X.env=(do
 let ov <- eval o X.env
 standAt apos.atName
 let (f,first) <- holding [ov] (getMethod ov m pl)
 callWith pos f first (backTo pos (starEach (e::es) X.env)) (backToKw pos (keywordEach [] X.env))):=by rfl):XE X (.Call (.Attribute o m apos) (e::es) [] pos) (i7 C m sp dvs E ta t):=⟨se he.h c hm F hr hb hd hx ha.h hst hpl ht⟩
theorem lF{k:Nat}{C:Addr}{fd:FuncData}{st:Stmt}{pos:Pos}{e:Expr}{t:TA}(c:KlsAt X.K X.mg x C)(D:bH X.K C "__init__" qual st ps f fd) (G:FnOk X.prog X.w X.K X.mg X.base CX0 k f fd ps sp) (hr:Room (k+1) X.A) (ha:XA X (e::es) t) (hg:Gl X x) (hdb:(x==("__debug__":Str))=false:=by kernel_rfl) (he:starEach (e::es) X.env=(false,eval e X.env)::starEach es X.env:=by rfl) (hpl:(backTo pos (starEach es X.env)).any (·.1)=false:=by rfl):XE X (.Call (.Name x p) (e::es) [] pos) (jV C sp [] E0 t):=⟨x3 c D G hr ha.h hg hdb he hpl⟩
theorem qQ{k:Nat}{C:Addr}{fd:FuncData}{st:Stmt}{pos:Pos}(c:KlsAt X.K X.mg x C)(D:bH X.K C "__init__" qual st ps f fd) (G:FnOk X.prog X.w X.K X.mg X.base CX0 k f fd ps sp) (hr:Room (k+1) X.A) (hg:Gl X x) (hdb:(x==("__debug__":Str))=false:=by kernel_rfl):XE X (.Call (.Name x p) [] [] pos) (jV C sp [] E0 pD):=⟨wQ (c.make D) G hr hg c.M D.B .nil oA hdb⟩
theorem aX{k:Nat}{C:Addr}{fd:FuncData}{m:Str}{st:Stmt}{pos:Pos}{e:Expr}{t:TA}{pl:Sem Bool}(c:Cls X.K C)(D:bH X.K C m qual st ps f fd)(G:FnOk X.prog X.w X.K X.mg X.base CX0 k f fd ps sp)(hr:Room k X.A)(he:XE X o ta)(ha:XA X (e::es) t)(hst:starEach (e::es) X.env=(false,eval e X.env)::starEach es X.env:=by rfl)(hpl:(backTo pos (starEach es X.env)).any (·.1)=false:=by rfl)(ht:eval (.Call (.Attribute o m apos) (e::es) [] pos) X.env=(do
 let ov <- eval o X.env
 standAt apos.atName
 let (f,first) <- holding [ov] (getMethod ov m pl)
 callWith pos f first (backTo pos (starEach (e::es) X.env)) (backToKw pos (keywordEach [] X.env))):=by rfl):XE X (.Call (.Attribute o m apos) (e::es) [] pos) (i7 C m sp [] E0 ta t):=⟨x4 c D G hr he.h ha.h hst hpl ht⟩
theorem jX{k:Nat}{C:Addr}{fd:FuncData}{m:Str}{st:Stmt}{pos:Pos}{pl:Sem Bool}(c:Cls X.K C)(D:bH X.K C m qual st ps f fd)(G:FnOk X.prog X.w X.K X.mg X.base CX0 k f fd ps sp)(hr:Room k X.A)(he:XE X o ta)(ht:eval (.Call (.Attribute o m apos) [] [] pos) X.env=(do
 let ov <- eval o X.env
 standAt apos.atName
 let (f,first) <- holding [ov] (getMethod ov m pl)
 callWith pos f first (backTo pos (starEach [] X.env)) (backToKw pos (keywordEach [] X.env))):=by rfl):XE X (.Call (.Attribute o m apos) [] [] pos) (i7 C m sp [] E0 ta pD):=⟨uB c D G hr he.h ht⟩
theorem cW{vs:List V}(h:j4 es=some vs):XA X es (tVs vs):=⟨oz h⟩
end L2
namespace L2
theorem Az  {X:Cx} {tg a:Expr} {ta:TA} {p pos:Pos} (hm:X.mg "reversed"=none) (ha:XA X [a] ta) (hg:Gl X "reversed":=by rfl) (hs:starEach [a] X.env=[(false,eval a X.env)]:=by rfl):XI X tg (.Call (.Name "reversed" p) [a] [] pos) (BE X.K ta):=⟨C7 hm ha.h hg hs⟩
end L2
namespace L2
section
variable {X:Cx}
noncomputable def zg(x:V)(xs:List V):Nat:=xs.countP fun y=>eqV y x
noncomputable def x5(K:W.Frag):V->List V->Hp->VK->Prop:=fun x vs H Q=>∃l xs y,x=.ref l/\vs=[y]/\SqL K H l xs/\bz y=true/\xs.all bz=true/\Q (.int (zg y xs)) H
theorem kH{x:V}:∀{xs:List V} {us:List Value},Vals xs us->xs.all bz=true->us.countP (eqU x)=xs.countP fun y=>eqV y x
 |_,_,.nil,_=>rfl
 |x'::xs,_,.cons h t,f=>by rw [qR,dc] at f;rw [yy,yy,kH t f.2,q9 h f.1]
theorem vZ:MtM X "list.count" (x5 X.K):=by
 intro pins s σ H x vs v us Q I rx rv h;obtain ⟨l,xs,y,rfl,rfl,hq,fy,fx,q⟩:=h
 cases rx
 obtain ⟨u,rfl,ru⟩:=rv.one;obtain ⟨its,r,pl,_⟩:=I.list hq;obtain ⟨o,n,e,c,hd,hdt⟩:=id pl;obtain ⟨oc,od,odt,osl⟩:=o;simp only at c hd hdt;subst c hd hdt;refine call_meets F.slot_list_count ⟨_,e,rfl⟩ F.entry_list_count (F.args_list_count_2 _ _) (SeqAt.list_countAt l its.toArray n none osl u (eqU y)) ⟨e,fun z hz=>eC ru fy r fx z (by simpa using hz),?_⟩;rw [show its.toArray.toList=its from rfl,kH r fx];exact ⟨.int _,H,I.tok _,⟨_,rfl⟩,q⟩
theorem ua{acc:Array Value}{n:Nat}(h:ItemsOf (fun i v=>∃t,v=Value.int (0+(i:Int) * 1) t) acc n):Vals ((List.range n).map fun i:Nat=>V.int i) acc.toList:=by
 obtain ⟨h1,h2⟩:=h;subst h1;rw [<- Array.length_toList];have g:∀(l:List Value)(k:Nat),(∀(i:Nat)v,l[i]?=some v->∃t,v=Value.int ((k+i:Nat):Int) t)->Vals ((List.range' k l.length).map fun i:Nat=>V.int i) l:=by
  intro l
  induction l with
  |nil=>intro k _;exact .nil
  |cons a l ih=>
   intro k hl;refine .cons ?_ (ih (k+1) fun i v hv=>?_)
   ·obtain ⟨t,e⟩:=hl 0 a rfl;exact ⟨t,e⟩
   ·obtain ⟨t,e⟩:=hl (i+1) v hv;exact ⟨t,by rw [e];congr 1;omega⟩
 have z:=g acc.toList 0 fun i v hv=>by obtain ⟨t,e⟩:=h2 i v (by rw [<- hv,Array.getElem?_toList]);exact ⟨t,by rw [e];congr 1;omega⟩
 rw [List.range_eq_range'];exact z
end
noncomputable def BH(pr:Params):Key->Int
 | .inl k=>hashInt k
 | .inr x=>if x.cps.isEmpty=true then 0 else reduceHash (pr.strHash x.cps)
noncomputable def mL(K:W.Frag)(pr:Params)(a:Addr)(kvs:List (Key×V)):Prop:=∃(es:List DictEntry)(ep:Nat),K.lookup a=some ⟨.type "dict",none,.dict es.toArray ep,#[]⟩/\(a==sysModules)=false/\(kvs.map (·.1)).Nodup/\Paired (fun (kv:Key×V) (e:DictEntry)=>iP kv.1 e.key=true/\e.hash=BH pr kv.1/\RelV kv.2 e.val) kvs es
theorem iO{P:Program}{w:World}:∀{kvs:List (Key×V)} {es:List DictEntry},Paired (fun (kv:Key×V) (e:DictEntry)=>iP kv.1 e.key=true/\e.hash=BH w.params kv.1/\RelV kv.2 e.val) kvs es->
  ∃vs:List (Key×Value),KV kvs vs/\Pairs (bg P w) es vs/\∀e∈es,∃k,(bg P w).is k e.key=true/\e.hash=(bg P w).hash k
 |_,_,.nil=>⟨[],.nil,.nil,by simp⟩
 |kv::kvs,e::es,.cons h t=>by
  obtain ⟨vs,r,p,q⟩:=iO (P:=P) t;obtain ⟨h1,h2,h3⟩:=h;refine ⟨(kv.1,e.val)::vs,.cons ⟨rfl,h3⟩ r,.cons h1 rfl p,fun e' he=>?_⟩;rcases zq6.mp he with z | z
  ·subst z;refine ⟨kv.1,h1,h2.trans ?_⟩;obtain ⟨k,v⟩:=kv
   cases k<;>rfl
  ·exact q e' z
theorem nM{X:Cx}{pins:List (Addr×Obj)}{σ:St}{H:Hp}{s:Shared}{a:Addr}{kvs:List (Key×V)}{pr:Params}(hw:pr=X.w.params)(I:Inv X pins σ H s)(D:mL X.K pr a kvs):(a==sysModules)=false/\∃vs,KV kvs vs/\s.heap.DictOf (bg X.prog X.w) a vs:=by subst hw;obtain ⟨es,ep,hk,hd,nd,pr⟩:=D;obtain ⟨vs,r,p,q⟩:=iO (P:=X.prog) pr;refine ⟨hd,vs,r,_,es.toArray,ep,I.kIn a _ hk,⟨rfl,rfl,rfl⟩,rfl,fun e he=>q e (by simpa using he),p,?_⟩;rw [<- r.keys];exact nd
noncomputable def qF(kvs:List (Key×V))(ty:TE):TE:=fun σ H Q=>ty σ H fun y H1=>∃k,y=kV k/\Q ((bA kvs k).getD .non) H1
section
variable {X:Cx} {e:Expr} {x:Str} {p apos cpos:Pos} {ty:TE} {a:Addr} {kvs:List (Key×V)} {pr:Params}
theorem x2(hw:pr=X.w.params)(D:mL X.K pr a kvs)(hm:X.mg x=some (.ref a))(hg:Gl X x)(he:PE X e ty)(m:M1 X (.Name x p) "get" apos e cpos) (hdb:(x==("__debug__":Str))=false:=by kernel_rfl) :
  PE X (.Call (.Attribute (.Name x p) "get" apos) [e] [] cpos) (qF kvs ty):=by
 intro pins s σ H Q I h;refine wpAny_Call_method m.base m.few m.line PySem.F.plainAttrs_dict PySem.F.slot_dict_get PySem.F.type_dict_get (gX I hg hm ?_ hdb);obtain ⟨hd,vs,rel,dd⟩:=nM hw I D;refine ⟨dd.typeIs,fun b q=>?_,?_⟩
 ·cases q
  obtain ⟨ob,_,_,h1,h2,_⟩:=dd;exact ⟨ob,h1,h2.2.1⟩
 rw [m.trees];refine Calls.callWith_builtin rfl (Calls.evalArgs_plain (Calls.spliced_cons (thn (he pins s σ H _ I h) fun iv s2 ⟨y,H2,I2,ry,k,ek,q2⟩=>Calls.spliced_nil ?_)));subst ek;obtain ⟨hd,vs,rel,dd⟩:=nM hw I2 D;refine call_meetsIn PySem.F.slot_dict_get dd.typeIs PySem.F.entry_dict_get (PySem.F.args_dict_get_2 _ _) (meets_dict_get (bg X.prog X.w) a (kL ry) hd) ⟨_,dd.mapOf,⟨_,H2,I2.tok _,(rel.val k).getD (show RelV .non .none from rfl),q2⟩⟩
theorem uX(hw:pr=X.w.params)(D:mL X.K pr a kvs)(hm:X.mg x=some (.ref a))(hg:Gl X x)(he:XE X e ty)(m:M1 X (.Name x p) "get" apos e cpos) (hdb:(x==("__debug__":Str))=false:=by kernel_rfl) :
  XE X (.Call (.Attribute (.Name x p) "get" apos) [e] [] cpos) (qF kvs ty):=⟨x2 hw D hm hg he.h m hdb⟩
theorem A9{kvs:List (Key×V)}{ty:TE}{σ:St}{H:Hp}{Q:VK}:qF kvs ty σ H Q=ty σ H fun y H1=>∃k,y=kV k/\Q ((bA kvs k).getD .non) H1:=rfl
end
end L2
namespace L2
section
variable {prog:Program} {w:World} {A:Around} {E:Value->Shared->Prop} {s:Shared}
open AutoSeq1 (wpAny_loadPart') in
end
section
variable {K:W.Frag} {a:Addr} {xs:List V}
end
section
variable {K:W.Frag} {a b:Addr} {H:Hp} {Q:VK}
theorem xu:sj K [.ref a] H Q=∃ns:List Int,SqL K H a (ns.map V.int)/\ns.length<64/\∀(l:Addr)(ns':List Int),H l=none->ns'.Perm ns->ns'.Pairwise (·<=·)->Q (.ref l) (upd H l (.lst (ns'.map V.int))):=propext ⟨by rintro ⟨_,ns,e,q⟩;cases e;exact ⟨ns,q⟩,by rintro ⟨ns,q⟩;exact ⟨a,ns,rfl,q⟩⟩
theorem DW:DP K [.ref a] H Q=∃bs:List Bool,SqL K H a (bs.map V.bl)/\Q (.bl (bs.any id)) H:=propext ⟨by rintro ⟨_,ns,e,q⟩;cases e;exact ⟨ns,q⟩,by rintro ⟨ns,q⟩;exact ⟨a,ns,rfl,q⟩⟩
theorem zW{y:V}:x5 K (.ref a) [y] H Q=∃xs,SqL K H a xs/\bz y=true/\xs.all bz=true/\Q (.int (zg y xs)) H:=propext ⟨by rintro ⟨_,xs,_,e1,e2,q⟩;cases e1;cases e2;exact ⟨xs,q⟩,by rintro ⟨xs,q⟩;exact ⟨a,xs,y,rfl,rfl,q⟩⟩
end
end L2
namespace L2
noncomputable def Cx.blkZ(X:Cx)(z0:Str)(N':List Str)(scope:Scope)(b:Bk):Cx:=
 {prog:=X.prog,w:=X.w,K:=X.K,mg:=X.mg,base:=X.base,A:=X.A,N:=N',s₀:=b.s₂,H₀:=b.H₂,env:=compEnvC scope ((z0,b.C+1)::cS X.env.cells scope.names []) b.C X.env,outer:=X.stack,stack:=X.stack,ex:=b.fp,fn:=fun x=>x==z0,calm:=X.calm,pn:=[],xe:=fun _ _=>False}
theorem Bp{X:Cx}{z0:Str}{N':List Str}{scope:Scope}{b:Bk}:(X.blkZ z0 N' scope b).K=X.K:=rfl
structure CompScZ(X:Cx)(z0:Str)(scope:Scope)(cns:List Str)(ci:List Nat):Prop where
 kind:scope.kind=.function
 names:∀y∈scope.names,y.2=.local->scope.names.lookup y.1=some .local
 free:∀y∈scope.names,y.2=.free->X.env.kindOf y.1=some .cell\/X.env.kindOf y.1=some .free
 cap:∀(j:Nat)x,cns[j]?=some x->∃i,ci[j]?=some i/\X.N[i]?=some x/\(x,NameKind.free)∈scope.names
 len:cns.length=ci.length
 noloc:∀y,(y,NameKind.free)∈scope.names->¬(relabel scope X.env).names.lookup y=some .local
 nofree:(z0,NameKind.free)∉scope.names
 seen:∀y,(relabel scope X.env).names.lookup y=some .cell\/(relabel scope X.env).names.lookup y=some .free->y=z0\/(y,NameKind.free)∈scope.names
 cells:∀n acc,cellsFrom n scope.names acc=(z0,n)::acc
 push:∀h,pushCells h scope.names=h.push {cls:=.type "cell",data:=.cell none}
section
variable {M:Model} {A:Around} {E:Value->Shared->Prop} {s:Shared}
theorem iZ{scope:Scope}{globals:Addr}{closure:List (Str×Addr)}{qual:Str}{outer:Env}{z0:Str}{Q:Env->Shared->Prop}
  (hc:∀n acc,cellsFrom n scope.names acc=(z0,n)::acc) (hp:∀h,pushCells h scope.names=h.push {cls:=.type "cell",data:=.cell none})
  (hQ:Q {scope:=scope,locals:=s.heap.objs.size,globals:=globals,cells:=(z0,s.heap.objs.size+1)::closure,qual:=qual,func:=none,code:=outer.code,frame:=outer.frame,builtins:=outer.builtins}
   {s with heap:=(s.heap.push {cls:=.type "dict",data:=.dict #[]}).push {cls:=.type "cell",data:=.cell none}}) :
  wpAny M A (newFunctionEnv scope globals closure [] qual none .none (some outer)) Q E s:=by
 simp only [newFunctionEnv,Option.isSome_some,if_true];refine wpAny_bind (wpAny_alloc ?_);refine wpAny_bind (wpAny_layCells _ (fun name kind cells=>by cases hkc:kind==NameKind.cell<;>simp [hkc]) _ _ _ _ ?_);rw [hc,hp,show ({s with heap:=s.heap.push {cls:=.type "dict",data:=.dict #[]}}:Shared).heap.objs.size=s.heap.objs.size+1 from jZ ..];refine wpAny_bind ?_;rw [List.forIn_nil];exact wpAny_pure (wpAny_pure hQ)
end
theorem pV{X:Cx}{elt iter tgt:Expr}{ifs:List Expr}{pos:Pos}{scope:Scope}{z0:Str}{g:Bk->TG}{tt:Bk->TT}{te:Bk->TE}{tns cns:List Str}{ci:List Nat}{RR:Value->Addr->Result->Shared->Prop}{E:Value->Shared->Prop}
  {pins:List (Addr×Obj)} {σ:St} {H2:Hp} {s2:Shared} {it:Addr} {fp:List Addr} {tn:Nat->Heap->Prop} {J:It} {Q:Addr->Hp->Prop}
  (hc:X.calm=true) (S:CompScZ X z0 scope cns ci)
  (hg:∀bk:Bk,PG (X.blkZ z0 (".0"::(tns++cns)) scope bk) tgt (g bk))
  (ht:∀bk:Bk,tH (X.blkZ z0 (".0"::(tns++cns)) scope bk) ifs (tt bk))
  (he:∀bk:Bk,PE (X.blkZ z0 (".0"::(tns++cns)) scope bk) elt (te bk))
  (I2:Inv X pins σ H2 s2) (T:kc X.prog X.w X.K tgt J fp it tn) (st2:tn 0 s2.heap) (f2:∀b∈fp,iU X pins H2 b)
  (hcw:∀acc,H2 acc=none->∀bk:Bk,bX J (g bk) (tt bk) (te bk) tns.length ci σ acc (Q acc) (upd H2 acc (.lst [])))
  (fin:∀D C s5 H4 m,Inv X pins σ H4 s5->s5.heap.Ns C m->iU X pins H4 C->Q D H4->RR (.ref D) C (.ok .next) s5) :
  wpAny (model X.prog X.w) X.A (newList []) (fun acc s₃=>wpAny (model X.prog X.w) X.A (newFunctionEnv scope X.env.globals (cS X.env.cells scope.names []) [] X.env.qual none .none (some X.env)) (fun cenv s₄=>codeAny (model X.prog X.w) X.A (.compStart (.ListComp elt [⟨tgt,iter,ifs,0⟩] scope pos) 0 (.ref it) acc {cenv with scope:=relabel scope X.env}) (RR acc cenv.locals) s₄) E s₃) E s2:=by
 have hfc:∀y∈scope.names,y.2=.free->∃c,X.env.cells.lookup y.1=some c:=fun y hy hk=>I2.ok.has _ (S.free y hy hk);have hsub:∀y c,(cS X.env.cells scope.names []).lookup y=some c->X.env.cells.lookup y=some c:=gO hfc (fun y c e=>by simp at e);refine wpAny_newObj_type (iZ S.cells S.push ?_);dsimp only;generalize hH2:s2.heap.push {cls:=.type "list",dict:=none,data:=.seq ([]:List Value).toArray}=G2;have hCz:G2.objs.size=s2.heap.objs.size+1:=by rw [<- hH2,jZ]
 have hns₁:((G2.push {cls:=.type "dict",data:=.dict #[]}).push {cls:=.type "cell",data:=.cell none}).Ns G2.objs.size (fun _=>none):=(Heap.Ns.new G2 (.type "dict")).keeps fun b o e=>c9 _ e;have hcl₁:((G2.push {cls:=.type "dict",data:=.dict #[]}).push {cls:=.type "cell",data:=.cell none}).IsCell (G2.objs.size+1) none:=by refine ⟨{cls:=.type "cell",data:=.cell none},?_,rfl⟩;have:=d8 (G2.push {cls:=.type "dict",data:=.dict #[]}) (o:={cls:=.type "cell",data:=.cell none}) rfl;rwa [jZ] at this
 have keep₁:∀b o,G2.get? b=some o->((G2.push {cls:=.type "dict",data:=.dict #[]}).push {cls:=.type "cell",data:=.cell none}).get? b=some o:=fun b o e=>c9 _ (c9 _ e);have hsz₁:((G2.push {cls:=.type "dict",data:=.dict #[]}).push {cls:=.type "cell",data:=.cell none}).objs.size=G2.objs.size+2:=by rw [jZ,jZ]
 generalize hh₁:(G2.push {cls:=.type "dict",data:=.dict #[]}).push {cls:=.type "cell",data:=.cell none}=h₁ at hns₁ hcl₁ keep₁ hsz₁ ⊢;have hDC:s2.heap.objs.size≠G2.objs.size:=by rw [hCz];exact cm (yR _)
 have below:∀b,b<s2.heap.objs.size->b≠G2.objs.size:=fun b hb=>by omega
 have old:∀b o,s2.heap.get? b=some o->h₁.get? b=some o:=fun b o e=>keep₁ b o (hH2 ▸ c9 _ e);have hacc:h₁.get? s2.heap.objs.size=some {cls:=.type "list",dict:=none,data:=.seq ([]:List Value).toArray}:=keep₁ _ _ (hH2 ▸ d8 _ rfl);have hnD:H2 s2.heap.objs.size=none:=I2.hok.fresh (zq0 _);have hnC:H2 G2.objs.size=none:=I2.hok.fresh (by omega);have hnE:H2 (G2.objs.size+1)=none:=I2.hok.fresh (by omega);obtain ⟨W,⟨m0,w0⟩,turn⟩:=hcw s2.heap.objs.size hnD ⟨G2.objs.size,fp,s2,H2⟩;have nlt:∀{b:Addr} {o:Obj},s2.heap.get? b=some o->b≠s2.heap.objs.size:=fun q=>cm (zq9 q);have fpl:∀b∈fp,b<s2.heap.objs.size:=fun b hb=>by obtain ⟨o,e,_⟩:=T.obj _ _ st2 b hb;exact zq9 e
 have clt:∀y c,(cS X.env.cells scope.names []).lookup y=some c->c<s2.heap.objs.size:=fun y c e=>by obtain ⟨v,q⟩:=I2.cell y c (hsub y c e);exact q.lt
 have split:∀y c,((z0,G2.objs.size+1)::cS X.env.cells scope.names []).lookup y=some c->(y=z0/\c=G2.objs.size+1)\/(y≠z0/\(cS X.env.cells scope.names []).lookup y=some c):=fun y c e=>by
  rw [pP] at e
  cases hb:y==z0 with
  |true=>rw [hb] at e;cases e;exact .inl ⟨by simpa using hb,rfl⟩
  |false=>rw [hb] at e;exact .inr ⟨by simpa using hb,e⟩
 have hasC:∀y,((relabel scope X.env).names.lookup y=some .cell\/(relabel scope X.env).names.lookup y=some .free)->∃c,((z0,G2.objs.size+1)::cS X.env.cells scope.names []).lookup y=some c:=fun y hk=>by
  rw [pP]
  cases hb:y==z0 with
  |true=>exact ⟨_,rfl⟩
  |false=>
   rcases S.seen y hk with z | z
   ·subst z;simp at hb
   ·exact dE z
 have ok:(X.blkZ z0 (".0"::(tns++cns)) scope ⟨G2.objs.size,fp,s2,H2⟩).Ok:={
  mod:=I2.ok.mod
  kind:=S.kind
  glob:=I2.ok.glob
  blt:=I2.ok.blt
  above:=by show s2.heap.objs.size<=G2.objs.size;omega
  inj:=fun y z c e1 e2=>by
   rcases split y c e1 with ⟨a1,b1⟩ | ⟨a1,b1⟩<;>rcases split z c e2 with ⟨a2,b2⟩ | ⟨a2,b2⟩
   ·rw [a1,a2]
   ·subst b1;have h9:(G2.objs.size+1:Nat)<s2.heap.objs.size:=clt _ _ b2;omega
   ·subst b2;have h9:(G2.objs.size+1:Nat)<s2.heap.objs.size:=clt _ _ b1;omega
   ·exact I2.ok.inj y z c (hsub y c b1) (hsub z c b2)
  has:=fun y hk=>hasC y hk
  cab:=fun y c e e2=>by
   show s2.heap.objs.size<=c;have e':(y==z0)=true:=e;rcases split y c e2 with ⟨a1,b1⟩ | ⟨a1,b1⟩
   ·subst b1;omega
   ·exact absurd (by simpa using e') a1
  hd:=I2.ok.hd
  frames:=I2.ok.frames
  stk:=.inl rfl
  exf:=fun b hb=>⟨below b (fpl b hb),fun y c e=>by
   rcases split y c e with ⟨a1,b1⟩ | ⟨a1,b1⟩
   ·subst b1;intro h8;subst h8;have h9:(G2.objs.size+1:Nat)<s2.heap.objs.size:=fpl _ hb;omega
   ·exact (f2 b hb).2.2.2.2.1 y c (hsub y c b1)⟩
  bs:=I2.bs
  bsz:=cL I2.ok.bsz I2.sz
  noex:=fun b o e hb=>by
   rcases (f2 b hb).2.2.2.1 with z | z
   ·exact I2.ok.noex b o e z
   ·exact absurd (dA (zq9 e) (cL I2.ok.bsz z)) (mF _)
  exfs:=fun b hb hf=>by
   rcases zq6.mp (I2.stkSub b hf) with z | z
   ·exact (f2 b hb).2.1 z
   ·exact (f2 b hb).2.2.1 z
  funs:=I2.stack
  frf:=I2.stkFree}
 have hokD:HOk X.prog X.w (upd H2 s2.heap.objs.size (.lst [])) h₁:=I2.hok.laid old (zq0 _) ⟨cc _,[],0,.nil,hacc⟩;have clD:∀y c,((z0,G2.objs.size+1)::cS X.env.cells scope.names []).lookup y=some c->c≠s2.heap.objs.size:=fun y c e=>by
  rcases split y c e with ⟨a1,b1⟩ | ⟨a1,b1⟩
  ·subst b1;omega
  ·exact cm (clt y c b1)
 have I3:Inv (X.blkZ z0 (".0"::(tns++cns)) scope ⟨G2.objs.size,fp,s2,H2⟩) [] (aG (List.replicate tns.length none) ci σ) (upd H2 s2.heap.objs.size (.lst [])) {s2 with heap:=h₁}:={
  ok:=ok
  os:=rfl
  bare:=I2.bare
  base:=⟨fun b o e n _ _=>old b o e,fun b o e n _ _=>⟨o.slots,old b o e⟩,fun b o e n _=>by rw [av (nlt e)];exact n,fun b o e _=>⟨o,old b o e⟩,
   fun b ys e=>by rw [av (ao e hnD)];exact e,fun b o u e=>by rw [av (ao e hnD)];exact e,fun b ps e=>⟨#[],by rw [av (ao e hnD),Array.append_empty];exact e⟩⟩
  loc:=⟨_,hns₁,fun i y v e1 e2 e3=>by
   have e1':((".0":Str)::(tns++cns))[i]?=some y:=e1;unfold aG at e2
   cases i with
   |zero=>simp at e2
   |succ i=>
    rw [yv] at e1' e2
    by_cases hi:i<tns.length
    ·rw [j3 (by simpa using hi),yp,if_pos hi] at e2
     cases e2
    ·rw [iJ (by omega)] at e1';rw [iJ (by simp;omega),yq] at e2;obtain ⟨q,hq,hN,hm⟩:=S.cap _ _ e1';rw [bM,hq] at e2;have e2':(σ[q]?).join=some v:=by simpa using e2
     have e4:σ[q]?=some (some v):=by
      cases z:σ[q]? with
      |none=>rw [z] at e2';cases e2'
      |some o=>rw [z] at e2';rw [show o=some v from e2']
     obtain ⟨m,hns,hl⟩:=I2.loc;have hvis:Vis X.env.scope y:=by
      rcases S.free (y,.free) hm rfl with z | z
      ·exact .inr (.inl z)
      ·exact .inr (.inr z)
     obtain ⟨u,ru,lk⟩:=hl q y v hN e4 hvis;refine ⟨u,ru,.inr ?_⟩;have hkk:X.env.kindOf y=some .cell\/X.env.kindOf y=some .free:=S.free (y,.free) hm rfl;have hyz:y≠z0:=fun e=>S.nofree (e ▸ hm);rcases lk with ⟨k1,_⟩ | ⟨_,c,hc1,hc2⟩
     ·rcases hkk with z | z<;>(rw [k1] at z;cases z)
     ·obtain ⟨c',hc'⟩:=dE (cells:=X.env.cells) (acc:=[]) hm;have ecc:c'=c:=by have:=hsub y c' hc';rw [hc1] at this;cases this;rfl
      subst ecc;have e3':Vis (relabel scope X.env) y:=e3;refine ⟨?_,c',?_,?_⟩
      ·rcases e3' with z | z | z
       ·exfalso;exact S.noloc y hm z
       ·exact .inl z
       ·exact .inr z
      ·show ((z0,G2.objs.size+1)::cS X.env.cells scope.names []).lookup y=some c';rw [pP,beq_eq_false_iff_ne.mpr hyz];exact hc'
      ·exact hc2.keeps old⟩
  cell:=fun y c e=>by
   rcases split y c e with ⟨a1,b1⟩ | ⟨a1,b1⟩
   ·subst b1;exact ⟨_,hcl₁⟩
   ·obtain ⟨v,q⟩:=I2.cell y c (hsub y c b1);exact ⟨v,q.keeps old⟩
  free:=by show upd H2 s2.heap.objs.size (.lst []) G2.objs.size=none;rw [av (Ne.symm hDC)];exact hnC
  freeC:=fun y c e=>by
   rw [av (clD y c e)];rcases split y c e with ⟨a1,b1⟩ | ⟨a1,b1⟩
   ·subst b1;exact hnE
   ·exact I2.freeC y c (hsub y c b1)
  pin:=fun p hp=>by have hp':p∈([]:List (Addr×Obj))++[]:=hp;simp at hp'
  hok:=hokD
  len:=by show (aG _ ci σ).length=((".0":Str)::(tns++cns)).length;unfold aG;simp [S.len]}
 have st3:tn 0 h₁:=T.keep _ _ _ st2 fun b _ o e=>old b o e;have fr3:∀b∈fp,upd H2 s2.heap.objs.size (.lst []) b=none:=fun b hb=>by rw [av (cm (fpl b hb))];exact (f2 b hb).1
 have stat:∀{H':Hp},(∀b∈fp,H' b=none)->∀b∈fp,iU (X.blkZ z0 (".0"::(tns++cns)) scope ⟨G2.objs.size,fp,s2,H2⟩) [] H' b:=fun hn b hb=>⟨hn b hb,below b (fpl b hb),ok.exfs b hb,.inl hb,fun y c e=>(ok.exf b hb).2 y c e,fun p hp=>by have hp':p∈([]:List (Addr×Obj))++[]:=hp;simp at hp'⟩
 have loop:∀s₃:Shared,s₃={s2 with heap:=h₁}->
   codeAny (model X.prog X.w) X.A (.compLoop (.ListComp elt [⟨tgt,iter,ifs,0⟩] scope pos) 0 (.ref it) (.ref s2.heap.objs.size) (compEnvC scope ((z0,G2.objs.size+1)::cS X.env.cells scope.names []) G2.objs.size X.env))
    (RR (.ref s2.heap.objs.size) G2.objs.size) s₃:=by
  rintro s₃ rfl;refine gP (fun n s'=>∃(i:Nat)(os:List (Option V)) (ys:List V) (H':Hp),os.length=tns.length/\Inv (X.blkZ z0 (".0"::(tns++cns)) scope ⟨G2.objs.size,fp,s2,H2⟩) [] (aG os ci σ) H' s'/\tn i s'.heap/\(∀b∈fp,H' b=none)/\W i n ys H') ?_ m0 ⟨0,_,[],_,by simp,I3,st3,fr3,w0⟩;rintro n s4 ⟨i,os,ys,H4,hos,I4,st4,fr4,w4⟩;rcases turn i n ys H4 w4 with ⟨stop,q⟩ | ⟨go,N,hN,step⟩
  ·refine thn (T.done (X.blkZ z0 (".0"::(tns++cns)) scope ⟨G2.objs.size,fp,s2,H2⟩) rfl rfl rfl hc i [] s4 _ H4 (fun _ _=>False) I4 (stat fr4) st4 stop) fun r s5 ⟨hr,I5⟩=>?_;subst hr;obtain ⟨m,hm,_⟩:=I5.loc;have fC:H4 G2.objs.size=none:=I5.free;have ub:Un (frs X.stack) fp H2 H4 s2.heap s5.heap:=I5.base;have IX:Inv X pins σ H4 s5:=I2.call' (s':=s5) (show s5.os=s2.os from I5.os) ub I5.hok I5.bare fun b hb=>⟨(f2 b hb).2.2.2.1,(f2 b hb).2.1,(f2 b hb).2.2.2.2.1,(f2 b hb).2.2.2.2.2⟩
   exact fin _ _ s5 H4 m IX hm (I2.fpOk (by omega) fC) q
  ·refine thn (T.item (X.blkZ z0 (".0"::(tns++cns)) scope ⟨G2.objs.size,fp,s2,H2⟩) rfl rfl rfl hc i [] s4 _ H4 (fun _ _=>False) I4 (stat fr4) st4 go) fun r s5 ⟨u,hr,h5⟩=>?_;subst hr;refine thn h5 fun _ s6 hhx=>?_;obtain ⟨y,H6,I6,r6,y6,st6,fr6⟩:=hhx;have I6':=I6.pinned (stat fr6) (T.obj _ _ st6);refine thn (hg _ _ s6 _ H6 y u _ I6' r6 (step y H6 os hos y6)) fun _ s7 ⟨σ7,H7,I7,⟨os',hos',e7⟩,q7⟩=>?_;subst e7;have back:∀{H9:Hp} {s9:Shared},Inv (X.blkZ z0 (".0"::(tns++cns)) scope ⟨G2.objs.size,fp,s2,H2⟩) ([]++gF fp s6.heap) (aG os' ci σ) H9 s9->tn (i+1) s9.heap/\∀b∈fp,H9 b=none:=fun {H9 s9} I9=>⟨T.keep _ _ _ st6 fun b hb ob e=>(I9.pin (b,ob) (dY _ (dY _ (cK hb e)))).1,fun b hb=>by obtain ⟨ob,e,d⟩:=T.obj _ _ st6 b hb;exact (I9.pin (b,ob) (dY _ (dY _ (cK hb e)))).2.1⟩
   refine thn (ht _ _ s7 _ H7 _ I7 q7) fun b s8 hhx=>?_;obtain ⟨H8,I8,q8⟩:=hhx
   cases b with
   |false=>
    rw [if_neg zq7] at q8 ⊢;obtain ⟨m',hm',w8⟩:=hN _ _ q8;exact ⟨m',hm',i+1,os',ys,_,hos',I8.unpinned,(back I8).1,(back I8).2,w8⟩
   |true=>rw [if_pos rfl] at q8 ⊢;refine thn (he _ _ s8 _ H8 _ I8 q8) fun zv s8 hhx=>?_;obtain ⟨z,H8,I8,rz,ha8,hl8,n8⟩:=hhx;obtain ⟨m',hm',w8⟩:=hN _ _ n8;refine thn (bj (X:=X.blkZ z0 (".0"::(tns++cns)) scope ⟨G2.objs.size,fp,s2,H2⟩) _ s8 _ H8 (.ref s2.heap.objs.size) [z] (.ref s2.heap.objs.size) [zv] (fun _ H9=>H9=upd H8 s2.heap.objs.size (.lst (ys++[z]))) I8 rfl (.cons rz .nil) ⟨_,ys,z,rfl,rfl,ha8,hl8,rfl⟩) fun _ s9 hhx=>?_;obtain ⟨_,H9,I9,_,e9⟩:=hhx;subst e9;exact ⟨m',hm',i+1,os',ys++[z],_,hos',I9.unpinned,(back I9).1,(back I9).2,w8⟩
 exact codeAny_compStart_list (loop _ rfl) (T.self _ 0 _ _ _ st3 (loop _ rfl))
theorem wN{X:Cx}{elt iter tgt:Expr}{ifs:List Expr}{pos:Pos}{scope:Scope}{z0:Str}{wi:TI}{g:Bk->TG}{tt:Bk->TT}{te:Bk->TE}{tns cns:List Str}{ci:List Nat}(hc:X.calm=true)(S:CompScZ X z0 scope cns ci)(hi:PI X tgt iter wi)
  (hg:∀bk:Bk,PG (X.blkZ z0 (".0"::(tns++cns)) scope bk) tgt (g bk))
  (ht:∀bk:Bk,tH (X.blkZ z0 (".0"::(tns++cns)) scope bk) ifs (tt bk))
  (he:∀bk:Bk,PE (X.blkZ z0 (".0"::(tns++cns)) scope bk) elt (te bk))
  (hs:∀v,foldedSetIterable iter X.env v=pure v:=by intro _;rfl) :
  PE X (.ListComp elt [⟨tgt,iter,ifs,0⟩] scope pos) (jU wi g tt te tns.length ci):=by
 intro pins s σ H Q I h;have hfc:∀y∈scope.names,y.2=.free->∃c,X.env.cells.lookup y.1=some c:=fun y hy hk=>I.ok.has _ (S.free y hy hk);rw [eval_ListComp];refine wpAny_comprehension_free (use:=none) rfl hs (dS hfc) S.kind S.names (thn (hi pins s σ H _ I h) fun v s1 h1=>thn h1 fun itv s2 h2=>?_);obtain ⟨it,fp,tn,J,H2,rfl,I2,T,st2,f2,hcw⟩:=h2;refine pV (RR:=fun acc C=>compPost (model X.prog X.w) X.A X.xe none (EP X pins σ Q) acc C) hc S hg ht he I2 T st2 f2 hcw fun D C s5 H4 m I5 hm fo q=>?_;refine ⟨m,hm,fun h' hs'=>⟨.ref D,H4,?_,rfl,q⟩⟩;exact I5.turned (t':=s5.toks) (it:=C) (fun b o hb e=>(hs'.2 b hb).trans e) fo.1 fo.2.1 fo.2.2.2.1 fo.2.2.2.2.1 fo.2.2.2.2.2
noncomputable def Du(osc:Scope)(N:List Str)(z0:Str)(scope:Scope)(cns:List Str)(ci:List Nat):Bool:=
 scope.kind==.function&&scope.names.all (fun y=>y.2 != .local || scope.names.lookup y.1==some .local) &&
 scope.names.all (fun y=>y.2 != .free || (osc.names.lookup y.1==some .cell || osc.names.lookup y.1==some .free))&&jl N scope.names cns ci &&
 scope.names.all (fun y=>y.2 != .free || (uG scope osc).lookup y.1 != some .local)&&scope.names.all (fun y=>y.2 != .free || y.1 != z0)&&scope.names.all (fun y=>y.2 != .cell || y.1==z0)
theorem fU{osc:Scope}:∀{names:List (Str×NameKind)} {y:Str} {k:NameKind},(names.map fun (n,k)=>if (k==NameKind.free&&osc.kind==.function&&osc.names.lookup n==some .cell) then (n,NameKind.cell) else (n,k)).lookup y=some k->k=.cell\/k=.free->
  (y,NameKind.cell)∈names\/(y,NameKind.free)∈names
 | [],_,_,h,_=>by simp at h
 | (n,k0)::r,y,k,h,hk=>by
  rw [cM,pP] at h
  by_cases hf:(k0==NameKind.free&&osc.kind==.function&&osc.names.lookup n==some .cell)=true
  ·simp only [hf,if_true] at h;have k0f:k0=.free:=by have:=hf;simp only [Bool.and_eq_true] at this;simpa using this.1.1
   split at h
   ·next hq=>
    have:y=n:=by simpa using hq
    subst this;subst k0f;exact .inr dJ
   ·exact (fU h hk).imp (zq5 _) (zq5 _)
  ·simp only [hf] at h
   split at h
   ·next hq=>
    have:y=n:=by simpa using hq
    subst this;have e:k0=k:=by simpa using h
    subst e;rcases hk with z | z
    ·subst z;exact .inl dJ
    ·subst z;exact .inr dJ
   ·exact (fU h hk).imp (zq5 _) (zq5 _)
theorem CompScZ.of{X:Cx}{z0:Str}{scope:Scope}{cns:List Str}{ci:List Nat}(h:Du X.env.scope X.N z0 scope cns ci=true)
  (hc:∀n acc,cellsFrom n scope.names acc=(z0,n)::acc) (hp:∀h,pushCells h scope.names=h.push {cls:=.type "cell",data:=.cell none}):CompScZ X z0 scope cns ci:=by
 unfold Du at h;rw [dc,dc,dc,dc,dc,dc] at h;obtain ⟨⟨⟨⟨⟨⟨h1,h3⟩,h4⟩,h5⟩,h6⟩,h7⟩,h8⟩:=h;obtain ⟨l,r⟩:=ik h5;refine ⟨by simpa using h1,fun y hy hk=>?_,fun y hy hk=>?_,r,l,fun y hy z=>?_,fun hm=>?_,fun y hy=>?_,hc,hp⟩
 ·have:=zq37.mp h3 y hy;rw [kn] at this;rcases this with q | q
  ·exact absurd hk (by simpa using q)
  ·simpa using q
 ·have:=zq37.mp h4 y hy;rw [kn,kn] at this;rcases this with q | q | q
  ·exact absurd hk (by simpa using q)
  ·exact .inl (show X.env.scope.names.lookup y.1=_ by simpa using q)
  ·exact .inr (show X.env.scope.names.lookup y.1=_ by simpa using q)
 ·have:=zq37.mp h6 _ hy;rw [kn] at this;rcases this with q | q
  ·simp at q
  ·have z':(uG scope X.env.scope).lookup y=some .local:=z;have q':((uG scope X.env.scope).lookup y != some .local)=true:=q;rw [z'] at q';exact absurd q' (by decide)
 ·have:=zq37.mp h7 _ hm;simp at this
 ·have key:(y,NameKind.cell)∈scope.names\/(y,NameKind.free)∈scope.names:=by
   rcases hy with z | z
   ·exact fU (osc:=X.env.scope) z (.inl rfl)
   ·exact fU (osc:=X.env.scope) z (.inr rfl)
  rcases key with z | z
  ·have:=zq37.mp h8 _ z
   left;simpa using this
  ·exact .inr z
theorem uU{X:Cx}{elt iter tgt:Expr}{ifs:List Expr}{pos:Pos}{scope:Scope}{z0:Str}{wi:TI}{g:Bk->TG}{tt:Bk->TT}{te:Bk->TE}{tns cns:List Str}{ci:List Nat}(hc:X.calm=true)(S:CompScZ X z0 scope cns ci)(hi:XI X tgt iter wi)
  (hg:∀bk:Bk,XG (X.blkZ z0 (".0"::(tns++cns)) scope bk) tgt (g bk))
  (ht:∀bk:Bk,vh (X.blkZ z0 (".0"::(tns++cns)) scope bk) ifs (tt bk))
  (he:∀bk:Bk,XE (X.blkZ z0 (".0"::(tns++cns)) scope bk) elt (te bk))
  (hs:∀v,foldedSetIterable iter X.env v=pure v:=by intro _;rfl) :
  XE X (.ListComp elt [⟨tgt,iter,ifs,0⟩] scope pos) (jU wi g tt te tns.length ci):=⟨wN hc S hi.h (fun bk=>(hg bk).h) (fun bk=>(ht bk).h) (fun bk=>(he bk).h) hs⟩
end L2
namespace L2
variable {a0 a1 a10 a2 a3 a4 a5 a6 a7 a8 a9:Option V} {i:Int} {r:St} {x:V}
noncomputable def Am:Nat->St->Option V
 |0,o::_=>o
 |n+1,_::r=>Am n r
 |_,[]=>none
theorem pk:∀{n:Nat} {σ:St} {v:V},Am n σ=some v->σ[n]?=some (some v)
 |0,o::_,v,h=>by rw [show Am 0 (o::_)=o from rfl] at h;rw [h];rfl
 |n+1,_::r,v,h=>by rw [yv];exact pk h
 |0,[],_,h=>by cases h
 |_+1,[],_,h=>by cases h
noncomputable def eL(i:Nat):TE:=fun σ H Q=>match Am i σ with
 |some v=>Q v H
 |none=>False
theorem AC{i:Nat}{σ:St}{H:Hp}{Q:VK}(h:eL i σ H Q):Dc i σ H Q:=by
 unfold eL at h
 split at h
 ·next v e=>exact ⟨v,pk e,h⟩
 ·exact h.elim
theorem yqv{X:Cx}(i:Nat){x:Str}{pos:Pos}(hv:Vis X.env.scope x)(hN:X.N[i]?=some x:=by rfl)(hd:(x==("__debug__":Str))=false:=by kernel_rfl) (hcd:(x==("__classdict__":Str))=false:=by kernel_rfl):XE X (.Name x pos) (eL i):=
 ⟨fun pins s σ H Q I h=>qv i hv hN hd hcd pins s σ H Q I (AC h)⟩
noncomputable def yI0(g:Int->Int->V):R2:=fun x y H Q=>match x,y with
 | .int i,.int j=>Q (g i j) H
 |_,_=>False
noncomputable def yI(C:Int->Int->Prop)(g:Int->Int->V):R2:=fun x y H Q=>match x,y with
 | .int i,.int j=>C i j/\Q (g i j) H
 |_,_=>False
noncomputable def yU(g:Int->V):V->Hp->VK->Prop:=fun x H Q=>match x with
 | .int i=>Q (g i) H
 |_=>False
theorem eZ{g:Int->Int->V}{y:V}{H:Hp}{Q:VK}(h:yI0 g x y H Q):rI0 g x y H Q:=by
 unfold yI0 at h
 split at h
 ·exact ⟨_,_,rfl,rfl,h⟩
 ·exact h.elim
theorem pK{C:Int->Int->Prop}{g:Int->Int->V}{y:V}{H:Hp}{Q:VK}(h:yI C g x y H Q):rI C g x y H Q:=by
 unfold yI at h
 split at h
 ·exact ⟨_,_,rfl,rfl,h⟩
 ·exact h.elim
theorem FM{g:Int->V}{H:Hp}{Q:VK}(h:yU g x H Q):rU g x H Q:=by
 unfold yU at h
 split at h
 ·exact ⟨_,rfl,h⟩
 ·exact h.elim
section
variable {X:Cx}
theorem OpR.le{f:Value->Value->Sem Value}{r r':R2}(h:OpR X f r)(le:∀{x y:V} {H:Hp} {Q:VK},r' x y H Q->r x y H Q):OpR X f r':=fun pins s σ H x y v u Q I rx ry q=>h pins s σ H x y v u Q I rx ry (le q)
theorem b7:OpR X (binaryOp .Add) (yI0 fun i j=>.int (i+j)):=OpR.le BW eZ
theorem cI:OpR X (binaryOp .Sub) (yI0 fun i j=>.int (i-j)):=OpR.le C3 eZ
theorem cu:OpR X (binaryOp .Mult) (yI CMul fun i j=>.int (i * j)):=OpR.le BZ pK
theorem aK:OpR X (binaryOp .Mod) (yI (fun _ j=>0<j) fun i j=>.int (i % j)):=OpR.le BY pK
theorem tm:OpR X (binaryOp .Pow) (yI tF fun i j=>.int (i ^ j.toNat)):=OpR.le C1 pK
theorem f7:OpR X (binaryOp .LShift) (yI tF fun i j=>.int (i * 2 ^ j.toNat)):=OpR.le C2 pK
theorem AD:OpR X (binaryOp .BitAnd) (yI0 fun i j=>.int (Builtin.bitAnd i j)):=OpR.le BX eZ
theorem Dj:OpR X (binaryOp .BitOr) (yI0 fun i j=>.int (Builtin.bitOr i j)):=OpR.le DN eZ
theorem AE:OpR X (binaryOp .BitXor) (yI0 fun i j=>.int (Builtin.bitXor i j)):=OpR.le C4 eZ
theorem dX:OpR X (compareOp .Lt) (yI0 fun i j=>.bl (decide (i<j))):=OpR.le DM eZ
theorem ym:OpR X (compareOp .LtE) (yI0 fun i j=>.bl (decide (i<=j))):=OpR.le DL eZ
theorem iI:OpR X (compareOp .Gt) (yI0 fun i j=>.bl (decide (j<i))):=OpR.le DK eZ
theorem jY:OpR X (compareOp .GtE) (yI0 fun i j=>.bl (decide (j<=i))):=OpR.le DJ eZ
theorem aU:OpR X (binaryOp .FloorDiv) (yI CDivB fun i j=>.int (i / j)):=OpR.le wG pK
theorem f9:UnR X (unaryOp .USub) (yU fun i=>.int (-i)):=fun pins s σ H x v Q I rx q=>De pins s σ H x v Q I rx (FM q)
end
section
variable {H:Hp} {Q:VK}
theorem GF{v:V}:eL 0 (some v::r) H Q=Q v H:=rfl
theorem GG{v:V}:eL 1 (a0::some v::r) H Q=Q v H:=rfl
theorem GH{v:V}:eL 2 (a0::a1::some v::r) H Q=Q v H:=rfl
theorem GI{v:V}:eL 3 (a0::a1::a2::some v::r) H Q=Q v H:=rfl
theorem GJ{v:V}:eL 4 (a0::a1::a2::a3::some v::r) H Q=Q v H:=rfl
theorem GK{v:V}:eL 5 (a0::a1::a2::a3::a4::some v::r) H Q=Q v H:=rfl
theorem GL{v:V}:eL 6 (a0::a1::a2::a3::a4::a5::some v::r) H Q=Q v H:=rfl
theorem GM{v:V}:eL 7 (a0::a1::a2::a3::a4::a5::a6::some v::r) H Q=Q v H:=rfl
theorem GN{v:V}:eL 8 (a0::a1::a2::a3::a4::a5::a6::a7::some v::r) H Q=Q v H:=rfl
theorem GP{v:V}:eL 9 (a0::a1::a2::a3::a4::a5::a6::a7::a8::some v::r) H Q=Q v H:=rfl
theorem FN{v:V}:eL 10 (a0::a1::a2::a3::a4::a5::a6::a7::a8::a9::some v::r) H Q=Q v H:=rfl
theorem FQ{v:V}:eL 11 (a0::a1::a2::a3::a4::a5::a6::a7::a8::a9::a10::some v::r) H Q=Q v H:=rfl
theorem FT{v:V}{a11:Option V}:eL 12 (a0::a1::a2::a3::a4::a5::a6::a7::a8::a9::a10::a11::some v::r) H Q=Q v H:=rfl
theorem FU{v:V}{a11:Option V}{a12:Option V}:eL 13 (a0::a1::a2::a3::a4::a5::a6::a7::a8::a9::a10::a11::a12::some v::r) H Q=Q v H:=rfl
theorem GE{g:Int->Int->V}{j:Int}:yI0 g (.int i) (.int j) H Q=Q (g i j) H:=rfl
theorem y_I{C:Int->Int->Prop}{g:Int->Int->V}{j:Int}:yI C g (.int i) (.int j) H Q=(C i j/\Q (g i j) H):=rfl
theorem y_U{g:Int->V}:yU g (.int i) H Q=Q (g i) H:=rfl
end
end L2
end
set_option maxHeartbeats 4000000
namespace FA
open PySem L2 PyProof.Rows
theorem CDivB.pow{i:Int}{n:Nat}(h:n<9000):CDivB i (1 * 2 ^ n):=by rw [qT];refine ⟨qU (by decide),?_⟩;rw [Int.natAbs_pow];show (2 ^ n).log2<9000;rw [Nat.log2_two_pow];exact h
noncomputable def ltr(z:Int):Nat:=97+(z % 26).toNat
noncomputable def G5(m pl k:Int)(j:Nat):Int:=m / 36+j * j+(if decide ((j:Int)=pl)=true then 1 else 0) * k
noncomputable def nm(m pl k:Int):Nat->Str
 |0=>""
 |j+1=>nm m pl k j++⟨#[ltr (G5 m pl k j)]⟩
noncomputable def nms(m:Int)(n:Nat):List Str:=(List.range n).map fun (k:Nat)=>nm m (m / 6 % (1+m % 6)) k (1+m % 6).toNat
theorem DH:∀n:Nat,n<26->atI ("abcdefghijklmnopqrstuvwxyz":Str).cps.toList (n:Int)=some (97+n):=by decide +kernel
theorem BN(z:Int):atI ("abcdefghijklmnopqrstuvwxyz":Str).cps.toList (z % 26)=some (ltr z):=by have h0:0<=z % 26:=fc _ (by decide);have h1:z % 26<26:=iK _ (by decide);unfold ltr;obtain ⟨n,hn⟩:=pQ h0;rw [hn];exact DH n (by omega)
end FA
namespace L2
open PySem PyProof.Rows
variable {H H':Hp}
theorem tZ{A:Around}{k n:Nat}(h:n<=64)(hr:Room k A):A.units+n<cLine:=yt (Nat.add_le_add_left h _) hr.units
theorem pF{α β:Type}{f:Nat->α->β}{xs:List α}{i:Nat}{x:α}(h:xs[i]?=some x):(xs.take (i+1)).mapIdx f=(xs.take i).mapIdx f++[f i x]:=by obtain ⟨hl,e⟩:=zq10.mp h;rw [dG hl,e,List.mapIdx_append,d9,qV (mG hl)];simp
theorem eP{xs:List V}{k:Int}(h:0<=k):dU xs none (some k)=xs.take k.toNat:=by
 obtain ⟨n,rfl⟩:=pQ h;unfold dU;rw [HT.jN,HT.jb,AJ,dF,v7]
 by_cases hn:n<=xs.length
 ·rw [qV hn]
 ·rw [yV (by omega),dZ,k8 (by omega)]
theorem il{xs:List V}{k:Int}(h:0<=k):dU xs (some k) none=xs.drop k.toNat:=by
 obtain ⟨n,rfl⟩:=pQ h;unfold dU;rw [HT.jN,HT.jb,dF]
 by_cases hn:n<=xs.length
 ·rw [qV hn,k8 (by simp)]
 ·rw [yV (by omega),AK (zq0 _),AK (by omega)];simp
theorem nD{xs:List V}{k l:Int}(h:0<=k)(h2:0<=l):dU xs (some k) (some l)=(xs.take l.toNat).drop k.toNat:=by
 obtain ⟨n,rfl⟩:=pQ h;obtain ⟨m,rfl⟩:=pQ h2;unfold dU;rw [HT.jb,HT.jb,dF,dF]
 by_cases hn:n<=xs.length
 ·rw [qV hn]
  by_cases hm:m<=xs.length
  ·rw [qV hm,List.drop_take]
  ·rw [yV (by omega),k8 (by simp),k8 (by omega)]
 ·rw [yV (show xs.length<=n by omega),AK (zq0 _),AK (by rw [d9];omega)];simp
section
variable {K:W.Frag} {te:TE} {ci:List Nat} {σ:St} {acc:Addr} {Q:Hp->Prop} {H1:Hp} {a:Addr} {xs:List V}
theorem eQ{α:Type}(xs:List α):xs.filter (fun _=>true)=xs:=by simp
theorem zd(f:V->V)(hz:xs.length<=sizeLine)(hl:SqL K H1 a xs)(hacc:H1 acc=none)(hf:∀x∈xs,∀H Q',Same H1 H->Q' (f x) H->te (aG [some x] ci σ) H Q')
  (q:Q (upd H1 acc (.lst (xs.map f)))):bX (Itl K a) (bG 1) j2 te 1 ci σ acc Q (upd H1 acc (.lst [])):=
 vq (fun _=>true) f hz hl hacc (fun _ _ _ _ _ h=>h) (fun x hm H Q' s _ h=>hf x hm H Q' s h) (by rw [eQ];exact q)
theorem rC{n:Nat}(f:Nat->V)(hz:n<=sizeLine)(hacc:H1 acc=none)(hf:∀i:Nat,i<n->∀H Q',Same H1 H->Q' (f i) H->te (aG [some (.int (i:Int))] ci σ) H Q')
 (q:Q (upd H1 acc (.lst ((List.range n).map f)))):bX (Itr 0 n) (bG 1) j2 te 1 ci σ acc Q (upd H1 acc (.lst [])):=by
 refine vt (fun _=>true) (fun i=>f i.toNat) hz hacc (fun _ _ _ _ _ h=>h) (fun i hi H Q' s _ h=>?_) ?_
 ·rw [yu] at h ⊢;rw [dF] at h;exact hf i hi H Q' s h
 ·rw [eQ];have e:(fun i:Nat=>f (0+(i:Int)).toNat)=f:=by funext i;rw [yu,dF]
  rw [e];exact q
end
structure TSame(H H':Hp):Prop where
 tup:∀b xs,H b=some (.tup xs)->H' b=some (.tup xs)
 frz:∀b o u,H b=some (.frz o u)->H' b=some (.frz o u)
theorem Same.ts(s:Same H H'):TSame H H':=⟨fun b xs e=>s b _ e,fun b o u e=>s b _ e⟩
theorem TSame.trans{H1 H2:Hp}(a:TSame H H1)(b:TSame H1 H2):TSame H H2:=⟨fun c xs e=>b.tup c xs (a.tup c xs e),fun c o u e=>b.frz c o u (a.frz c o u e)⟩
theorem TSame.updL{p:Addr}{ys:List V}{o:HO}(h:H p=some (.lst ys)):TSame H (upd H p o):=
 ⟨fun b xs e=>by rw [av (df e h (by intro z;cases z))];exact e,fun b o u e=>by rw [av (df e h (by intro z;cases z))];exact e⟩
theorem TSame.seqT{K:W.Frag}{a:Addr}{xs:List V}(e:TSame H H')(h:SqT K H a xs):SqT K H' a xs:=by
 rcases h with (h | ⟨o,h⟩) | h
 ·exact .inl (.inl (e.tup _ _ h))
 ·exact .inl (.inr ⟨o,e.frz _ _ _ h⟩)
 ·exact .inr h
noncomputable def DeedV(K:W.Frag)(H:Hp)(x:V)(d:FB.Deed):Prop:=d.fine/\∃q,x=.ref q/\SqT K H q d.vs
theorem DeedV.ts{K:W.Frag}{x:V}{d:FB.Deed}(s:TSame H H')(h:DeedV K H x d):DeedV K H' x d:=⟨h.1,let ⟨q,e,z⟩:=h.2;⟨q,e,s.seqT z⟩⟩
noncomputable abbrev DeedsV (K:W.Frag) (H:Hp):List V->List FB.Deed->Prop:=Paired (DeedV K H)
theorem DeedsV.ts{K:W.Frag}{xs:List V}{ds:List FB.Deed}(s:TSame H H')(h:DeedsV K H xs ds):DeedsV K H' xs ds:=h.mono fun _ _ z=>z.ts s
end L2
namespace FA
open PySem L2
end FA
namespace FL
open PySem L2 PyProof.Rows
noncomputable def xx(n:Nat):List Int:=(List.range n).map fun i:Nat=>(i:Int)
noncomputable def qX(b:List Int):Prop:=b≠[]/\b.Pairwise (·<=·)
noncomputable instance (b:List Int):Decidable (qX b):=by unfold qX;infer_instance
structure z6(n:Nat)(bss:List (List Int)):Prop where
 good:∀b∈bss,qX b
 perm:bss.flatten.Perm (xx n)
noncomputable instance (n:Nat) (bss:List (List Int)):Decidable (z6 n bss):=decidable_of_iff ((∀b∈bss,qX b)/\bss.flatten.Perm (xx n)) ⟨fun ⟨a,b⟩=>⟨a,b⟩,fun h=>⟨h.good,h.perm⟩⟩
theorem rJ{i j:Int}:eqV (.int i) (.int j)=decide (i=j):=by first | rfl | (unfold eqV;simp)
theorem lY{n k:Nat}(h:k<n):ixN n (k:Int)=some k:=by unfold ixN;rw [if_pos (by omega),if_pos (by omega),dF]
end FL
namespace FL
open PySem L2 PyProof.Rows
theorem Paired.mem{α β:Type}{F:α->β->Prop}:∀{l₁:List α} {l₂:List β},Paired F l₁ l₂->∀a∈l₁,∃b∈l₂,F a b
 |_,_,.nil=>by intro a h;cases h
 |_,_,.cons h t=>by
  intro a hm;rcases zq6.mp hm with e | e
  ·subst e;exact ⟨_,dJ ..,h⟩
  ·obtain ⟨b,hb,hf⟩:=Paired.mem t a e;exact ⟨b,zq5 _ hb,hf⟩
theorem Paired.imp{α β:Type}{F G:α->β->Prop}:∀{l₁:List α} {l₂:List β},Paired F l₁ l₂->(∀a∈l₁,∀b∈l₂,F a b->G a b)->Paired G l₁ l₂
 |_,_,.nil,_=>.nil
 |_,_,.cons h t,hi=>.cons (hi _ (dJ ..) _ (dJ ..) h) (Paired.imp t fun a ha b hb=>hi a (zq5 _ ha) b (zq5 _ hb))
theorem Paired.snoc{α β:Type}{F:α->β->Prop}{a:α}{b:β}(hf:F a b):∀{l₁:List α} {l₂:List β},Paired F l₁ l₂->Paired F (l₁++[a]) (l₂++[b])
 |_,_,.nil=>.cons hf .nil
 |_,_,.cons h t=>.cons h (Paired.snoc hf t)
theorem Paired.put{α β:Type}{F:α->β->Prop}{a:α}{b:β}(hf:F a b):∀{l₁:List α} {l₂:List β} (i:Nat),Paired F l₁ l₂->Paired F (l₁.set i a) (l₂.set i b)
 |_,_,_,.nil=>.nil
 |_,_,0,.cons h t=>.cons hf t
 |_,_,i+1,.cons h t=>.cons h (Paired.put hf i t)
theorem Paired.of_get{α β:Type}{F:α->β->Prop}:∀{l₁:List α} {l₂:List β},l₁.length=l₂.length->(∀(i:Nat)a b,l₁[i]?=some a->l₂[i]?=some b->F a b)->Paired F l₁ l₂
 | [],[],_,_=>.nil
 | [],_::_,h,_=>by simp at h
 |_::_,[],h,_=>by simp at h
 |a::l₁,b::l₂,h,f=>.cons (f 0 a b rfl rfl) (Paired.of_get (by simpa using h) fun i x y hx hy=>f (i+1) x y hx hy)
section
variable {K:W.Frag} {te:TE} {ci:List Nat} {σ:L2.St} {acc:Addr} {Q:Hp->Prop} {H1:Hp}
end
section
variable {K:W.Frag} {H:Hp}
end
end FL
namespace L2
open PySem PySem.Spec PyProof.Rows
section
variable {K:W.Frag} {tt:TT} {te:TE} {ci:List Nat} {σ:St} {acc:Addr} {Q:Hp->Prop} {H1:Hp} {a:Addr} {xs:List V}
theorem nB(p:V->Bool)(f:V->V)(hz:xs.length<=sizeLine)(hl:SqL K H1 a xs)(hacc:H1 acc=none)
  (hp:∀x∈xs,∀H Q',Same H1 H->(∀H',Same H H'->Q' (p x) H')->tt (aG [some x] ci σ) H Q') (hf:∀x∈xs,∀H Q',Same H1 H->p x=true->(∀H',Same H H'->Q' (f x) H')->te (aG [some x] ci σ) H Q')
  (q:∀H,Same H1 H->H acc=some (.lst ((xs.filter p).map f))->Q H):bX (Itl K a) (bG 1) tt te 1 ci σ acc Q (upd H1 acc (.lst [])):=by
 refine dh (fun i ys H=>ys=((xs.take i).filter p).map f/\Same H1 H/\H acc=some (.lst ys)) ⟨by simp,Same.upd hacc,af⟩ (fun i ys H _ h=>h.2.1.seq hl) ?_ ?_
 ·rintro i x ys H os hi ho ⟨rfl,sm,ha⟩;have hm:=zq8 hi;have e:(aG os ci σ).set 1 (some x)=aG [some x] ci σ:=by
   match os,ho with
   | [o],_=>rfl
  show (∃os',os'.length=1/\(aG os ci σ).set 1 (some x)=aG os' ci σ)/\tt ((aG os ci σ).set 1 (some x)) H _;rw [e];refine ⟨⟨[some x],rfl,rfl⟩,hp x hm _ _ sm fun H2 s2=>?_⟩
  cases hb:p x with
  |true=>
   rw [if_pos rfl];refine hf x hm _ _ (sm.trans s2) hb fun H3 s3=>⟨s3 _ _ (s2 _ _ ha),nS hi hz,?_,((sm.trans s2).trans s3).updM hacc,af⟩
   rw [cG hi,if_pos hb]
  |false=>rw [if_neg zq7];refine ⟨?_,sm.trans s2,s2 _ _ ha⟩;rw [cG hi,if_neg (by rw [hb];exact zq7),gH]
 ·rintro ys H ⟨rfl,sm,ha⟩;rw [dZ] at ha;exact q H sm ha
theorem dO(p:Nat->Bool)(f:Nat->V)(i:Nat):((List.range (i+1)).filter p).map f=((List.range i).filter p).map f++(if p i=true then [f i] else []):=by
 rw [yz,yT,cD];congr 1
 cases hb:p i<;>simp [hb]
theorem jp{n:Nat}(p:Nat->Bool)(f:Nat->V)(hz:n<=sizeLine)(hacc:H1 acc=none)
  (hp:∀i:Nat,i<n->∀H Q',Same H1 H->(∀H',Same H H'->Q' (p i) H')->tt (aG [some (.int (i:Int))] ci σ) H Q') (hf:∀i:Nat,i<n->∀H Q',Same H1 H->p i=true->(∀H',Same H H'->Q' (f i) H')->te (aG [some (.int (i:Int))] ci σ) H Q')
  (q:∀H,Same H1 H->H acc=some (.lst (((List.range n).filter p).map f))->Q H):bX (Itr 0 n) (bG 1) tt te 1 ci σ acc Q (upd H1 acc (.lst [])):=by
 refine jo (fun i ys H=>ys=((List.range i).filter p).map f/\Same H1 H/\H acc=some (.lst ys)) ⟨by simp,Same.upd hacc,af⟩ ?_ ?_
 ·rintro i ys H os hi ho ⟨rfl,sm,ha⟩;rw [show (0:Int)+(i:Int)=(i:Int) by omega];have e:(aG os ci σ).set 1 (some (.int (i:Int)))=aG [some (.int (i:Int))] ci σ:=by
   match os,ho with
   | [o],_=>rfl
  show (∃os',os'.length=1/\(aG os ci σ).set 1 (some (.int (i:Int)))=aG os' ci σ)/\tt ((aG os ci σ).set 1 (some (.int (i:Int)))) H _;rw [e];refine ⟨⟨[some (.int (i:Int))],rfl,rfl⟩,hp i hi _ _ sm fun H2 s2=>?_⟩;have hl:(((List.range i).filter p).map f).length<sizeLine:=by rw [zq1];have:=AI p (List.range i);rw [g9] at this;omega
  cases hb:p i with
  |true=>
   rw [if_pos rfl];refine hf i hi _ _ (sm.trans s2) hb fun H3 s3=>⟨s3 _ _ (s2 _ _ ha),hl,?_,((sm.trans s2).trans s3).updM hacc,af⟩
   rw [dO,if_pos hb]
  |false=>rw [if_neg zq7];refine ⟨?_,sm.trans s2,s2 _ _ ha⟩;rw [dO,if_neg (by rw [hb];exact zq7),gH]
 ·rintro ys H ⟨rfl,sm,ha⟩;exact q H sm ha
end
end L2
namespace FD
open PySem L2 PyProof.Rows
noncomputable def gi(c k:Int):Int:=
 if 10 ^ Int.toNat 40<=c then (c-10 ^ Int.toNat 40) / (1 * 2 ^ (31 * (k % 60)).toNat) % (1 * 2 ^ Int.toNat 31)
 else (c * 1103515245+7919 * k * k+k) % 2147483647 * ((c * 1103515245+7919 * k * k+k) % 2147483647) % 2147483629 * 69621 % 2147483587
theorem oj(c k:Int):0<=gi c k:=by
 unfold gi
 split
 ·exact fc _ (by decide)
 ·exact fc _ (by decide)
noncomputable def atF(ns:List Int)(k:Int):Int:=if k<ns.length then ns.getD k.toNat 0 else 0
theorem jg{ns:List Int}{k:Int}(h:∀z∈ns,Builtin.Int.intBits z<=2 ^ 20):Builtin.Int.intBits (atF ns k)<=2 ^ 20:=by
 unfold atF;have z0:Builtin.Int.intBits 0<=2 ^ 20:=by decide
 split
 ·rw [eN]
  cases e:ns[k.toNat]? with
  |none=>exact z0
  |some z=>exact h z (zq8 e)
 ·exact z0
noncomputable def cC(n:Int):List Int:=(List.range (1+n % 6).toNat).map fun k:Nat=>n / ((k:Int)+1) % 26
noncomputable def fw(z:Int):Str:=⟨#[FA.ltr z]⟩
noncomputable def rT(n:Int)(j:Nat):Str:=Txt.join "" ((List.range (cC n).length).map fun k:Nat=>fw ((cC n).getD k 0+3 * (j:Int) * (if decide ((k:Int)=n / 64 % ((cC n).length:Int))=true then 1 else 0)))
noncomputable def kw8:List Str:=["tell","if","end","plus","in","box","while","else"]
noncomputable def gD(n:Int)(m:Nat):List Str:=if n / 512 % 4=0 then kw8.take m else (List.range m).map fun j=>rT n j
theorem ki{n:Int}{m:Nat}(h:m<=8):(gD n m).length=m:=by
 unfold gD
 split
 ·rw [d9];show min m 8=m;omega
 ·simp
theorem mt(n:Int):(cC n).length=(1+n % 6).toNat:=by unfold cC;simp
end FD
namespace L2
open PySem PyProof.Rows
end L2
namespace FG
open PySem L2 PyProof.Rows
variable {kvs:List (Key×V)}
structure IntD(kvs:List (Key×V)):Prop where
 nd:(kvs.map (·.1)).Nodup
 nums:∀kv∈kvs,∃i,kv.2=.int i
theorem IntD.nil:IntD []:=⟨AH,fun kv h=>by cases h⟩
theorem IntD.put(h:IntD kvs)(k:Key)(i:Int):IntD (cv kvs k (.int i)):=by
 by_cases hk:(kvs.any fun kv=>decide (kv.1=k))=true
 ·have e:cv kvs k (.int i)=kvs.map (fun kv=>if kv.1=k then (kv.1,.int i) else kv):=by unfold cv;rw [if_pos hk]
  rw [e];refine ⟨?_,fun kv hm=>?_⟩
  ·have e2:(kvs.map (fun kv=>if kv.1=k then (kv.1,V.int i) else kv)).map (·.1)=kvs.map (·.1):=by
    rw [fj];refine yA fun kv _=>?_;show (if kv.1=k then (kv.1,V.int i) else kv).1=kv.1
    split<;>rfl
   rw [e2];exact h.nd
  ·obtain ⟨kv',hm',rfl⟩:=zq20.mp hm;show ∃j,(if kv'.1=k then (kv'.1,V.int i) else kv').2=.int j
   split
   ·exact ⟨i,rfl⟩
   ·exact h.nums kv' hm'
 ·have hn:bA kvs k=none:=by have:=cE k kvs;rw [Bool.not_eq_true] at hk;rw [hk] at this;exact zq136.mp (by rw [zq136];cases e:bA kvs k with | none=>rfl | some v=>rw [e] at this;cases this)
  refine ⟨zu _ h.nd hn,fun kv hm=>?_⟩;rw [oB _ hn] at hm;rcases zq16.mp hm with z | z
  ·exact h.nums kv z
  ·rw [zq2.mp z];exact ⟨i,rfl⟩
theorem IntD.flat(h:IntD kvs):kvs.all (fun kv=>bz kv.2)=true:=by rw [zq37];intro kv hm;obtain ⟨i,e⟩:=h.nums kv hm;rw [e];rfl
theorem IntD.self(h:IntD kvs):zi kvs kvs=true:=tT h.nd h.flat
noncomputable def ib(kvs:List (Key×V))(n:Str):Option Int:=match bA kvs (.inr n) with
 |some (.int i)=>some i
 |_=>none
theorem fH{k n:Str}{i:Int}:ib (cv kvs (.inr k) (.int i)) n=if n=k then some i else ib kvs n:=by
 unfold ib;rw [yd]
 by_cases h:n=k
 ·subst h;rw [if_pos rfl,if_pos rfl]
 ·rw [if_neg (fun z=>h (Sum.inr.inj z)),if_neg h]
end FG
namespace FS
open PySem L2 FB PyProof.Rows
inductive Stm where
 |deed (d:Deed)
 |ifs (n:Str) (ones others:List Stm)
 |whl (n:Str) (rows:List Stm)
variable {H H':Hp} {f:List Addr}
mutual
inductive StmV (K:W.Frag) (H:Hp):V->Stm->List Addr->Prop where
 |deed {q:Addr} {d:Deed}:d.fine->SqT K H q d.vs->StmV K H (.ref q) (.deed d) []
 |ifs {q a b:Addr} {n:Str} {xs ys:List V} {ones others:List Stm} {f g:List Addr}:SqT K H q [.str "if",.str n,.ref a,.ref b]->H a=some (.lst xs)->H b=some (.lst ys)->StmsV K H xs ones f->StmsV K H ys others g->
   StmV K H (.ref q) (.ifs n ones others) (a::b::(f++g))
 |whl {q a:Addr} {n:Str} {xs:List V} {rows:List Stm} {f:List Addr}:SqT K H q [.str "while",.str n,.ref a]->H a=some (.lst xs)->StmsV K H xs rows f->StmV K H (.ref q) (.whl n rows) (a::f)
inductive StmsV (K:W.Frag) (H:Hp):List V->List Stm->List Addr->Prop where
 |nil:StmsV K H [] [] []
 |cons {x:V} {s:Stm} {xs:List V} {ss:List Stm} {f g:List Addr}:StmV K H x s f->StmsV K H xs ss g->StmsV K H (x::xs) (s::ss) (f++g)
end
noncomputable def Kept(fp:List Addr)(H H':Hp):Prop:=∀a∈fp,∀o,H a=some o->H' a=some o
theorem Kept.left{g:List Addr}(h:Kept (f++g) H H'):Kept f H H':=fun a ha=>h a (kl _ ha)
theorem Kept.right{g:List Addr}(h:Kept (f++g) H H'):Kept g H H':=fun a ha=>h a (dY _ ha)
theorem Kept.tail{x:Addr}{g:List Addr}(h:Kept (x::g) H H'):Kept g H H':=fun a ha=>h a (zq5 _ ha)
theorem Kept.of{fp:List Addr}(s:Same H H'):Kept fp H H':=fun a _ o e=>s a o e
theorem Kept.upd{fp:List Addr}{p:Addr}{o:HO}(h:p∉fp):Kept fp H (upd H p o):=fun a ha u e=>by rw [av (fun z=>h (by rw [<- z];exact ha))];exact e
variable {K:W.Frag}
mutual
theorem StmV.keep(t:TSame H H'):∀{x:V} {s:Stm} {f:List Addr},StmV K H x s f->Kept f H H'->StmV K H' x s f
 |_,_,_,.deed hf h,_=>.deed hf (t.seqT h)
 |_,_,_,.ifs (a:=a) (b:=b) h ha hb h1 h2,k=>.ifs (t.seqT h) (k a (by simp) _ ha) (k b (by simp) _ hb) (StmsV.keep t h1 k.tail.tail.left) (StmsV.keep t h2 k.tail.tail.right)
 |_,_,_,.whl (a:=a) h ha h1,k=>.whl (t.seqT h) (k a (by simp) _ ha) (StmsV.keep t h1 k.tail)
theorem StmsV.keep(t:TSame H H'):∀{xs:List V} {ss:List Stm} {f:List Addr},StmsV K H xs ss f->Kept f H H'->StmsV K H' xs ss f
 |_,_,_,.nil,_=>.nil
 |_,_,_,.cons h1 h2,k=>.cons (StmV.keep t h1 k.left) (StmsV.keep t h2 k.right)
end
theorem StmsV.same{xs:List V}{ss:List Stm}(h:StmsV K H xs ss f)(s:Same H H'):StmsV K H' xs ss f:=h.keep s.ts (Kept.of s)
theorem StmV.same{x:V}{s:Stm}(h:StmV K H x s f)(sm:Same H H'):StmV K H' x s f:=h.keep sm.ts (Kept.of sm)
theorem StmsV.length:∀{xs:List V} {ss:List Stm} {f:List Addr},StmsV K H xs ss f->xs.length=ss.length
 |_,_,_,.nil=>rfl
 |_,_,_,.cons _ h=>by rw [dB,dB,StmsV.length h]
theorem StmsV.snoc{y:V}{r:Stm}{g:List Addr}(hy:StmV K H y r g):∀{xs:List V} {ss:List Stm} {f:List Addr},StmsV K H xs ss f->StmsV K H (xs++[y]) (ss++[r]) (f++g)
 |_,_,_,.nil=>by have:=StmsV.cons hy StmsV.nil;rw [gH] at this;exact this
 |_,_,_,.cons h1 h2=>by rw [kq];exact .cons h1 (StmsV.snoc hy h2)
mutual
theorem StmV.tracked:∀{x:V} {s:Stm} {f:List Addr},StmV K H x s f->∀a∈f,∃zs,H a=some (.lst zs)
 |_,_,_,.deed _ _,a,ha=>by cases ha
 |_,_,_,.ifs (f:=f) (g:=g) h ha hb h1 h2,c,hc=>by
  rcases zq6.mp hc with rfl | hc
  ·exact ⟨_,ha⟩
  rcases zq6.mp hc with rfl | hc
  ·exact ⟨_,hb⟩
  rcases zq16.mp hc with hc | hc
  ·exact StmsV.tracked h1 c hc
  ·exact StmsV.tracked h2 c hc
 |_,_,_,.whl h ha h1,c,hc=>by
  rcases zq6.mp hc with rfl | hc
  ·exact ⟨_,ha⟩
  ·exact StmsV.tracked h1 c hc
theorem StmsV.tracked:∀{xs:List V} {ss:List Stm} {f:List Addr},StmsV K H xs ss f->∀a∈f,∃zs,H a=some (.lst zs)
 |_,_,_,.nil,a,ha=>by cases ha
 |_,_,_,.cons h1 h2,a,ha=>by
  rcases zq16.mp ha with ha | ha
  ·exact StmV.tracked h1 a ha
  ·exact StmsV.tracked h2 a ha
end
theorem StmsV.get:∀{xs:List V} {ss:List Stm} {f:List Addr} {i:Nat} {x:V},StmsV K H xs ss f->xs[i]?=some x->∃s g,ss[i]?=some s/\StmV K H x s g/\∀a∈g,a∈f
 |_,_,_,_,_,.nil,e=>by simp at e
 |_,_,_,0,_,.cons h _,e=>by simp at e;subst e;exact ⟨_,_,rfl,h,fun a ha=>kl _ ha⟩
 |_,_,_,i+1,x,.cons _ t,e=>by obtain ⟨s,g,h1,h2,h3⟩:=StmsV.get (i:=i) (x:=x) t (by simpa using e);exact ⟨s,g,by simpa using h1,h2,fun a ha=>dY _ (h3 a ha)⟩
theorem kM{α:Type}{l₁ l₂:List α}(h1:l₁.Nodup)(h2:l₂.Nodup)(h:∀a∈l₁,a∉l₂):(l₁++l₂).Nodup:=by rw [zq65];exact ⟨h1,h2,fun a ha b hb e=>h a ha (by rw [e];exact hb)⟩
end FS
namespace FP
open PySem L2 FB FS FA PyProof.Rows
variable {K:W.Frag}
end FP
namespace FS
open PySem L2 FB PyProof.Rows
variable {a b:List Stm}
theorem rZ{f k:Str}(h:f∈opsL)(hk:opsL.contains k=false):¬f=k:=by rintro rfl;rw [List.contains_eq_mem,decide_eq_false_iff_not] at hk;exact hk h
theorem nJ{K:W.Frag}{H:Hp}{q:Addr}{d:Deed}{k:Str}{Z:V->Hp->Prop}(hf:d.fine)(hq:SqT K H q d.vs)(h1:opsL.contains k=false)(h2:¬("tell":Str)=k) (h3:¬("copy":Str)=k) (h:Z (.bl false) H):∃xs v,SqT K H q xs/\atI xs 0=some v/\rEq v (.str k) H Z:=by
 cases d with
 |tell a=>exact ⟨_,_,hq,rfl,rfl,by rw [decide_eq_false (fun z=>h2 (V.str.inj z))];exact h⟩
 |copy n a=>exact ⟨_,_,hq,rfl,rfl,by rw [decide_eq_false (fun z=>h3 (V.str.inj z))];exact h⟩
 |op f n a b=>exact ⟨_,_,hq,rfl,rfl,by rw [decide_eq_false (fun z=>rZ hf h1 (V.str.inj z))];exact h⟩
mutual
noncomputable def Stm.deep:Stm->Nat
 | .deed _=>0
 | .ifs _ a b=>max (bY a) (bY b)+1
 | .whl _ a=>bY a+1
noncomputable def bY:List Stm->Nat
 | []=>0
 |s::ss=>max s.deep (bY ss)
end
mutual
noncomputable def Stm.many:Stm->Nat
 | .deed _=>1
 | .ifs _ a b=>bc a+bc b+1
 | .whl _ a=>bc a+1
noncomputable def bc:List Stm->Nat
 | []=>0
 |s::ss=>s.many+bc ss
end
noncomputable def Opd.good(ns:List Str)(w:Int):Opd->Prop
 | .box n=>n∈ns
 | .word i=>0<=i/\i<2 ^ w.toNat
noncomputable def Deed.good(ns:List Str)(w:Int):Deed->Prop
 | .tell a=>Opd.good ns w a
 | .copy d a=>d∈ns/\Opd.good ns w a
 | .op f d a b=>f∈opsL/\d∈ns/\Opd.good ns w a/\Opd.good ns w b
mutual
noncomputable def Stm.good(ns:List Str)(w:Int):Stm->Prop
 | .deed d=>Deed.good ns w d
 | .ifs n a b=>n∈ns/\bO ns w a/\bO ns w b
 | .whl n a=>n∈ns/\bO ns w a
noncomputable def bO(ns:List Str)(w:Int):List Stm->Prop
 | []=>True
 |s::ss=>s.good ns w/\bO ns w ss
end
theorem vY(s:Stm):1<=s.many:=by cases s<;>simp [Stm.many]
theorem jx(ss:List Stm):ss.length<=bc ss:=by
 induction ss with
 |nil=>simp [bc]
 |cons s ss ih=>rw [bc,dB];have:=vY s;omega
theorem vX{s:Stm}{ss:List Stm}(h:s∈ss):s.many<=bc ss:=by
 induction ss with
 |nil=>cases h
 |cons x xs ih=>
  rw [bc];rcases zq6.mp h with z | z
  ·subst z;omega
  ·have:=ih z;omega
theorem io{s:Stm}{ss:List Stm}(h:s∈ss):s.deep<=bY ss:=by
 induction ss with
 |nil=>cases h
 |cons x xs ih=>
  rw [bY];rcases zq6.mp h with z | z
  ·subst z;omega
  ·have:=ih z;omega
theorem gR:bY (a++b)=max (bY a) (bY b):=by
 induction a with
 |nil=>simp [bY]
 |cons s ss ih=>rw [pO,bY,bY,ih,Nat.max_assoc]
theorem eT:bc (a++b)=bc a+bc b:=by
 induction a with
 |nil=>simp [bc]
 |cons s ss ih=>rw [pO,bc,bc,ih];omega
theorem goodL_append{ns:List Str}{w:Int}:bO ns w (a++b)↔bO ns w a/\bO ns w b:=by
 induction a with
 |nil=>simp [bO]
 |cons s ss ih=>rw [pO,bO,bO,ih];exact and_assoc.symm
end FS
namespace FP
open PySem L2 FB FS FA PyProof.Rows
end FP
namespace L2
open PySem PySem.Spec PyProof.Rows
variable {H:Hp} {o:HO} {p:Addr}
noncomputable def SameX(p:Addr)(H H':Hp):Prop:=∀c o,H c=some o->c≠p->H' c=some o
theorem SameX.refl:SameX p H H:=fun _ _ e _=>e
theorem SameX.trans{H1 H2:Hp}(a:SameX p H H1)(b:SameX p H1 H2):SameX p H H2:=fun c o e n=>b c o (a c o e n) n
theorem SameX.of{H':Hp}(s:Same H H'):SameX p H H':=fun c o e _=>s c o e
theorem SameX.upd:SameX p H (L2.upd H p o):=fun c u e n=>by rw [av n];exact e
theorem SameX.free{c:Addr}{H':Hp}(s:SameX p H H')(hp:H' p=some o)(h:H' c=none):H c=none:=by
 cases e:H c with
 |none=>rfl
 |some u=>
  have n:c≠p:=fun z=>by subst z;rw [hp] at h;cases h
  rw [s c u e n] at h;cases h
theorem TSame.updI{C dx:Addr}{fs:List (Str×V)}(h:H p=some (.ins C dx fs)):TSame H (L2.upd H p o):=
 ⟨fun b xs e=>by rw [av (fun z=>by rw [z,h] at e;cases e)];exact e,fun b u v e=>by rw [av (fun z=>by rw [z,h] at e;cases e)];exact e⟩
end L2
namespace FS
open PySem L2 FB PyProof.Rows
noncomputable def C9(wd:Int)(a b r:Addr):List (Str×V):=[("width",.int wd),("ins",.ref a),("boxes",.ref b),("rows",.ref r)]
structure ProgAt(K:W.Frag)(C:Addr)(H:Hp)(p:Addr)(wd:Int)(ins oth:List Str)(ss:List Stm)(a b r:Addr)(xs:List V)(f:List Addr):Prop where
 ob:∃dx,H p=some (.ins C dx (C9 wd a b r))
 ia:H a=some (.lst (ins.map V.str))
 bx:H b=some (.lst ((ins++oth).map V.str))
 rs:H r=some (.lst xs)
 st:StmsV K H xs ss f
theorem ProgAt.same{K:W.Frag}{C:Addr}{H H':Hp}{p:Addr}{wd:Int}{ins oth:List Str}{ss:List Stm}{a b r:Addr}{xs:List V}{f:List Addr}(h:ProgAt K C H p wd ins oth ss a b r xs f)(s:Same H H'):ProgAt K C H' p wd ins oth ss a b r xs f:=
 ⟨let ⟨dx,e⟩:=h.ob;⟨dx,s _ _ e⟩,s _ _ h.ia,s _ _ h.bx,s _ _ h.rs,h.st.same s⟩
theorem eD{f:Str}{v:V}:∀{fs:List (Str×V)},(fs.map (·.1)).contains f=false->dq f v fs=fs++[(f,v)]
 | [],_=>rfl
 | (g,x)::r,h=>by
  rw [cM,List.contains_cons,Bool.or_eq_false_iff] at h;have n:¬g=f:=fun z=>by subst z;simp at h
  rw [show dq f v ((g,x)::r)=(if g=f then (g,v)::r else (g,x)::dq f v r) from rfl,if_neg n,eD h.2];rfl
end FS
namespace K01M
theorem tb(x w:Nat):x / 2 ^ w % 2=(x.testBit w).toNat:=by
 rw [Nat.testBit_eq_decide_div_mod_eq];have h:x / 2 ^ w % 2=0\/x / 2 ^ w % 2=1:=by omega
 rcases h with h | h<;>simp [h]
end K01M
namespace FO
open PySem L2 K01M FB PyProof.Rows
noncomputable abbrev ops:List Str:=FB.opsL
noncomputable def oF(op:Str)(x y w:Int):Int:=
 if op="plus" then (x+y) % 2 ^ w.toNat else if op="less" then (x-y) % 2 ^ w.toNat else if op="and" then Builtin.bitAnd x y else if op="or" then Builtin.bitOr x y
 else if op="xor" then Builtin.bitXor x y else if op="below" then (if x<y then 1 else 0) else if x=y then 1 else 0
theorem Dr(a b:Nat):Builtin.bitAnd (a:Int) (b:Int)=((a &&& b:Nat):Int):=by unfold Builtin.bitAnd;rw [decide_eq_true (by omega:(0:Int)<=a),decide_eq_true (by omega:(0:Int)<=b)];rfl
theorem bOr(a b:Nat):Builtin.bitOr (a:Int) (b:Int)=((a ||| b:Nat):Int):=by
 unfold Builtin.bitOr Builtin.bitAnd;have e1:∀z:Nat,Builtin.bitNot (z:Int)=-(z:Int)-1:=fun z=>by unfold Builtin.bitNot;omega
 rw [e1,e1,decide_eq_false (by omega:¬(0:Int)<=-(a:Int)-1),decide_eq_false (by omega:¬(0:Int)<=-(b:Int)-1)];show Builtin.bitNot (Builtin.bitNot (((Builtin.bitNot (-(a:Int)-1)).toNat ||| (Builtin.bitNot (-(b:Int)-1)).toNat:Nat):Int))=_;have e2:∀z:Nat,(Builtin.bitNot (-(z:Int)-1)).toNat=z:=fun z=>by unfold Builtin.bitNot;omega
 rw [e2,e2,e1];unfold Builtin.bitNot;omega
theorem Ag{op:Str}{x y w:Int}(ho:op∈ops)(x0:0<=x)(x1:x<2 ^ w.toNat)(y0:0<=y)(y1:y<2 ^ w.toNat)(hw:1<=w):0<=oF op x y w/\oF op x y w<2 ^ w.toNat:=by
 obtain ⟨a,rfl⟩:=pQ x0;obtain ⟨b,rfl⟩:=pQ y0;have ca:((2 ^ w.toNat:Nat):Int)=2 ^ w.toNat:=by simp
 have ha:a<2 ^ w.toNat:=by rw [<- ca] at x1;omega
 have hb:b<2 ^ w.toNat:=by rw [<- ca] at y1;omega
 have hp:(0:Int)<2 ^ w.toNat:=qU (by decide);have h2:(2:Int)<=2 ^ w.toNat:=by have:2 ^ 1<=2 ^ w.toNat:=yB (by decide) (by omega);rw [<- ca];omega
 unfold oF
 split
 ·exact ⟨fc _ (by omega),iK _ hp⟩
 split
 ·exact ⟨fc _ (by omega),iK _ hp⟩
 split
 ·rw [Dr,<- ca];have:=yt (Nat.and_le_left (n:=a) (m:=b)) ha;omega
 split
 ·rw [bOr,<- ca];have:=Nat.or_lt_two_pow ha hb;omega
 split
 ·unfold Builtin.bitXor;rw [Dr,bOr,<- ca];have h1:=Nat.or_lt_two_pow ha hb;have h3:(a &&& b)<=(a ||| b):=cL Nat.and_le_left Nat.left_le_or;omega
 split
 ·split<;>omega
 ·split<;>omega
end FO
namespace FR
open PySem L2 FB FS FG FO PyProof.Rows
noncomputable abbrev Bx:=List (Key×V)
variable {b:Bx}
noncomputable def aI(b:Bx)(n:Str):Int:=(ib b n).getD 0
noncomputable def g7(b:Bx):Opd->Int
 | .box n=>aI b n
 | .word i=>i
noncomputable def de(b:Bx)(w:Int):Deed->Int
 | .tell a=>g7 b a
 | .copy _ a=>g7 b a
 | .op f _ x y=>oF f (g7 b x) (g7 b y) w
structure Stt where
 left:List Stm
 bx:Bx
 told:List Int
noncomputable def doB(w:Int)(d:Deed)(b:Bx):Bx:=match d with
 | .tell _=>b
 | .copy n _=>cv b (.inr n) (.int (de b w d))
 | .op _ n _ _=>cv b (.inr n) (.int (de b w d))
noncomputable def doT(w:Int)(d:Deed)(b:Bx)(t:List Int):List Int:=match d with
 | .tell _=>t++[de b w d]
 |_=>t
noncomputable def cP(w:Int)(s:Stt):Stt:=match s.left with
 | []=>s
 | .deed d::ss=>⟨ss,doB w d s.bx,doT w d s.bx s.told⟩
 | .ifs n x y::ss=>⟨(if aI s.bx n≠0 then x else y)++ss,s.bx,s.told⟩
 | .whl n x::ss=>⟨if aI s.bx n≠0 then x++.whl n x::ss else ss,s.bx,s.told⟩
noncomputable def dy(w:Int):Nat->Stt->Stt
 |0,s=>s
 |n+1,s=>cP w (dy w n s)
theorem uO{w:Int}{s:Stt}(h:s.left=[]):cP w s=s:=by unfold cP;rw [h]
theorem kT{w:Int}{s:Stt}{n:Nat}(h:(dy w n s).left=[]):∀m,dy w (n+m) s=dy w n s
 |0=>rfl
 |m+1=>by rw [<- Nat.add_assoc,dy,kT h m];exact uO h
structure BxG(ns:List Str)(w:Int)(b:Bx):Prop where
 isI:IntD b
 few:b.length<=1000
 has:∀n∈ns,∃x,ib b n=some x/\0<=x/\x<2 ^ w.toNat
theorem BxG.get{ns:List Str}{w:Int}{n:Str}(h:BxG ns w b)(hn:n∈ns):0<=aI b n/\aI b n<2 ^ w.toNat:=by obtain ⟨x,hx,h0,h1⟩:=h.has n hn;unfold aI;rw [hx];exact ⟨h0,h1⟩
theorem Dh{kvs:List (Key×V)}{n:Str}{x:Int}(h:ib kvs n=some x):bA kvs (.inr n)=some (.int x):=by
 unfold ib at h
 split at h
 ·next e=>cases h;exact e
 ·cases h
theorem BxG.val{ns:List Str}{w:Int}{n:Str}(h:BxG ns w b)(hn:n∈ns):bA b (.inr n)=some (.int (aI b n)):=by obtain ⟨x,hx,_⟩:=h.has n hn;unfold aI;rw [hx];exact Dh hx
theorem j0{k:Key}{v u:V}(h:bA b k=some u):(cv b k v).length=b.length:=by have:=cE k b;rw [h] at this;unfold cv;rw [if_pos (by rw [this];rfl),zq1]
theorem BxG.put{ns:List Str}{w:Int}{n:Str}{x:Int}(h:BxG ns w b)(hn:n∈ns)(h0:0<=x)(h1:x<2 ^ w.toNat):BxG ns w (cv b (.inr n) (.int x)):=
 ⟨h.isI.put _ _,by rw [j0 (h.val hn)];exact h.few,fun m hm=>by
  rw [fH]
  by_cases e:m=n
  ·rw [if_pos e];exact ⟨x,rfl,h0,h1⟩
  ·rw [if_neg e];exact h.has m hm⟩
theorem j8{ns:List Str}{w:Int}{o:Opd}(h:BxG ns w b)(ho:Opd.good ns w o):0<=g7 b o/\g7 b o<2 ^ w.toNat:=by
 cases o with
 |box n=>exact h.get ho
 |word i=>exact ho
theorem nL{ns:List Str}{w:Int}{d:Deed}(h:BxG ns w b)(hd:Deed.good ns w d)(hw:1<=w):0<=de b w d/\de b w d<2 ^ w.toNat:=by
 cases d with
 |tell a=>exact j8 h hd
 |copy n a=>exact j8 h hd.2
 |op f n x y=>obtain ⟨h1,_,h3,h4⟩:=hd;have a:=j8 h h3;have b:=j8 h h4;exact Ag h1 a.1 a.2 b.1 b.2 hw
theorem BxG.doB{ns:List Str}{w:Int}{d:Deed}(h:BxG ns w b)(hd:Deed.good ns w d)(hw:1<=w):BxG ns w (doB w d b):=by
 have l:=nL h hd hw
 cases d with
 |tell a=>exact h
 |copy n a=>exact h.put hd.1 l.1 l.2
 |op f n x y=>exact h.put hd.2.1 l.1 l.2
noncomputable def aY(ins:List Str)(ws:Bx)(ns:List Str):Bx:=ns.foldl (fun b n=>cv b (.inr n) (.int (if n∈ins then aI ws n else 0))) []
theorem fq{ins:List Str}{ws:Bx}{ns:List Str}{n:Str}:aY ins ws (ns++[n])=cv (aY ins ws ns) (.inr n) (.int (if n∈ins then aI ws n else 0)):=by unfold aY;rw [qW];rfl
theorem kJ{ins:List Str}{ws:Bx}{w:Int}(hw:∀n∈ins,0<=aI ws n/\aI ws n<2 ^ w.toNat):∀(m:Nat)(ns:List Str),ns.length=m->IntD (aY ins ws ns)/\(aY ins ws ns).length<=ns.length/\∀n∈ns,∃x,ib (aY ins ws ns) n=some x/\0<=x/\x<2 ^ w.toNat:=by
 intro m
 induction m with
 |zero=>
  intro ns h;have:ns=[]:=zq80.mp h;subst this;exact ⟨IntD.nil,zq0 _,fun n hn=>by cases hn⟩
 |succ m ih=>
  intro ns h;obtain ⟨l,x,rfl⟩:∃l x,ns=l++[x]:=⟨ns.dropLast,ns.getLast (by intro z;rw [z] at h;simp at h),(yC _).symm⟩
  have hl:l.length=m:=by simpa using h
  obtain ⟨i1,i2,i3⟩:=ih l hl;rw [fq];refine ⟨i1.put _ _,?_,fun n hn=>?_⟩
  ·have:=dN (aY ins ws l) (.inr x) (.int (if x∈ins then aI ws x else 0));rw [zq3,cy];omega
  ·rw [fH]
   by_cases e:n=x
   ·rw [if_pos e];refine ⟨_,rfl,?_⟩
    split
    ·next hm=>exact hw x hm
    ·exact ⟨Int.le_refl _,qU (by decide)⟩
   ·rw [if_neg e];refine i3 n ?_;rcases zq16.mp hn with z | z
    ·exact z
    ·exact absurd (zq2.mp z) e
end FR
namespace L2
open PySem PySem.Spec PyProof.Rows
variable {H:Hp} {p r:Addr}
section
variable {K:W.Frag} {te:TE} {ci:List Nat} {σ:St} {acc:Addr} {Q:Hp->Prop} {H1:Hp} {a:Addr} {xs:List V}
end
theorem uS{c:TT}{tb:TS}{D:d4}{σ:St}(Pv:St->Hp->Prop)(μ:St->Hp->Nat)(h0:Pv σ H)
 (hs:∀σ H,Pv σ H->c σ H fun b H1=>if b=true then ∃N:St->Hp->Prop,(∀σ' H',N σ' H'->∃m',m'<μ σ H/\m'=μ σ' H'/\Pv σ' H')/\tb {D with nx:=N,ct:=N,bk:=D.nx} σ H1 else D.nx σ H1):xY c tb D σ H:=by
 refine ⟨fun m σ H=>m=μ σ H/\Pv σ H,⟨_,rfl,h0⟩,?_⟩;rintro m σ H ⟨rfl,p⟩;exact hs σ H p
noncomputable def SameB(p r:Addr)(H H':Hp):Prop:=∀c o,H c=some o->c≠p->c≠r->H' c=some o
theorem SameB.refl:SameB p r H H:=fun _ _ e _ _=>e
theorem SameB.trans{H1 H2:Hp}(a:SameB p r H H1)(b:SameB p r H1 H2):SameB p r H H2:=fun c o e n m=>b c o (a c o e n m) n m
theorem SameB.of{H':Hp}(s:Same H H'):SameB p r H H':=fun c o e _ _=>s c o e
theorem SameB.upd1{o:HO}:SameB p r H (L2.upd H p o):=fun c u e n _=>by rw [av n];exact e
theorem SameB.upd2{o:HO}:SameB p r H (L2.upd H r o):=fun c u e _ n=>by rw [av n];exact e
end L2
namespace FW
open PySem L2 FB FS FG FO FR PyProof.Rows
section
variable {K:W.Frag} {H:Hp}
end
end FW
namespace FX
open PySem L2 FB FS FG FO FR FW PyProof.Rows
structure Nd where
 rd:List Str
 nm:Option Str
 ah:List Int
noncomputable def at0(v:Nat->Nat)(j:Int):Nat:=if j<0 then 0 else v j.toNat
noncomputable def seen(old new:Nat->Nat)(i:Nat)(j:Int):Nat:=if j<0 then 0 else if j.toNat<i then new j.toNat else old j.toNat
section
variable {n:Str} {N:List Nd} {v:Nat->Nat->Nat}
noncomputable def sq(v:Nat->Nat->Nat)(j:Int):Nat->Nat:=fun p=>at0 (v (p+1)) j
end
section
variable {S:List (List Str)}
end
end FX
namespace FX
open PySem L2 FB FS FG FO FR FW PyProof.Rows PySem.Spec
noncomputable def leS(a b:Str):Bool:=!ltCps b.cps.toList a.cps.toList
noncomputable def srt(l:List Str):List Str:=l.mergeSort leS
end FX
namespace L2
open PySem PySem.Spec PyProof.Rows
section
variable {X:Cx}
end
end L2
namespace FZ
open PySem L2 FB FS FG FO FR PyProof.Rows
inductive Ed where
 |stop
 |go (i:Nat)
 |choose (n:Str) (i j:Nat)
 deriving DecidableEq
structure Blk where
 ds:List Deed
 ed:Ed
noncomputable def aV(b:Blk)(B:List Blk):Nat×List Blk:=match b.ds,b.ed with
 | [],.go i=>(i,B)
 |_,_=>(B.length,B++[b])
mutual
noncomputable def bK:Stm->Blk->List Blk->Blk×List Blk
 | .deed d,b,B=>if b.ds.length=8 then (⟨[d],.go (aV b B).1⟩,(aV b B).2) else (⟨d::b.ds,b.ed⟩,B)
 | .ifs n x y,b,B=>
  let w:=aV b B
  let o:=aP x ⟨[],.go w.1⟩ w.2
  let wo:=aV o.1 o.2
  let p:=aP y ⟨[],.go w.1⟩ wo.2
  let wp:=aV p.1 p.2
  (⟨[],.choose n wo.1 wp.1⟩,wp.2)
 | .whl n a,b,B=>
  let w:=aV b B
  let o:=aP a ⟨[],.go w.2.length⟩ (w.2++[⟨[],.stop⟩])
  let wo:=aV o.1 o.2
  (⟨[],.go w.2.length⟩,wo.2.set w.2.length ⟨[],.choose n wo.1 w.1⟩)
noncomputable def aP:List Stm->Blk->List Blk->Blk×List Blk
 | [],b,B=>(b,B)
 |s::r,b,B=>bK s (aP r b B).1 (aP r b B).2
end
noncomputable def aO(ss:List Stm):List Blk:=(aP ss ⟨[],.stop⟩ [⟨[],.stop⟩]).2.set 0 (aP ss ⟨[],.stop⟩ [⟨[],.stop⟩]).1
noncomputable def Ed.tg:Ed->List Nat
 | .stop=>[]
 | .go i=>[i]
 | .choose _ i j=>[i,j]
theorem jW(b:Blk)(B:List Blk):((aV b B).2=B/\b.ds=[]/\b.ed=.go (aV b B).1)\/((aV b B).1=B.length/\(aV b B).2=B++[b]):=by
 obtain ⟨ds,ed⟩:=b;unfold aV
 cases ds with
 |nil=>
  cases ed with
  |stop=>exact .inr ⟨rfl,rfl⟩
  |go i=>exact .inl ⟨rfl,rfl,rfl⟩
  |choose n i j=>exact .inr ⟨rfl,rfl⟩
 |cons d r=>exact .inr ⟨rfl,rfl⟩
theorem aW(b:Blk)(B:List Blk):B.length<=(aV b B).2.length/\(aV b B).2.length<=B.length+1/\∀i,i<B.length->(aV b B).2[i]?=B[i]?:=by
 rcases jW b B with ⟨h,_⟩ | ⟨_,h⟩
 ·rw [h];exact ⟨zq0 _,by omega,fun _ _=>rfl⟩
 ·rw [h,zq3,cy];exact ⟨by omega,by omega,fun i hi=>j3 hi⟩
theorem cN{A B C:List Blk}(h1:A.length<=B.length/\∀i,i<A.length->B[i]?=A[i]?)(h2:B.length<=C.length/\∀i,i<B.length->C[i]?=B[i]?):A.length<=C.length/\∀i,i<A.length->C[i]?=A[i]?:=⟨cL h1.1 h2.1,fun i hi=>(h2.2 i (dA hi h1.1)).trans (h1.2 i hi)⟩
theorem dD(b:Blk)(B:List Blk):B.length<=(aV b B).2.length/\∀i,i<B.length->(aV b B).2[i]?=B[i]?:=⟨(aW b B).1,(aW b B).2.2⟩
theorem z9(b:Blk)(B:List Blk):B.length<=(B++[b]).length/\∀i,i<B.length->(B++[b])[i]?=B[i]?:=⟨by rw [zq3];exact pR _ _,fun _ hi=>j3 hi⟩
theorem Aj{A B:List Blk}(b:Blk)(h:A.length<=B.length/\∀i,i<A.length->B[i]?=A[i]?):A.length<=(B.set A.length b).length/\∀i,i<A.length->(B.set A.length b)[i]?=A[i]?:=⟨by rw [pM];exact h.1,fun i hi=>(uY (pL hi)).trans (h.2 i hi)⟩
mutual
theorem lD:∀(s:Stm)(b:Blk)(B:List Blk),B.length<=(bK s b B).2.length/\∀i,i<B.length->(bK s b B).2[i]?=B[i]?
 | .deed d,b,B=>by
  rw [bK]
  split
  ·exact dD b B
  ·exact ⟨zq0 _,fun _ _=>rfl⟩
 | .ifs n x y,b,B=>by
  rw [bK];exact cN (dD _ _) (cN (bo x _ _) (cN (dD _ _) (cN (bo y _ _) (dD _ _))))
 | .whl n a,b,B=>by rw [bK];exact cN (dD b B) (Aj _ (cN (z9 _ _) (cN (bo a _ _) (dD _ _))))
theorem bo:∀(l:List Stm)(b:Blk)(B:List Blk),B.length<=(aP l b B).2.length/\∀i,i<B.length->(aP l b B).2[i]?=B[i]?
 | [],b,B=>by rw [aP];exact ⟨zq0 _,fun _ _=>rfl⟩
 |s::r,b,B=>by rw [aP];exact cN (bo r b B) (lD s _ _)
end
mutual
theorem uT:∀(s:Stm)(b:Blk)(B:List Blk),(bK s b B).2.length<=B.length+3 * s.many
 | .deed d,b,B=>by
  have:=(aW b B).2.1;rw [bK,Stm.many]
  split<;>dsimp only<;>omega
 | .ifs n x y,b,B=>by
  rw [bK,Stm.many];dsimp only;have h1:=aW b B;generalize aV b B=w at *;have h2:=cA x ⟨[],.go w.1⟩ w.2;generalize aP x ⟨[],.go w.1⟩ w.2=o at *;have h3:=aW o.1 o.2;generalize aV o.1 o.2=wo at *;have h4:=cA y ⟨[],.go w.1⟩ wo.2;generalize aP y ⟨[],.go w.1⟩ wo.2=p at *;have h5:=aW p.1 p.2;generalize aV p.1 p.2=wp at *;omega
 | .whl n a,b,B=>by rw [bK,Stm.many];dsimp only;have h1:=aW b B;generalize aV b B=w at *;have h2:=cA a ⟨[],.go w.2.length⟩ (w.2++[⟨[],.stop⟩]);generalize aP a ⟨[],.go w.2.length⟩ (w.2++[⟨[],.stop⟩])=o at *;have h3:=aW o.1 o.2;generalize aV o.1 o.2=wo at *;rw [zq3,cy] at h2;rw [pM];omega
theorem cA:∀(l:List Stm)(b:Blk)(B:List Blk),(aP l b B).2.length<=B.length+3 * bc l
 | [],b,B=>by rw [aP,bc];exact pR _ _
 |s::r,b,B=>by have h1:=cA r b B;rw [aP,bc];generalize aP r b B=o at *;have h2:=uT s o.1 o.2;omega
end
theorem gM(ss:List Stm):(aO ss).length<=3 * bc ss+1/\0<(aO ss).length:=by have h1:=cA ss ⟨[],.stop⟩ [⟨[],.stop⟩];have h2:=(bo ss ⟨[],.stop⟩ [⟨[],.stop⟩]).1;unfold aO;rw [pM];simp only [List.length_singleton] at h1 h2;omega
structure BlkG(ns:List Str)(w:Int)(m:Nat)(b:Blk):Prop where
 gd:∀d∈b.ds,Deed.good ns w d
 len:b.ds.length<=8
 tg:∀i∈b.ed.tg,i<m
 nm:∀n i j,b.ed=.choose n i j->n∈ns
theorem BlkG.mono{ns:List Str}{w:Int}{m m':Nat}{b:Blk}(h:BlkG ns w m b)(hm:m<=m'):BlkG ns w m' b:=⟨h.gd,h.len,fun i hi=>dA (h.tg i hi) hm,h.nm⟩
noncomputable def gI(ns:List Str)(w:Int)(m:Nat)(B:List Blk):Prop:=∀b∈B,BlkG ns w m b
theorem goG{ns:List Str}{w:Int}{m i:Nat}(h:i<m):BlkG ns w m ⟨[],.go i⟩:=⟨fun d hd=>(yW hd).elim,cc _,fun j hj=>by rw [zq2.mp hj];exact h,fun n i j e=>by cases e⟩
theorem xR{ns:List Str}{w:Int}{m:Nat}:BlkG ns w m ⟨[],.stop⟩:=⟨fun d hd=>(yW hd).elim,cc _,fun j hj=>(yW hj).elim,fun n i j e=>by cases e⟩
theorem fW{ns:List Str}{w:Int}{b:Blk}{B:List Blk}(hb:BlkG ns w B.length b)(hB:gI ns w B.length B):(aV b B).1<(aV b B).2.length/\gI ns w (aV b B).2.length (aV b B).2:=by
 rcases jW b B with ⟨h1,h2,h3⟩ | ⟨h1,h2⟩
 ·rw [h1];exact ⟨hb.tg _ (by rw [h3];simp [Ed.tg]),hB⟩
 ·rw [h1,h2,zq3,cy];refine ⟨by omega,fun c hc=>?_⟩;rcases zq16.mp hc with z | z
  ·exact (hB c z).mono (by omega)
  ·rw [zq2.mp z];exact hb.mono (by omega)
mutual
theorem Aw{ns:List Str}{w:Int}:∀(s:Stm)(b:Blk)(B:List Blk),s.good ns w->BlkG ns w B.length b->gI ns w B.length B->BlkG ns w (bK s b B).2.length (bK s b B).1/\gI ns w (bK s b B).2.length (bK s b B).2
 | .deed d,b,B,hs,hb,hB=>by
  rw [bK]
  split
  ·obtain ⟨h1,h2⟩:=fW hb hB;exact ⟨⟨fun c hc=>by rw [zq2.mp hc];exact hs,by simp,fun i hi=>by rw [zq2.mp hi];exact h1,fun n i j e=>by cases e⟩,h2⟩
  ·next hl=>
   have:=hb.len;exact ⟨⟨fun c hc=>by
    rcases zq6.mp hc with z | z
    ·rw [z];exact hs
    ·exact hb.gd c z,by rw [dB];omega,hb.tg,hb.nm⟩,hB⟩
 | .ifs n x y,b,B,hs,hb,hB=>by
  rw [bK];dsimp only;obtain ⟨h1,h2⟩:=fW hb hB;generalize aV b B=w0 at *;obtain ⟨h3,h4⟩:=hX x ⟨[],.go w0.1⟩ w0.2 hs.2.1 (goG h1) h2;have l3:=bo x ⟨[],.go w0.1⟩ w0.2;generalize aP x ⟨[],.go w0.1⟩ w0.2=o at *;obtain ⟨h5,h6⟩:=fW h3 h4;have l5:=aW o.1 o.2;generalize aV o.1 o.2=wo at *;obtain ⟨h7,h8⟩:=hX y ⟨[],.go w0.1⟩ wo.2 hs.2.2 (goG (by omega)) h6;have l7:=bo y ⟨[],.go w0.1⟩ wo.2;generalize aP y ⟨[],.go w0.1⟩ wo.2=p at *;obtain ⟨h9,h10⟩:=fW h7 h8;have l9:=aW p.1 p.2;generalize aV p.1 p.2=wp at *;refine ⟨⟨fun d hd=>(yW hd).elim,cc _,fun i hi=>?_,fun m i j e=>by cases e;exact hs.1⟩,h10⟩;have hi':i∈[wo.1,wp.1]:=hi;rcases zq6.mp hi' with z | z
  ·omega
  ·rw [zq2.mp z];exact h9
 | .whl n a,b,B,hs,hb,hB=>by
  rw [bK];dsimp only;obtain ⟨h1,h2⟩:=fW hb hB;generalize aV b B=w0 at *;have hB2:gI ns w (w0.2++[(⟨[],.stop⟩:Blk)]).length (w0.2++[(⟨[],.stop⟩:Blk)]):=fun c hc=>by
   rw [zq3,cy];rcases zq16.mp hc with z | z
   ·exact (h2 c z).mono (by omega)
   ·rw [zq2.mp z];exact xR
  obtain ⟨h3,h4⟩:=hX a ⟨[],.go w0.2.length⟩ (w0.2++[⟨[],.stop⟩]) hs.2 (goG (by rw [zq3,cy];omega)) hB2;have l3:=bo a ⟨[],.go w0.2.length⟩ (w0.2++[⟨[],.stop⟩]);generalize aP a ⟨[],.go w0.2.length⟩ (w0.2++[⟨[],.stop⟩])=o at *;rw [zq3,cy] at l3;obtain ⟨h5,h6⟩:=fW h3 h4;have l5:=aW o.1 o.2;generalize aV o.1 o.2=wo at *;rw [pM];refine ⟨goG (by omega),fun c hc=>?_⟩;rcases Be hc with z | z
  ·exact h6 c z
  ·rw [z];refine ⟨fun d hd=>(yW hd).elim,cc _,fun i hi=>?_,fun m i j e=>by cases e;exact hs.1⟩;have hi':i∈[wo.1,w0.1]:=hi;rcases zq6.mp hi' with y | y
   ·rw [y];exact h5
   ·rw [zq2.mp y];omega
theorem hX{ns:List Str}{w:Int}:∀(l:List Stm)(b:Blk)(B:List Blk),bO ns w l->BlkG ns w B.length b->gI ns w B.length B->BlkG ns w (aP l b B).2.length (aP l b B).1/\gI ns w (aP l b B).2.length (aP l b B).2
 | [],b,B,_,hb,hB=>by rw [aP];exact ⟨hb,hB⟩
 |s::r,b,B,hl,hb,hB=>by obtain ⟨h1,h2⟩:=hX r b B hl.2 hb hB;rw [aP];exact Aw s _ _ hl.1 h1 h2
end
theorem jj{ns:List Str}{w:Int}{ss:List Stm}(h:bO ns w ss):gI ns w (aO ss).length (aO ss):=by
 obtain ⟨h1,h2⟩:=hX ss ⟨[],.stop⟩ [⟨[],.stop⟩] h xR (fun c hc=>by rw [zq2.mp hc];exact xR);unfold aO;rw [pM];intro c hc;rcases Be hc with z | z
 ·exact h2 c z
 ·rw [z];exact h1
noncomputable def Has(F B:List Blk)(k:Nat):Prop:=∀i,k<=i->i<B.length->F[i]?=B[i]?
theorem Has.sub{F B B':List Blk}{k k':Nat}(h:Has F B' k)(hk:k<=k')(hl:B.length<=B'.length)(he:∀i,k'<=i->i<B.length->B'[i]?=B[i]?):Has F B k':=fun i h1 h2=>by rw [h i (by omega) (by omega),he i h1 h2]
end FZ
namespace GA
open PySem L2 FB FS FG FO FR FZ PyProof.Rows
variable {b:Bx} {i:Nat} {l:List Stm} {x:Stm}
noncomputable def runL(w:Int):Nat->Stt->Int×Stt
 |n,⟨[],b,t⟩=>(n,⟨[],b,t⟩)
 |0,s=>(-1,s)
 |n+1,s=>runL w n (cP w s)
theorem eE{w:Int}{n:Nat}{t:List Int}:runL w n ⟨[],b,t⟩=((n:Int),(⟨[],b,t⟩:Stt)):=by cases n<;>rfl
theorem eF{w:Int}{t:List Int}:runL w 0 ⟨x::l,b,t⟩=(-1,⟨x::l,b,t⟩):=rfl
theorem cO{w:Int}{n:Nat}{t:List Int}:runL w (n+1) ⟨x::l,b,t⟩=runL w n (cP w ⟨x::l,b,t⟩):=rfl
theorem ml{w:Int}:∀{n:Nat} {s:Stt},(runL w n s).1<=n/\-1<=(runL w n s).1
 |n,⟨[],b,t⟩=>by rw [eE];exact ⟨Int.le_refl _,by dsimp only;omega⟩
 |0,⟨x::l,b,t⟩=>by rw [eF];exact ⟨show (-1:Int)<=((0:Nat):Int) by decide,Int.le_refl _⟩
 |n+1,⟨x::l,b,t⟩=>by rw [cO];have:=ml (w:=w) (n:=n) (s:=cP w ⟨x::l,b,t⟩);omega
theorem jM{w:Int}:∀(n:Nat)(s:Stt),dy w (n+1) s=dy w n (cP w s)
 |0,s=>rfl
 |n+1,s=>by have h:=jM (w:=w) n s;show cP w (dy w (n+1) s)=cP w (dy w n (cP w s));rw [h]
theorem iz{w:Int}:∀{n:Nat} {s:Stt},(runL w n s).2=dy w n s/\(0<=(runL w n s).1↔(dy w n s).left=[])
 |n,⟨[],b,t⟩=>by
  rw [eE];have h:=kT (w:=w) (s:=⟨[],b,t⟩) (n:=0) rfl n;rw [Nat.zero_add] at h;rw [h];exact ⟨rfl,fun _=>rfl,fun _=>by dsimp only;omega⟩
 |0,⟨x::l,b,t⟩=>by
  rw [eF];exact ⟨rfl,fun h=>absurd h (show ¬(0:Int)<=-1 by decide),fun h=>by cases h⟩
 |n+1,⟨x::l,b,t⟩=>by rw [cO,jM];exact iz
theorem uM{w:Int}{r:List Stm}{t:List Int}:cP w ⟨x::l++r,b,t⟩=⟨(cP w ⟨x::l,b,t⟩).left++r,(cP w ⟨x::l,b,t⟩).bx,(cP w ⟨x::l,b,t⟩).told⟩:=by
 cases x with
 |deed d=>rfl
 |ifs n p q=>show Stt.mk ((if aI b n≠0 then p else q)++(l++r)) b t=⟨(if aI b n≠0 then p else q)++l++r,b,t⟩;rw [<- kq]
 |whl n p=>
  show Stt.mk (if aI b n≠0 then p++.whl n p::(l++r) else l++r) b t=⟨(if aI b n≠0 then p++.whl n p::l else l)++r,b,t⟩
  by_cases h:aI b n≠0
  ·rw [if_pos h,if_pos h,kq];rfl
  ·rw [if_neg h,if_neg h]
theorem jL{w:Int}{r:List Stm}:∀{n:Nat} {l:List Stm} {b:Bx} {t:List Int},
  (∃m:Nat,(runL w n ⟨l,b,t⟩).1=m/\runL w n ⟨l++r,b,t⟩=runL w m ⟨r,(runL w n ⟨l,b,t⟩).2.bx,(runL w n ⟨l,b,t⟩).2.told⟩)\/
  ((runL w n ⟨l,b,t⟩).1=-1/\runL w n ⟨l++r,b,t⟩=(-1,⟨(runL w n ⟨l,b,t⟩).2.left++r,(runL w n ⟨l,b,t⟩).2.bx,(runL w n ⟨l,b,t⟩).2.told⟩))
 |n,[],b,t=>by
  rw [eE];exact .inl ⟨n,rfl,rfl⟩
 |0,x::l,b,t=>.inr ⟨rfl,rfl⟩
 |n+1,x::l,b,t=>by rw [cO,pO,cO,<- pO,uM];exact jL (n:=n) (l:=(cP w ⟨x::l,b,t⟩).left)
structure GSt(ns:List Str)(w:Int)(s:Stt):Prop where
 bx:BxG ns w s.bx
 gd:bO ns w s.left
theorem GSt.step{ns:List Str}{w:Int}{s:Stt}(h:GSt ns w s)(hw:1<=w):GSt ns w (cP w s):=by
 obtain ⟨l,b,t⟩:=s;obtain ⟨h1,h2⟩:=h
 cases l with
 |nil=>exact ⟨h1,h2⟩
 |cons x r=>
  obtain ⟨gx,gr⟩:x.good ns w/\bO ns w r:=h2
  cases x with
  |deed d=>exact ⟨h1.doB gx hw,gr⟩
  |ifs n p q=>
   obtain ⟨_,gp,gq⟩:n∈ns/\bO ns w p/\bO ns w q:=gx;refine ⟨h1,?_⟩;show bO ns w ((if aI b n≠0 then p else q)++r);refine goodL_append.mpr ⟨?_,gr⟩
   split
   ·exact gp
   ·exact gq
  |whl n p=>
   obtain ⟨gn,gp⟩:n∈ns/\bO ns w p:=gx;refine ⟨h1,?_⟩;show bO ns w (if aI b n≠0 then p++.whl n p::r else r)
   split
   ·exact goodL_append.mpr ⟨gp,⟨gn,gp⟩,gr⟩
   ·exact gr
theorem lQ{w:Int}{d:Deed}{t:List Int}:(doT w d b t).length<=t.length+1:=by
 unfold doT
 cases d with
 |tell a=>simp
 |copy n a=>simp
 |op f n x y=>simp
theorem jT{w:Int}{s:Stt}:(cP w s).told.length<=s.told.length+1:=by
 obtain ⟨l,b,t⟩:=s
 cases l with
 |nil=>exact mI _
 |cons x r=>
  cases x with
  |deed d=>exact lQ
  |ifs n p q=>exact mI _
  |whl n p=>exact mI _
theorem GSt.runL{ns:List Str}{w:Int}(hw:1<=w):∀{n:Nat} {s:Stt},GSt ns w s->GSt ns w (runL w n s).2/\(runL w n s).2.told.length<=s.told.length+n
 |n,⟨[],b,t⟩,h=>by rw [eE];exact ⟨h,pR _ _⟩
 |0,⟨x::l,b,t⟩,h=>⟨h,zq0 _⟩
 |n+1,⟨x::l,b,t⟩,h=>by rw [cO];obtain ⟨h1,h2⟩:=GSt.runL hw (n:=n) (h.step hw);have:=jT (w:=w) (s:=⟨x::l,b,t⟩);exact ⟨h1,by omega⟩
theorem iA{w:Int}:∀{n:Nat} {s:Stt} {k:Nat},(runL w n s).1=k->(runL w n s).2.told.length+k<=s.told.length+n
 |n,⟨[],b,t⟩,k,h=>by
  rw [eE] at h ⊢;dsimp only at h ⊢;omega
 |0,⟨x::l,b,t⟩,k,h=>by
  rw [eF] at h;dsimp only at h;omega
 |n+1,⟨x::l,b,t⟩,k,h=>by rw [cO] at h ⊢;have h1:=iA h;have:=jT (w:=w) (s:=⟨x::l,b,t⟩);dsimp only at this ⊢;omega
noncomputable abbrev BT:=Bx×List Int
noncomputable def dos(w:Int):List Deed->BT->BT
 | [],s=>s
 |d::r,s=>dos w r (doB w d s.1,doT w d s.1 s.2)
noncomputable def nxt(b:Bx):Ed->Option Nat
 | .stop=>none
 | .go i=>some i
 | .choose n i j=>some (if aI b n≠0 then i else j)
theorem nO{w:Int}:∀{ds:List Deed} {s:BT},s.2 <+: (dos w ds s).2
 | [],s=>kr _
 |d::r,s=>by
  have h:s.2 <+: doT w d s.1 s.2:=by
   unfold doT
   cases d with
   |tell a=>exact yD _ _
   |copy n a=>exact kr _
   |op f n x y=>exact kr _
  exact h.trans (nO (ds:=r) (s:=(doB w d s.1,doT w d s.1 s.2)))
theorem jr{w:Int}{ds:List Deed}{s:BT}{d:Deed}(h:ds[i]?=some d):dos w (ds.take (i+1)) s=(doB w d (dos w (ds.take i) s).1,doT w d (dos w (ds.take i) s).1 (dos w (ds.take i) s).2):=by
 obtain ⟨hi,e⟩:=zq10.mp h;have app:∀(l m:List Deed)(s:BT),dos w (l++m) s=dos w m (dos w l s):=by
  intro l
  induction l with
  |nil=>intro m s;rfl
  |cons x r ih=>intro m s;exact ih m _
 rw [dG hi,e,app];rfl
noncomputable def Way(F:List Blk)(b:Blk)(i:Nat):Prop:=b=⟨[],.go i⟩\/(F[i]?=some b/\¬∃j,b=⟨[],.go j⟩)
mutual
inductive jd (F:List Blk):Stm->Blk->Blk->Prop where
 |add {d:Deed} {b:Blk}:jd F (.deed d) b ⟨d::b.ds,b.ed⟩
 |cut {d:Deed} {b:Blk} {i:Nat}:Way F b i->jd F (.deed d) b ⟨[d],.go i⟩
 |ifs {n:Str} {x y:List Stm} {b c e:Blk} {i j k:Nat}:Way F b i->k9 F x ⟨[],.go i⟩ c->Way F c j->k9 F y ⟨[],.go i⟩ e->Way F e k->jd F (.ifs n x y) b ⟨[],.choose n j k⟩
 |whl {n:Str} {a:List Stm} {b c:Blk} {i j L:Nat}:Way F b i->F[L]?=some ⟨[],.choose n j i⟩->k9 F a ⟨[],.go L⟩ c->Way F c j->jd F (.whl n a) b ⟨[],.go L⟩
inductive k9 (F:List Blk):List Stm->Blk->Blk->Prop where
 |nil {b:Blk}:k9 F [] b b
 |cons {s:Stm} {r:List Stm} {b c e:Blk}:k9 F r b c->jd F s c e->k9 F (s::r) b e
end
inductive Rep (F:List Blk):List Stm->Blk->Prop where
 |nil:Rep F [] ⟨[],.stop⟩
 |go {l:List Stm} {b:Blk} {i:Nat}:Rep F l b->F[i]?=some b->(¬∃j,b=⟨[],.go j⟩)->Rep F l ⟨[],.go i⟩
 |cons {s:Stm} {l:List Stm} {b c:Blk}:jd F s b c->Rep F l b->Rep F (s::l) c
 |head {n:Str} {a l:List Stm} {b c:Blk} {i j L:Nat}:Way F b i->Rep F l b->F[L]?=some ⟨[],.choose n j i⟩->k9 F a ⟨[],.go L⟩ c->Way F c j->Rep F (.whl n a::l) ⟨[],.choose n j i⟩
theorem Rep.app{F:List Blk}:∀{l r:List Stm} {b c:Blk},k9 F l b c->Rep F r b->Rep F (l++r) c
 |_,_,_,_,.nil,h=>h
 |_,_,_,_,.cons hr hs,h=>.cons hs (Rep.app hr h)
theorem Rep.way{F:List Blk}{b:Blk}(h:Rep F l b)(hw:Way F b i):Rep F l ⟨[],.go i⟩:=by
 rcases hw with rfl | ⟨h1,h2⟩
 ·exact h
 ·exact .go h h1 h2
theorem Rep.hop{F:List Blk}{b0:Blk}(h:Rep F l b0)(e0:b0=⟨[],.go i⟩):∃b,F[i]?=some b/\Rep F l b/\¬∃j,b=⟨[],.go j⟩:=by
 cases h with
 |nil=>cases e0
 |go h1 h2 h3=>cases e0;exact ⟨_,h2,h1,h3⟩
 |head=>cases e0
 |cons hs h1=>
  cases hs with
  |add=>cases e0
  |cut=>cases e0
  |ifs=>cases e0
  |whl w0 hL ha hw=>
   cases e0
   exact ⟨_,hL,.head w0 h1 hL ha hw,fun ⟨j,e⟩=>by cases e⟩
theorem fX{F:List Blk}{b:Blk}{B:List Blk}(h:Has F (aV b B).2 B.length):Way F b (aV b B).1:=by
 by_cases e:∃j,b=⟨[],.go j⟩
 ·obtain ⟨j,rfl⟩:=e;exact .inl rfl
 ·rcases jW b B with ⟨h1,h2,h3⟩ | ⟨h1,h2⟩
  ·exact absurd ⟨(aV b B).1,by rw [<- h3,<- h2]⟩ e
  ·refine .inr ⟨?_,e⟩;rw [h1,h B.length (zq0 _) (by rw [h2,zq3,cy];omega),h2,iJ (zq0 _),mJ];rfl
mutual
theorem Av{F:List Blk}:∀(s:Stm)(b:Blk)(B:List Blk),Has F (bK s b B).2 B.length->jd F s b (bK s b B).1
 | .deed d,b,B,h=>by
  rw [bK] at h ⊢
  split at h
  ·next hl=>rw [if_pos hl];exact .cut (fX h)
  ·next hl=>
   rw [if_neg hl];exact .add
 | .ifs n x y,b,B,h=>by
  rw [bK] at h ⊢;dsimp only at h ⊢;have g1:=aW b B;have r1:=fun h=>fX (F:=F) (b:=b) (B:=B) h;generalize aV b B=w at *;have g2:=bo x ⟨[],.go w.1⟩ w.2;have r2:=fun h=>hE (F:=F) x ⟨[],.go w.1⟩ w.2 h;generalize aP x ⟨[],.go w.1⟩ w.2=o at *;have g3:=aW o.1 o.2;have r3:=fun h=>fX (F:=F) (b:=o.1) (B:=o.2) h;generalize aV o.1 o.2=wo at *;have g4:=bo y ⟨[],.go w.1⟩ wo.2;have r4:=fun h=>hE (F:=F) y ⟨[],.go w.1⟩ wo.2 h;generalize aP y ⟨[],.go w.1⟩ wo.2=p at *;have g5:=aW p.1 p.2;have r5:=fun h=>fX (F:=F) (b:=p.1) (B:=p.2) h;generalize aV p.1 p.2=wp at *;have a12:=cL g1.1 g2.1;have a13:=cL a12 g3.1;have a14:=cL a13 g4.1;have b4:=g5.1;have b3:=cL g4.1 b4;have b2:=cL g3.1 b3;have b1:=cL g2.1 b2;have u3:∀i,i<wo.2.length->wp.2[i]?=wo.2[i]?:=fun i h2=>(g5.2.2 i (dA h2 g4.1)).trans (g4.2 i h2);have u2:∀i,i<o.2.length->wp.2[i]?=o.2[i]?:=fun i h2=>(u3 i (dA h2 g3.1)).trans (g3.2.2 i h2);have u1:∀i,i<w.2.length->wp.2[i]?=w.2[i]?:=fun i h2=>(u2 i (dA h2 g2.1)).trans (g2.2 i h2);have e5:Has F wp.2 p.2.length:=h.sub a14 (zq0 _) fun _ _ _=>rfl;have e4:Has F p.2 wo.2.length:=h.sub a13 b4 fun i _ h2=>g5.2.2 i h2;have e3:Has F wo.2 o.2.length:=h.sub a12 b3 fun i _ h2=>u3 i h2;have e2:Has F o.2 w.2.length:=h.sub g1.1 b2 fun i _ h2=>u2 i h2;have e1:Has F w.2 B.length:=h.sub (zq0 _) b1 fun i _ h2=>u1 i h2;exact .ifs (r1 e1) (r2 e2) (r3 e3) (r4 e4) (r5 e5)
 | .whl n a,b,B,h=>by
  rw [bK] at h ⊢;dsimp only at h ⊢;have g1:=aW b B;have r1:=fun h=>fX (F:=F) (b:=b) (B:=B) h;generalize aV b B=w at *;have g2:=bo a ⟨[],.go w.2.length⟩ (w.2++[⟨[],.stop⟩]);have r2:=fun h=>hE (F:=F) a ⟨[],.go w.2.length⟩ (w.2++[⟨[],.stop⟩]) h;generalize aP a ⟨[],.go w.2.length⟩ (w.2++[⟨[],.stop⟩])=o at *;rw [zq3,cy] at g2 r2;have g3:=aW o.1 o.2;have r3:=fun h=>fX (F:=F) (b:=o.1) (B:=o.2) h;generalize aV o.1 o.2=wo at *;have lset:(wo.2.set w.2.length (⟨[],.choose n wo.1 w.1⟩:Blk)).length=wo.2.length:=pM ..;have c1:w.2.length<o.2.length:=g2.1;have c2:w.2.length<wo.2.length:=dA c1 g3.1;have le2:=mG c2;have nes:∀i,w.2.length<i->(wo.2.set w.2.length (⟨[],.choose n wo.1 w.1⟩:Blk))[i]?=wo.2[i]?:=fun i hi=>uY (cm hi);have nel:∀i,i<w.2.length->(wo.2.set w.2.length (⟨[],.choose n wo.1 w.1⟩:Blk))[i]?=wo.2[i]?:=fun i hi=>uY (pL hi);have e3:Has F wo.2 o.2.length:=h.sub (cL g1.1 (mG c1)) (v0 lset.symm) fun i h1 h2=>nes i (dA c1 h1);have e2:Has F o.2 (w.2.length+1):=h.sub (Nat.le_succ_of_le g1.1) (cL g3.1 (v0 lset.symm)) fun i h1 h2=>(nes i h1).trans (g3.2.2 i h2);have e1:Has F w.2 B.length:=h.sub (zq0 _) (cL le2 (v0 lset.symm)) fun i h1 h2=>by rw [nel i h2,g3.2.2 i (Nat.lt_trans h2 c1),g2.2 i (yE h2),j3 h2]
  have el:F[w.2.length]?=some ⟨[],.choose n wo.1 w.1⟩:=by rw [h w.2.length g1.1 (dA c2 (v0 lset.symm)),yQ c2]
  exact .whl (r1 e1) el (r2 e2) (r3 e3)
theorem hE{F:List Blk}:∀(l:List Stm)(b:Blk)(B:List Blk),Has F (aP l b B).2 B.length->k9 F l b (aP l b B).1
 | [],b,B,_=>by rw [aP];exact .nil
 |s::r,b,B,h=>by rw [aP] at h ⊢;have g1:=bo r b B;have r1:=fun h=>hE (F:=F) r b B h;generalize aP r b B=o at *;have g2:=lD s o.1 o.2;have r2:=fun h=>Av (F:=F) s o.1 o.2 h;generalize bK s o.1 o.2=p at *;exact .cons (r1 (h.sub (zq0 _) g2.1 fun i _ h2=>g2.2 i h2)) (r2 (h.sub g1.1 (zq0 _) fun _ _ _=>rfl))
end
theorem lN(ss:List Stm):∃c,(aO ss)[0]?=some c/\Rep (aO ss) ss c:=by have g:=bo ss ⟨[],.stop⟩ [⟨[],.stop⟩];have r:=fun h=>hE (F:=aO ss) ss ⟨[],.stop⟩ [⟨[],.stop⟩] h;have e0:aO ss=(aP ss ⟨[],.stop⟩ [⟨[],.stop⟩]).2.set 0 (aP ss ⟨[],.stop⟩ [⟨[],.stop⟩]).1:=rfl;generalize aP ss ⟨[],.stop⟩ [⟨[],.stop⟩]=o at *;rw [cy] at g r;refine ⟨o.1,by rw [e0,yQ (by omega)],?_⟩;have h:=Rep.app (r fun j h1 h2=>by rw [e0,uY (by omega)]) (.nil (F:=aO ss));rwa [gH] at h
theorem wY{l l' c:List Int}(h:l <+: c)(h':l' <+: c):l.take (min l.length l'.length)=l'.take (min l.length l'.length):=by
 obtain ⟨r,rfl⟩:=h;obtain ⟨r',e⟩:=h';have e1:l.take (min l.length l'.length)=(l++r).take (min l.length l'.length):=by rw [Bf (Nat.min_le_left ..)]
 have e2:l'.take (min l.length l'.length)=(l'++r').take (min l.length l'.length):=by rw [Bf (AF ..)]
 rw [e1,e2,e]
end GA
namespace GD
variable {b bt dn:List Nat} {p r:Nat}
section
variable (G:Nat->Nat->Option Int) (so:Nat->Nat) (U:Nat->Int)
noncomputable def fk(bt:List Nat)(s:Nat):Nat:=bt.countP fun o=>decide (so o=s)
noncomputable def cR(dn bt:List Nat)(p j:Nat):Bool:=match G j p with
 |none=>true
 |some l=>decide (j∈dn) || (decide (l=0)&&decide (j∈bt))
noncomputable def bJ(dn bt:List Nat)(p:Nat):Bool:=!(decide (so p<3)&&decide ((fk so bt (so p):Int)=U (so p)))&&(List.range p).all (cR G dn bt p)
noncomputable def gh(dn bt:List Nat)(p:Nat):List (List Nat):=(if bJ G so U dn bt p=true then [bt++[p]] else [])++(if bJ G so U dn bt p=false\/so p<3 then [bt] else [])
noncomputable def bE(dn:List Nat)(bts:List (List Nat))(p:Nat):List (List Nat):=bts.flatMap fun b=>gh G so U dn b p
noncomputable def ck(n:Nat)(dn:List Nat):List Nat:=(List.range n).filter fun p=>!decide (p∈dn)
noncomputable def roomB(dn b ms:List Nat):Bool:=ms.any fun p=>!decide (p∈b)&&bJ G so U dn b p
noncomputable def bZ(n:Nat)(dn:List Nat):List (List Nat):=((ck n dn).foldl (bE G so U dn) [[]]).filter fun b=>!roomB G so U dn b (ck n dn)
noncomputable def cT(n:Nat)(dn b:List Nat):List Nat:=(List.range n).filter fun p=>decide (p∈dn) || decide (p∈b)
noncomputable def i0(acc:List (List Nat×List (List Nat)))(k:List Nat)(v:List (List Nat)):List (List Nat×List (List Nat)):=if k∈acc.map (·.1) then acc else acc++[(k,v)]
noncomputable def dH(n:Nat)(acc:List (List Nat×List (List Nat)))(w:List Nat×List (List Nat))(bs:List (List Nat)):List (List Nat×List (List Nat)):=bs.foldl (fun acc b=>i0 acc (cT n w.1 b) (w.2++[b])) acc
noncomputable def B3(n:Nat)(ws:List (List Nat×List (List Nat))):List (List Nat×List (List Nat)):=ws.foldl (fun acc w=>dH n acc w (bZ G so U n w.1)) []
noncomputable def ce(n:Nat):Nat->List (List Nat×List (List Nat))
 |0=>[([],[])]
 |r+1=>B3 G so U n (ce n r)
inductive Lay (n:Nat):List (List Nat)->List Nat->Prop
 |nil:Lay n [] []
 |snoc {bss dn b}:Lay n bss dn->b∈bZ G so U n dn->Lay n (bss++[b]) (cT n dn b)
structure Fine(dn ms b:List Nat):Prop where
 sub:b.Sublist ms
 lean:∀p∈b,∀j,j<p->cR G dn b p j=true
 load:∀s,s<3->(fk so b s:Int)<=U s
end
section
variable {G:Nat->Nat->Option Int} {so:Nat->Nat} {U:Nat->Int} {n:Nat}
theorem tK{s:Nat}:fk so (bt++[p]) s=fk so bt s+(if so p=s then 1 else 0):=by unfold fk;rw [List.countP_append];simp [List.countP_cons]
theorem jf{e:List Nat}{j:Nat}(h:cR G dn b p j=true):cR G dn (b++e) p j=true:=by
 unfold cR at *
 split
 ·rfl
 ·rename_i l hl
  rw [hl] at h;simp only [Bool.or_eq_true,Bool.and_eq_true,decide_eq_true_eq,List.mem_append] at *;rcases h with h | ⟨h1,h2⟩
  ·exact .inl h
  ·exact .inr ⟨h1,.inl h2⟩
theorem fits_iff:bJ G so U dn bt p=true↔(so p<3->(fk so bt (so p):Int)≠U (so p))/\∀j,j<p->cR G dn bt p j=true:=by
 unfold bJ;simp only [Bool.and_eq_true,Bool.not_eq_true',Bool.and_eq_false_iff,decide_eq_false_iff_not,List.all_eq_true,List.mem_range]
 constructor
 ·rintro ⟨h1,h2⟩;exact ⟨fun h=>h1.elim (fun z=>absurd h z) id,h2⟩
 ·rintro ⟨h1,h2⟩;refine ⟨?_,h2⟩
  by_cases h:so p<3
  ·exact .inr (h1 h)
  ·exact .inl h
theorem Fine.mono{ms ms':List Nat}(h:Fine G so U dn ms b)(hs:ms.Sublist ms'):Fine G so U dn ms' b:=⟨h.sub.trans hs,h.lean,h.load⟩
theorem Fine.add{ms:List Nat}(h:Fine G so U dn ms b)(hf:bJ G so U dn b p=true):Fine G so U dn (ms++[p]) (b++[p]):=by
 obtain ⟨h1,h2⟩:=fits_iff.mp hf;refine ⟨h.sub.append (List.Sublist.refl _),fun q hq j hj=>?_,fun s hs=>?_⟩
 ·rcases zq16.mp hq with hq | hq
  ·exact jf (h.lean q hq j hj)
  ·rw [zq2.mp hq] at hj ⊢;exact jf (h2 j hj)
 ·rw [tK];have:=h.load s hs
  by_cases e:so p=s
  ·have:=h1 (by omega);rw [if_pos e];rw [e] at this;omega
  ·rw [if_neg e];omega
theorem oe{c:List Nat}(h:c∈gh G so U dn bt p):(bJ G so U dn bt p=true/\c=bt++[p])\/c=bt:=by
 unfold gh at h;rcases zq16.mp h with h | h
 ·split at h
  ·exact .inl ⟨by assumption,zq2.mp h⟩
  ·cases h
 ·split at h
  ·exact .inr (zq2.mp h)
  ·cases h
theorem gz{dn:List Nat}:∀(ms pre:List Nat)(bts:List (List Nat)),(∀b∈bts,Fine G so U dn pre b)->∀b∈ms.foldl (bE G so U dn) bts,Fine G so U dn (pre++ms) b
 | [],pre,bts,h,b,hb=>by rw [gH];exact h b hb
 |p::ms,pre,bts,h,b,hb=>by
  have z:=gz ms (pre++[p]) (bE G so U dn bts p) (fun c hc=>by
   obtain ⟨b',hb',hc⟩:=zq100.mp hc;rcases oe hc with ⟨hf,rfl⟩ | rfl
   ·exact (h _ hb').add hf
   ·exact (h _ hb').mono (List.sublist_append_left ..)) b hb
  rwa [kq] at z
theorem iq(hU:∀s,s<3->0<U s)(h:b∈bZ G so U n dn):Fine G so U dn (ck n dn) b:=by
 have z:=gz (G:=G) (so:=so) (U:=U) (dn:=dn) (ck n dn) [] [[]] (fun c hc=>by rw [zq2.mp hc];exact ⟨List.Sublist.refl _,fun p hp=>(by cases hp),fun s hs=>by have:=hU s hs;simp [fk];omega⟩) b (zq39.mp h).1
 rwa [yX] at z
theorem tW(h:b∈bZ G so U n dn):∀p∈ck n dn,p∉b->bJ G so U dn b p=false:=by intro p hp hb;have z:=(zq39.mp h).2;simp only [Bool.not_eq_true',roomB,List.any_eq_false,Bool.and_eq_true,not_and,Bool.not_eq_true',decide_eq_false_iff_not] at z;simpa using z p hp hb
theorem miss_iff:p∈ck n dn↔p<n/\p∉dn:=by unfold ck;rw [zq39,zq34];simp
theorem fz:(ck n dn).Pairwise (· < ·):=List.Pairwise.filter _ zq91
noncomputable def eS(G:Nat->Nat->Option Int)(so:Nat->Nat)(U:Nat->Int)(dn:List Nat)(b:List Nat)(p:Nat):List Nat:=if bJ G so U dn b p=true then b++[p] else b
theorem nX{dn:List Nat}:∀(ms:List Nat)(b:List Nat)(bts:List (List Nat)),b∈bts->ms.foldl (eS G so U dn) b∈ms.foldl (bE G so U dn) bts
 | [],_,_,h=>h
 |p::ms,b,bts,h=>by
  refine nX ms _ _ (zq100.mpr ⟨b,h,?_⟩);unfold eS gh
  cases hf:bJ G so U dn b p<;>simp
theorem jt{dn:List Nat}:∀(ms:List Nat)(b:List Nat),∃e,ms.foldl (eS G so U dn) b=b++e/\∀q∈e,q∈ms
 | [],b=>⟨[],by simp,fun q hq=>by cases hq⟩
 |p::ms,b=>by
  obtain ⟨e,h1,h2⟩:=jt ms (eS G so U dn b p);rw [yF,h1];unfold eS
  split
  ·exact ⟨p::e,by simp,fun q hq=>by rcases zq6.mp hq with rfl | hq<;>simp_all⟩
  ·exact ⟨e,rfl,fun q hq=>zq5 _ (h2 q hq)⟩
theorem zf{e:List Nat}{s:Nat}:fk so b s<=fk so (b++e) s:=by unfold fk;rw [List.countP_append];omega
theorem qc(hU:∀s,s<3->0<U s):(ck n dn).foldl (eS G so U dn) []∈bZ G so U n dn:=by
 have hin:=nX (G:=G) (so:=so) (U:=U) (dn:=dn) (ck n dn) [] [[]] (by simp);have hfin:=gz (G:=G) (so:=so) (U:=U) (dn:=dn) (ck n dn) [] [[]] (fun c hc=>by rw [zq2.mp hc];exact ⟨List.Sublist.refl _,fun p hp=>(by cases hp),fun s hs=>by have:=hU s hs;simp [fk];omega⟩) _ hin
 refine zq39.mpr ⟨hin,?_⟩;simp only [Bool.not_eq_true',roomB,List.any_eq_false,Bool.and_eq_true,not_and,Bool.not_eq_true',decide_eq_false_iff_not];intro p hp hb hf;obtain ⟨pre,post,e⟩:=List.append_of_mem hp;have srt:=fz (n:=n) (dn:=dn);rw [e] at srt hb hf hfin;rw [qW,yF] at hb hf hfin;obtain ⟨b0,hb0⟩:∃b0,b0=List.foldl (eS G so U dn) [] pre:=⟨_,rfl⟩
 rw [<- hb0] at hb hf hfin;obtain ⟨e2,h1,h2⟩:=jt (G:=G) (so:=so) (U:=U) (dn:=dn) post (eS G so U dn b0 p);rw [h1] at hb hf hfin;have srt2:=(List.pairwise_append.mp srt).2.1;rw [tu] at srt2;unfold eS at hb hf hfin
 by_cases hfb:bJ G so U dn b0 p=true
 ·rw [if_pos hfb] at hb;exact hb (by simp)
 ·rw [if_neg hfb] at hf hfin;obtain ⟨f1,f2⟩:=fits_iff.mp hf;refine hfb (fits_iff.mpr ⟨fun hs hc=>?_,fun j hj=>?_⟩)
  ·have a:=hfin.load _ hs;have b:=zf (so:=so) (b:=b0) (e:=e2) (s:=so p);exact f1 hs (by omega)
  ·have z:=f2 j hj;unfold cR at z ⊢
   cases hg:G j p with
   |none=>rfl
   |some l=>
    rw [hg] at z;simp only [Bool.or_eq_true,Bool.and_eq_true,decide_eq_true_eq,List.mem_append] at z ⊢;rcases z with z | ⟨z1,z2 | z2⟩
    ·exact .inl z
    ·exact .inr ⟨z1,z2⟩
    ·have:=srt2.1 j (h2 j z2);omega
theorem rL(hU:∀s,s<3->0<U s)(h:b∈bZ G so U n dn)(hm:ck n dn≠[]):b≠[]:=by
 rintro rfl;obtain ⟨p,hp⟩:∃p,p∈ck n dn:=yG _ hm;have least:∀k p,p<=k->p∈ck n dn->∃q∈ck n dn,∀j,j<q->j∈dn:=by
  intro k
  induction k with
  |zero=>intro p hk hp;exact ⟨p,hp,fun j hj=>by omega⟩
  |succ k ih=>
   intro p hk hp
   by_cases ha:∀j,j<p->j∈dn
   ·exact ⟨p,hp,ha⟩
   ·have:∃j,j<p/\j∉dn:=by apply Classical.byContradiction;intro h';apply ha;intro j hj;apply Classical.byContradiction;intro h'';exact h' ⟨j,hj,h''⟩
    obtain ⟨j,hj,hjd⟩:=this;have:=(miss_iff.mp hp).1;exact ih j (by omega) (miss_iff.mpr ⟨by omega,hjd⟩)
 obtain ⟨q,hq,hall⟩:=least p p (zq0 _) hp;have z:=tW h q hq (by simp);have y:bJ G so U dn [] q=true:=by
  refine fits_iff.mpr ⟨fun hs hc=>?_,fun j hj=>?_⟩
  ·have:=hU _ hs;simp [fk] at hc;omega
  ·unfold cR
   split
   ·rfl
   ·simp [hall j hj]
 rw [y] at z
 cases z
theorem zr:p∈cT n dn b↔p<n/\(p∈dn\/p∈b):=by unfold cT;rw [zq39,zq34];simp
noncomputable def Can(n:Nat)(dn:List Nat):Prop:=dn.Sublist (List.range n)
theorem lO:Can n (cT n dn b):=List.filter_sublist
theorem Can.lt(h:Can n dn)(hp:p∈dn):p<n:=zq34.mp (h.subset hp)
theorem Can.sorted(h:Can n dn):dn.Pairwise (· < ·):=List.Pairwise.sublist h zq91
theorem jR:∀{a b:List Nat},a.Pairwise (· < ·)->b.Pairwise (· < ·)->(∀p,p∈a↔p∈b)->a=b
 | [],[],_,_,_=>rfl
 | [],y::b,_,_,h=>absurd ((h y).mpr (by simp)) (by simp)
 |x::a,[],_,_,h=>absurd ((h x).mp (by simp)) (by simp)
 |x::a,y::b,ha,hb,h=>by
  rw [tu] at ha hb;have exy:x=y:=by
   have h1:=(h x).mp (by simp);have h2:=(h y).mpr (by simp);rcases zq6.mp h1 with e | h1
   ·exact e
   ·rcases zq6.mp h2 with e | h2
    ·exact e.symm
    ·have:=ha.1 y h2;have:=hb.1 x h1;omega
  subst exy;rw [jR ha.2 hb.2 fun p=>?_]
  constructor
  ·intro hp;rcases zq6.mp ((h p).mp (zq5 _ hp)) with e | z
   ·have:=ha.1 p hp;omega
   ·exact z
  ·intro hp;rcases zq6.mp ((h p).mpr (zq5 _ hp)) with e | z
   ·have:=hb.1 p hp;omega
   ·exact z
theorem Can.miss(h:Can n dn)(hne:dn≠List.range n):ck n dn≠[]:=by
 intro e;apply hne;refine jR h.sorted zq91 fun p=>⟨fun hp=>zq34.mpr (h.lt hp),fun hp=>?_⟩
 apply Classical.byContradiction;intro hd;have:=miss_iff.mpr ⟨zq34.mp hp,hd⟩;rw [e] at this
 cases this
theorem Can.len(h:Can n dn):dn.length<=n:=by have:=h.length_le;rwa [g9] at this
theorem Can.len_lt(h:Can n dn)(hne:dn≠List.range n):dn.length<n:=by
 rcases Nat.lt_or_ge dn.length n with z | z
 ·exact z
 ·exact absurd (h.eq_of_length (by rw [g9];have:=h.len;omega)) hne
theorem Lay.can{bss:List (List Nat)}(h:Lay G so U n bss dn):Can n dn:=by
 cases h with
 |nil=>exact List.nil_sublist _
 |snoc=>exact lO
theorem jw(h:Can n dn)(hb:b.Sublist (ck n dn)):(dn++b).Perm (cT n dn b):=by have hbm:∀p∈b,p<n/\p∉dn:=fun p hp=>miss_iff.mp (hb.subset hp);have nb:b.Nodup:=(List.Pairwise.sublist hb fz).imp fun h=>cm h;have nd:dn.Nodup:=h.sorted.imp fun h=>cm h;have nk:(cT n dn b).Nodup:=(lO (n:=n) (dn:=dn) (b:=b)).sorted.imp fun h=>cm h;have nab:(dn++b).Nodup:=zq65.mpr ⟨nd,nb,fun x hx y hy e=>by subst e;exact (hbm x hy).2 hx⟩;refine (Bg nab nk).mpr fun p=>?_;rw [zr,zq16];exact ⟨fun z=>⟨z.elim (fun z=>h.lt z) fun z=>(hbm p z).1,z⟩,fun z=>z.2⟩
theorem zq(h:Can n dn)(hb:b.Sublist (ck n dn)):(cT n dn b).length=dn.length+b.length:=by rw [<- (jw h hb).length_eq,zq3]
theorem iB{acc:List (List Nat×List (List Nat))}{k:List Nat}{v:List (List Nat)}{x:List Nat×List (List Nat)}(h:x∈i0 acc k v):x∈acc\/x=(k,v):=by
 unfold i0 at h
 split at h
 ·exact .inl h
 ·rcases zq16.mp h with h | h
  ·exact .inl h
  ·exact .inr (zq2.mp h)
theorem xG{acc:List (List Nat×List (List Nat))}{k:List Nat}{v:List (List Nat)}:k∈(i0 acc k v).map (·.1):=by
 unfold i0
 split
 ·assumption
 ·simp
theorem uK{acc:List (List Nat×List (List Nat))}{k:List Nat}{v:List (List Nat)}{x:List Nat×List (List Nat)}(h:x∈acc):x∈i0 acc k v:=by
 unfold i0
 split
 ·exact h
 ·exact kl _ h
theorem qB{acc:List (List Nat×List (List Nat))}{k:List Nat}{v:List (List Nat)}(h:(acc.map (·.1)).Nodup):((i0 acc k v).map (·.1)).Nodup:=by
 unfold i0
 split
 ·exact h
 ·rename_i hk
  rw [cD,zq65];exact ⟨h,by simp,fun x hx y hy e=>by subst e;rw [List.map_singleton,zq2] at hy;subst hy;exact hk hx⟩
structure WOk(G:Nat->Nat->Option Int)(so:Nat->Nat)(U:Nat->Int)(n r:Nat)(ws:List (List Nat×List (List Nat))):Prop where
 lay:∀w∈ws,Lay G so U n w.2 w.1/\w.2.length=r
 nodup:(ws.map (·.1)).Nodup
theorem WOk.set{acc:List (List Nat×List (List Nat))}{bss:List (List Nat)}(h:WOk G so U n (r+1) acc)(hl:Lay G so U n bss dn)(hr:bss.length=r)(hb:b∈bZ G so U n dn):WOk G so U n (r+1) (i0 acc (cT n dn b) (bss++[b])):=
 ⟨fun w hw=>by
  rcases iB hw with hw | rfl
  ·exact h.lay w hw
  ·exact ⟨hl.snoc hb,by simp [hr]⟩,qB h.nodup⟩
theorem WOk.add{w:List Nat×List (List Nat)}(hl:Lay G so U n w.2 w.1)(hr:w.2.length=r):∀(bs:List (List Nat)) (acc:List (List Nat×List (List Nat))),(∀b∈bs,b∈bZ G so U n w.1)->WOk G so U n (r+1) acc->WOk G so U n (r+1) (dH n acc w bs)
 | [],_,_,h=>h
 |b::bs,acc,hb,h=>WOk.add hl hr bs _ (fun c hc=>hb c (zq5 _ hc)) (h.set hl hr (hb b (by simp)))
theorem WOk.step:∀(ws acc:List (List Nat×List (List Nat))),(∀w∈ws,Lay G so U n w.2 w.1/\w.2.length=r)->WOk G so U n (r+1) acc->WOk G so U n (r+1) (ws.foldl (fun acc w=>dH n acc w (bZ G so U n w.1)) acc)
 | [],_,_,h=>h
 |w::ws,acc,hw,h=>WOk.step ws _ (fun x hx=>hw x (zq5 _ hx)) (WOk.add (hw w (by simp)).1 (hw w (by simp)).2 _ _ (fun _ h=>h) h)
theorem i9:∀r,WOk G so U n r (ce G so U n r)
 |0=>⟨fun w hw=>by rw [ce,zq2] at hw;subst hw;exact ⟨.nil,rfl⟩,by simp [ce]⟩
 |r+1=>WOk.step _ _ (i9 r).lay ⟨fun w hw=>(by cases hw),by simp⟩
theorem ic{w x:List Nat×List (List Nat)}:∀(bs:List (List Nat)) (acc:List (List Nat×List (List Nat))),x∈acc->x∈dH n acc w bs
 | [],_,h=>h
 |b::bs,acc,h=>ic bs _ (uK h)
theorem mN{w:List Nat×List (List Nat)}{b:List Nat}:∀(bs:List (List Nat)) (acc:List (List Nat×List (List Nat))),b∈bs->cT n w.1 b∈(dH n acc w bs).map (·.1)
 | [],_,h=>by cases h
 |c::bs,acc,h=>by
  rcases zq6.mp h with rfl | h
  ·obtain ⟨x,hx,e⟩:=zq20.mp (xG (acc:=acc) (k:=cT n w.1 b) (v:=w.2++[b]));exact zq20.mpr ⟨x,ic bs _ hx,e⟩
  ·exact mN bs _ h
theorem la{x:List Nat×List (List Nat)}:∀(ws acc:List (List Nat×List (List Nat))),x∈acc->x∈ws.foldl (fun acc w=>dH n acc w (bZ G so U n w.1)) acc
 | [],_,h=>h
 |w::ws,acc,h=>la ws _ (ic _ _ h)
theorem pv{w:List Nat×List (List Nat)}{b:List Nat}(hb:b∈bZ G so U n w.1):∀(ws acc:List (List Nat×List (List Nat))),w∈ws->cT n w.1 b∈(ws.foldl (fun acc w=>dH n acc w (bZ G so U n w.1)) acc).map (·.1)
 | [],_,h=>by cases h
 |c::ws,acc,h=>by
  rcases zq6.mp h with rfl | h
  ·obtain ⟨x,hx,e⟩:=zq20.mp (mN (n:=n) (w:=w) (bZ G so U n w.1) acc hb);exact zq20.mpr ⟨x,la ws _ hx,e⟩
  ·exact pv hb ws _ h
theorem tj(hU:∀s,s<3->0<U s):∀r,ce G so U n r≠[]
 |0=>by simp [ce]
 |r+1=>by
  obtain ⟨w,hw⟩:=yG _ (tj hU r);have z:=pv (qc (G:=G) (so:=so) hU (n:=n) (dn:=w.1)) (ce G so U n r) [] hw;intro e;rw [ce,B3] at e;rw [e] at z
  cases z
theorem pJ(hU:∀s,s<3->0<U s):∀r,(∀k,k<r->List.range n∉(ce G so U n k).map (·.1))->∀w∈ce G so U n r,r<=w.1.length
 |0,_,w,_=>cc _
 |r+1,hn,w,hw=>by
  have ih:=pJ hU r fun k hk=>hn k (by omega);have hno:=hn r (by omega);have key:∀(ws acc:List (List Nat×List (List Nat))),(∀w∈ws,Can n w.1/\w.1≠List.range n/\r<=w.1.length)->(∀w∈acc,r+1<=w.1.length)->∀w∈ws.foldl (fun acc w=>dH n acc w (bZ G so U n w.1)) acc,r+1<=w.1.length:=by
   intro ws
   induction ws with
   |nil=>intro acc _ h;exact h
   |cons v ws ihw=>
    intro acc h1 h2;refine ihw _ (fun x hx=>h1 x (zq5 _ hx)) ?_;obtain ⟨c1,c2,c3⟩:=h1 v (by simp);have inner:∀(bs:List (List Nat)) (acc:List (List Nat×List (List Nat))),(∀b∈bs,b∈bZ G so U n v.1)->(∀w∈acc,r+1<=w.1.length)->∀w∈dH n acc v bs,r+1<=w.1.length:=by
     intro bs
     induction bs with
     |nil=>intro acc _ h;exact h
     |cons b bs ihb=>
      intro acc h3 h4;refine ihb _ (fun c hc=>h3 c (zq5 _ hc)) fun x hx=>?_;rcases iB hx with hx | rfl
      ·exact h4 x hx
      ·have hb:=h3 b (by simp);have ne:=rL hU hb (c1.miss c2);have:=zq74.mpr ne;show r+1<=(cT n v.1 b).length;rw [zq c1 (iq hU hb).sub];omega
    exact inner _ _ (fun _ h=>h) h2
  exact key _ _ (fun x hx=>⟨((i9 r).lay x hx).1.can,fun e=>hno (zq20.mpr ⟨x,hx,e⟩),ih x hx⟩) (fun _ h=>by cases h) w hw
theorem As(hU:∀s,s<3->0<U s)(hn:∀k,k<=r->List.range n∉(ce G so U n k).map (·.1)):r<n:=by obtain ⟨w,hw⟩:=yG _ (tj (G:=G) (so:=so) (U:=U) (n:=n) hU r);have h1:=pJ hU r (fun k hk=>hn k (by omega)) w hw;have h2:=((i9 r).lay w hw).1.can.len_lt fun e=>hn r (zq0 _) (zq20.mpr ⟨w,hw,e⟩);omega
theorem ir{dn:List Nat}:∀(bts:List (List Nat)) (p:Nat),(bE G so U dn bts p).length<=2 * bts.length
 | [],_=>by simp [bE]
 |b::bts,p=>by
  have:=ir (dn:=dn) bts p;have h1:(gh G so U dn b p).length<=2:=by
   unfold gh;rw [zq3];have a:(if bJ G so U dn b p=true then [b++[p]] else []).length<=1:=by split<;>simp
   have c:(if bJ G so U dn b p=false\/so p<3 then [b] else []).length<=1:=by split<;>simp
   omega
  unfold bE at *;rw [List.flatMap_cons,zq3,dB];omega
theorem ju{dn:List Nat}:∀(ms:List Nat)(bts:List (List Nat)),(ms.foldl (bE G so U dn) bts).length<=2 ^ ms.length * bts.length
 | [],bts=>by simp
 |p::ms,bts=>by
  have a:=ju (dn:=dn) ms (bE G so U dn bts p);have b:=ir (G:=G) (so:=so) (U:=U) (dn:=dn) bts p;rw [yF,dB,Nat.pow_succ]
  calc _<=_:=a
   _<=2 ^ ms.length * (2 * bts.length):=Nat.mul_le_mul_left _ b
   _=_:=by rw [Nat.mul_assoc]
noncomputable def qE:List Nat->List (List Nat)
 | []=>[[]]
 |x::xs=>qE xs++(qE xs).map (x::·)
theorem pB:∀xs,(qE xs).length=2 ^ xs.length
 | []=>rfl
 |x::xs=>by rw [qE,zq3,zq1,pB xs,dB,Nat.pow_succ];omega
theorem jz:∀{xs ys:List Nat},ys.Sublist xs->ys∈qE xs
 |_,_,.slnil=>by simp [qE]
 |_,_,.cons _ h=>kl _ (jz h)
 |_,_,.cons₂ _ h=>dY _ (zq20.mpr ⟨_,jz h,rfl⟩)
theorem kN{α:Type}[DecidableEq α]:∀{L M:List α},L.Nodup->(∀x∈L,x∈M)->L.length<=M.length
 | [],M,_,_=>cc _
 |x::L,M,h,hm=>by rw [zq41] at h;have z:=kN (M:=M.erase x) h.2 fun y hy=>(List.mem_erase_of_ne (fun e=>h.1 (by rw [<- e];exact hy))).mpr (hm y (zq5 _ hy));rw [List.length_erase_of_mem (hm x (by simp))] at z;have:=List.length_pos_of_mem (hm x (by simp));rw [dB];omega
theorem WOk.len{ws:List (List Nat×List (List Nat))}(h:WOk G so U n r ws):ws.length<=2 ^ n:=by
 have z:=kN (M:=qE (List.range n)) h.nodup fun k hk=>by obtain ⟨w,hw,e⟩:=zq20.mp hk;rw [<- e];exact jz (h.lay w hw).1.can
 rwa [zq1,pB,g9] at z
end
end GD
section
open PySem PySem.Spec PyProof.Rows
namespace L2
variable {d:Addr}
section
variable {prog:Program} {w:World} {A:Around} {E:Value->Shared->Prop} {s:Shared}
theorem oM{κ:Type}[DecidableEq κ]{knd:HeapKind prog w κ}{a:Addr}{xs:List (κ×Addr×Value)}{k:κ}{v:Value}{Q:Value->Shared->Prop}(hu:knd.room A)(hkey:knd.is s.heap k a)(hm:s.heap.DictOfH knd d xs)
 (h1:∀p,atKey xs k=some p->Q p.2 {s with toks:=s.toks+knd.draws k})
 (h2:atKey xs k=none->∀h',h'.DictOfH knd d (xs++[(k,a,v)])->Heap.SameBut d s.heap h'->Q v {s with heap:=h',toks:=s.toks+knd.draws k})
 (hsz:xs.length<=sizeLine):wpAny (model prog w) A (dictSetDefault d (.ref a) v) Q E s:=by
 obtain ⟨o,es,ep,ho,hc,hd,he,his,hn⟩:=hm;unfold dictSetDefault
 try with_reducible refine wpAny_holding ?_
 refine wpAny_bind (knd.pyHash hu hkey (wpAny_bind (wpAny_dictFind_heap (s:={s with toks:=s.toks+knd.draws k}) hu hkey ho hd he his hn ?_ ?_)))
 ·intro hno;have hat:=atKey_none_of_get hno;have hnot:=not_mem_keys_of_get hno;refine wpAny_bind (wpAny_rule (wpAny_bind (wpAny_updateDictKeys (hz:=by have e:=size_of_entries he;omega) (s:={s with toks:=s.toks+knd.draws k}) ho hd (wpAny_pure (h2 hat _ ⟨_,_,ep+1,yr _ ho (Obj.isFreed_of_dict (Obj.data_mapDictKeys hd _)),
   hc.mapDictKeys _,Obj.data_mapDictKeys hd _,by simp [he,entryOfKey],fun x hx=>?_,?_⟩ (Heap.SameBut.update ..))))))
  ·rcases zq16.mp hx with hx | hx
   ·exact knd.keeps (his x hx) ho hd (Heap.SameBut.update ..)
   ·rw [zq2.mp hx];exact knd.keeps hkey ho hd (Heap.SameBut.update ..)
  ·rw [cD,zq65];refine ⟨hn,by simp,fun x hx y hy e=>?_⟩;simp only [List.map_cons,List.map_nil,List.mem_singleton] at hy;subst hy;exact hnot (e ▸ hx)
 ·intro j p hj;have hat:=atKey_of_get hn hj;refine wpAny_bind (wpAny_dictEntries (s:={s with toks:=s.toks+knd.draws k}) ho hd ?_);rw [entry_at he j,hj];exact wpAny_bind (wpAny_rule (wpAny_pure (h1 p hat)))
theorem kg{κ:Type}[DecidableEq κ](knd:HeapKind prog w κ)(d a:Addr)(hd:(d==sysModules)=false)(dflt:Value):
  MeetsIn prog w (Builtin.«dict.setdefault» ⟨[.ref d,.ref a,dflt],[]⟩) (fun A R s=>knd.room A.in1/\∃k xs,knd.is s.heap k a/\s.heap.DictOfH knd d xs/\xs.length<=sizeLine/\
   (∀p,atKey xs k=some p->R (.ok (.ret p.2)) {s with toks:=s.toks+knd.draws k})/\
   (atKey xs k=none->∀h',h'.DictOfH knd d (xs++[(k,a,dflt)])->Heap.SameBut d s.heap h'->R (.ok (.ret dflt)) {s with heap:=h',toks:=s.toks+knd.draws k})):=
 .of_wp fun A R s ⟨hu,k,xs,hkey,hm,hz,h1,h2⟩=>by unfold Builtin.«dict.setdefault»;refine wpAny_bind ?_;unfold Builtin.Dict.keyAndDefault;refine wpAny_bind (wpAny_notOrdered_dict hm.typeIs ?_);show wpAny _ _ (pure (d,Value.ref a,some dflt)) _ _ s;refine wpAny_pure ?_;show wpAny _ _ (if (d==sysModules)=true then _ else (dictSetDefault d (.ref a) dflt >>= _)) _ _ s;rw [if_neg (by rw [hd];exact zq7)];exact wpAny_bind (oM (hsz:=hz) hu hkey hm (fun p hp=>wpAny_pure ⟨p.2,rfl,h1 p hp⟩) fun hn h' hm' hs'=>wpAny_pure ⟨dflt,rfl,h2 hn h' hm' hs'⟩)
theorem ny{od:Obj}{Q:Value->Shared->Prop}(hd:(d==sysModules)=false)(hod:s.heap.get? d=some od)(hx:od.ExactDict)
 (h:Q (.ref s.heap.objs.size) {s with heap:=s.heap.push {cls:=.type "dict_items",data:=.fields #[.ref d]}}):wpAny (model prog w) A (call (.builtin "dict.items") [.ref d]) Q E s:=by
 have hT:s.TypeIs (.ref d) "dict":=⟨od,hod,hx.1⟩
 have M:MeetsIn prog w (Builtin.«dict.items» ⟨[.ref d],[]⟩) (fun _ R s=>s.TypeIs (.ref d) "dict"/\R (.ok (.ret (.ref s.heap.objs.size))) {s with heap:=s.heap.push {cls:=.type "dict_items",data:=.fields #[.ref d]}}):=.of_wp fun A R s ⟨hT,h⟩=>by unfold Builtin.«dict.items»;refine wpAny_bind ?_;unfold Builtin.Dict.noArgs;refine wpAny_bind (wpAny_notOrdered_dict hT ?_);show wpAny _ _ (pure d) _ _ s;refine wpAny_pure ?_;show wpAny _ _ (Builtin.Dict.showsAll d >>= _) _ _ s;unfold Builtin.Dict.showsAll;rw [if_neg (by rw [hd];exact zq7)];refine wpAny_bind (wpAny_pure ?_);exact wpAny_bind (wpAny_newObj_type (wpAny_pure ⟨_,rfl,h⟩))
 exact call_meetsIn PySem.F.slot_dict_items hT PySem.F.entry_dict_items (PySem.F.args_dict_items_1 _) M ⟨hT,h⟩
theorem nY{v d:Addr}{od:Obj}{es:Array DictEntry}{ep:Nat}{Q:Value->Shared->Prop}(hv:s.heap.IsItemsView v d)(ho:s.heap.get? d=some od)(hd:od.data=.dict es ep)
  (hQ:Q (.ref s.heap.objs.size) {s with heap:=s.heap.push {cls:=.type "dict_itemiterator",data:=.fields #[.none,.bool false,.ref d,.int 0 0,.int es.size 0,.int ep 0,.none,.none]}}) :
  wpAny (model prog w) A (pyIter (.ref v)) Q E s:=by
 obtain ⟨ov,hov,hcv,hdv⟩:=id hv;refine wpAny_pyIter_slot hv.typeIs F.slot_dict_items_iter (wpAny_call_entry F.slot_dict_items_iter hv.typeIs F.entry_dict_items_iter ?_ (F.args_dict_items_iter_1 _));unfold Builtin.«dict_items.__iter__»;refine wpAny_bind (wpAny_pure (wpAny_bind ?_));unfold Builtin.Dict_items.dictOf;refine wpAny_bind (wpAny_field hov hdv (x:=.ref d) rfl (wpAny_pure (wpAny_bind ?_)));unfold Builtin.Dict_items.newIterator;refine wpAny_bind (wpAny_dictEntries ho hd (wpAny_bind (wpAny_dictEpoch ho hd ?_)));rw [show Builtin.Dict_items.ownsTuple "dict_itemiterator"=true by decide];simp only [if_true];refine wpAny_newObj_type (wpAny_pure ⟨_,rfl,"dict_itemiterator",_,⟨_,d8 _ rfl,rfl⟩,F.slot_dict_itemiterator_next.lookup,?_⟩)
  (by simp only [sizeOk,Builtin.Dict_items.ownedTupleFields,List.size_toArray,List.length_append,List.length_cons,List.length_nil,sizeLine_eq];omega)
 simpa [rawInt,Builtin.Dict_items.ownedTupleFields] using hQ
theorem om{it d:Addr}{i ep:Nat}{od:Obj}{es:Array DictEntry}{en:DictEntry}{ok ov:Value}{Q:Option Value->Shared->Prop}(hit:IsItemIter s.heap it d i es.size ep ok ov)
  (hod:s.heap.get? d=some od) (hdd:od.data=.dict es ep) (hx:es[i]?=some en)
  (hQ:∀h',IsItemIterOut h' it d (i+1) es.size ep en.key en.val s.heap.objs.size->h'.get? s.heap.objs.size=some {cls:=.type "tuple",data:=.seq #[en.key,en.val]}->h'.objs.size=s.heap.objs.size+1->
   (∀b o,b≠it->s.heap.get? b=some o->h'.get? b=some o)->Q (some (.ref s.heap.objs.size)) {s with heap:=h'}) :
  wpAny (model prog w) A (pyNext (.ref it)) Q E s:=by
 obtain ⟨hp,g,dr,tk,os⟩:=s;have hT:Shared.TypeIs ⟨hp,g,dr,tk,os⟩ (.ref it) "dict_itemiterator":=⟨_,hit,rfl⟩
 have hown:Builtin.Dict_items.ownsTuple "dict_itemiterator"=true:=by decide
 have hlt:i<es.size:=(zq140.mp hx).1;unfold pyNext;refine wpAny_bind (wpAny_attempt (wpAny_callSpecial?_slot (name:=Str.ofString "__next__") hT F.slot_dict_itemiterator_next (wpAny_call_entry F.slot_dict_itemiterator_next hT F.entry_dict_itemiterator_next ?_ (F.args_dict_itemiterator_next_1 _))));refine wpAny_bind (wpAny_pure (wpAny_bind (wpAny_bind ?_)))
 first | refine wpAny_bind (wpAny_typeNameOfWhole_itemiter hT (wpAny_pure ?_)) | refine wpAny_bind (wpAny_typeNameOf_itemiter hT (wpAny_pure ?_))
 refine wpAny_bind (wpAny_fieldsOf hit rfl ?_);simp only [hown,if_true];show wpAny _ _ (if (Value.ref d==Value.none)=true then _ else _) _ _ _;rw [if_neg (show ¬((Value.ref d==Value.none)=true) from zq7)];refine wpAny_bind (wpAny_pure (wpAny_bind (wpAny_dictEntries hod hdd ?_)));rw [if_neg (by simp)];refine wpAny_bind (wpAny_pure (wpAny_bind (wpAny_dictEpoch hod hdd ?_)));rw [if_neg (by simp)];refine wpAny_pure ?_;simp only [show ¬((i:Int)<0) from by omega,if_false,Int.toNat_natCast,hx];refine wpAny_bind ?_
 first | refine wpAny_bind (wpAny_typeNameOfWhole_itemiter hT (wpAny_pure ?_)) | refine wpAny_bind (wpAny_typeNameOf_itemiter hT (wpAny_pure ?_))
 refine wpAny_bind (wpAny_isOneOf_itemiter hT ?_);show wpAny _ _ (setField (.ref it) 3 (rawInt ((i:Int)+1)) >>= _) _ _ ⟨hp,g,dr,tk,os⟩;refine wpAny_bind (wpAny_setField_rec hit (by simp) fun h₁ he₁ hs₁=>?_);replace hs₁:Heap.SameBut it hp h₁:=hs₁;replace he₁:IsItemIter h₁ it d (i+1) es.size ep ok ov:=by
  have e:((i+1:Nat):Int)=(i:Int)+1:=by omega
  unfold IsItemIter;rw [e];simpa [rawInt] using he₁
 have hT₁:Shared.TypeIs ⟨h₁,g,dr,tk,os⟩ (.ref it) "dict_itemiterator":=⟨_,he₁,rfl⟩
 refine wpAny_bind (wpAny_holding (wpAny_bind (wpAny_isOneOf_itemiter hT₁ (wpAny_bind (wpAny_isOneOf_itemiter hT₁ ?_)))));show wpAny _ _ (Builtin.Dict_items.pairFromOwner (.ref it) 6 en.key en.val) _ _ ⟨h₁,g,dr,tk,os⟩;unfold Builtin.Dict_items.pairFromOwner;refine wpAny_bind (wpAny_newTuple ?_);have he₂:IsItemIter (h₁.push {cls:=.type "tuple",data:=.seq #[en.key,en.val]}) it d (i+1) es.size ep ok ov:=c9 _ he₁;have hz₁:h₁.objs.size=hp.objs.size:=hs₁.1;have hil:it<hp.objs.size:=zq9 hit;have ht₂:(h₁.push {cls:=.type "tuple",data:=.seq #[en.key,en.val]}).get? hp.objs.size=some {cls:=.type "tuple",data:=.seq #[en.key,en.val]}:=by rw [<- hz₁];exact d8 _ rfl
 have hz₂:(h₁.push {cls:=.type "tuple",data:=.seq #[en.key,en.val]}).objs.size=hp.objs.size+1:=by rw [jZ,hz₁]
 have hk₂:∀b o,b≠it->hp.get? b=some o->(h₁.push {cls:=.type "tuple",data:=.seq #[en.key,en.val]}).get? b=some o:=fun b o hb e=>c9 _ (hs₁.extBut b o hb e);generalize h₁.push {cls:=.type "tuple",data:=.seq #[en.key,en.val]}=h₂ at he₂ ht₂ hz₂ hk₂ ⊢;show wpAny _ _ (Builtin.Dict_items.ownedTupleIsFree (.ref it) >>= _) _ _ ⟨h₂,g,dr,tk,os⟩;rw [hz₁];clear he₁ hs₁ hT₁ hz₁ h₁;refine wpAny_bind ?_;unfold Builtin.Dict_items.ownedTupleIsFree;refine wpAny_bind (wpAny_field he₂ rfl (x:=.none) rfl (wpAny_pure ?_));simp only [if_true];refine wpAny_bind (wpAny_field he₂ rfl (x:=ok) rfl (wpAny_bind (wpAny_field he₂ rfl (x:=ov) rfl ?_)));refine wpAny_bind (wpAny_setField_rec he₂ (by simp) fun h₃ he₃ hs₃=>?_);replace hs₃:Heap.SameBut it h₂ h₃:=hs₃;replace he₃:IsItemIter h₃ it d (i+1) es.size ep en.key ov:=he₃;refine wpAny_bind (wpAny_setField_rec he₃ (by simp) fun h₄ he₄ hs₄=>?_);replace hs₄:Heap.SameBut it h₃ h₄:=hs₄;replace he₄:IsItemIter h₄ it d (i+1) es.size ep en.key en.val:=he₄;refine wpAny_bind (wpAny_setField_rec he₄ (by simp) fun h₅ he₅ hs₅=>?_);replace hs₅:Heap.SameBut it h₄ h₅:=hs₅;replace he₅:IsItemIterOut h₅ it d (i+1) es.size ep en.key en.val hp.objs.size:=he₅;refine wpAny_bind (wpAny_setField_rec he₅ (by simp) fun h₆ he₆ hs₆=>?_);replace hs₆:Heap.SameBut it h₅ h₆:=hs₆;replace he₆:IsItemIterOut h₆ it d (i+1) es.size ep en.key en.val hp.objs.size:=he₆;have kp:∀b o,b≠it->h₂.get? b=some o->h₆.get? b=some o:=fun b o hb e=>hs₆.extBut b o hb (hs₅.extBut b o hb (hs₄.extBut b o hb (hs₃.extBut b o hb e)));refine wpAny_bind (wpAny_letGo (wpAny_pure (wpAny_pure ⟨_,rfl,wpAny_pure (hQ h₆ he₆ (kp _ _ (pL hil) ht₂) ?_ fun b o hb e=>kp b o hb (hk₂ b o hb e))⟩)));show h₆.objs.size=hp.objs.size+1;rw [hs₆.1,hs₅.1,hs₄.1,hs₃.1,hz₂]
theorem pY{it:Addr}{i ep:Nat}{od:Obj}{es:Array DictEntry}{ok ov:Value}{Q:Option Value->Shared->Prop}(hh:A.handled=none)(hit:IsItemIter s.heap it d i es.size ep ok ov)
 (hod:s.heap.get? d=some od) (hdd:od.data=.dict es ep) (hx:es.size<=i)
 (hQ:∀h',Heap.ExtBut it s.heap h'->Q none {s with heap:=h'}):wpAny (model prog w) A (pyNext (.ref it)) Q E s:=by
 have hT:s.TypeIs (.ref it) "dict_itemiterator":=⟨_,hit,rfl⟩
 have hown:Builtin.Dict_items.ownsTuple "dict_itemiterator"=true:=by decide
 unfold pyNext;refine wpAny_bind (wpAny_attempt (wpAny_callSpecial?_slot (name:=Str.ofString "__next__") hT F.slot_dict_itemiterator_next (wpAny_call_entry F.slot_dict_itemiterator_next hT F.entry_dict_itemiterator_next ?_ (F.args_dict_itemiterator_next_1 _))));refine wpAny_bind (wpAny_pure (wpAny_bind (wpAny_bind ?_)))
 first | refine wpAny_bind (wpAny_typeNameOfWhole_itemiter hT (wpAny_pure ?_)) | refine wpAny_bind (wpAny_typeNameOf_itemiter hT (wpAny_pure ?_))
 refine wpAny_bind (wpAny_fieldsOf hit rfl ?_);simp only [hown,if_true];show wpAny _ _ (if (Value.ref d==Value.none)=true then _ else _) _ _ s;rw [if_neg (show ¬((Value.ref d==Value.none)=true) from zq7)];refine wpAny_bind (wpAny_pure (wpAny_bind (wpAny_dictEntries hod hdd ?_)));rw [if_neg (by simp)];refine wpAny_bind (wpAny_pure (wpAny_bind (wpAny_dictEpoch hod hdd ?_)));rw [if_neg (by simp)];refine wpAny_pure ?_;simp only [show ¬((i:Int)<0) from by omega,if_false,Int.toNat_natCast,Array.getElem?_eq_none hx];refine wpAny_bind ?_
 first | refine wpAny_bind (wpAny_typeNameOfWhole_itemiter hT (wpAny_pure ?_)) | refine wpAny_bind (wpAny_typeNameOf_itemiter hT (wpAny_pure ?_))
 show wpAny _ _ (setField (.ref it) 2 .none >>= _) _ _ s;refine wpAny_bind (wpAny_setField hit rfl (by simp) ?_);show wpAny _ _ (newExc (.type "StopIteration") [] >>= _) _ _ _;refine wpAny_bind ?_;simp only [newExc,newTuple];refine wpAny_bind (wpAny_newObj_type ?_ (by size_fits));refine wpAny_bind (m:=firstArgMember _ _) (wpAny_of_eq (a:=Value.none) (by first | rfl | (simp only [firstArgMember];rfl)) ?_);refine wpAny_newObj_type ?_ (by size_fits);simp only [raiseNew];refine wpAny_bind (wpAny_handled ?_);rw [show A.in1.handled=none from hh];refine wpAny_bind (wpAny_pure (wpAny_throw ?_));refine wpAny_bind (wpAny_isInstance (T:="StopIteration") (b:=true) ⟨_,d8 _ rfl,rfl⟩ isSubtype_stop ?_);exact wpAny_pure (hQ _ (((Heap.SameBut.update ..).extBut.push _).push _))
end
end L2
namespace L2
variable {H:Hp} {Q:VK} {σ:St}
noncomputable def lH(d:Addr)(o:Obj)(kvs:List (List Key×V)):It:=
  ⟨fun i H=>H d=some (.frz o (.dT kvs))/\i<kvs.length,
   fun i H x H'=>∃p k b v,x=.ref p/\H p=none/\H'=upd H p (.tup [.ref b,v])/\kvs[i]?=some (k,v)/\H b=some (.tup (k.map kV)),
   fun i H=>H d=some (.frz o (.dT kvs))/\kvs.length<=i⟩
theorem Paired.at{α β:Type}{F:α->β->Prop}:∀{l:List α} {m:List β} {i:Nat} {x:α},Paired F l m->l[i]?=some x->∃y,m[i]?=some y/\F x y
 |_,_,_,_,.nil,e=>by simp at e
 |_,_,0,_,.cons r _,e=>by simp at e;subst e;exact ⟨_,rfl,r⟩
 |_,_,i+1,x,.cons _ t,e=>by obtain ⟨u,h1,h2⟩:=Paired.at (i:=i) (x:=x) t (by simpa using e);exact ⟨u,by simpa using h1,h2⟩
theorem vE{P:Program}{w:World}{H:Hp}{h:Heap}{d:Addr}{o:Obj}{kvs:List (List Key×V)}(ok:HOk P w H h)(e:H d=some (.frz o (.dT kvs))){es:Array DictEntry}{ep:Nat}(ho:o.data=.dict es ep):
  h.get? d=some o/\es.size=kvs.length/\∀(i:Nat)(k:List Key)(v:V),kvs[i]?=some (k,v)->∃(hs:Int)(b:Addr)(u:Value),es[i]?=some (⟨hs,.ref b,u⟩:DictEntry)/\H b=some (.tup (k.map kV))/\RelV v u:=by
 obtain ⟨e1,z,hd,xs,rel,o',es',ep',e2,ex,hdat,hes,hn⟩:=ok d _ e;rw [e1] at e2
 cases e2
 rw [ho] at hdat
 cases hdat
 refine ⟨e1,(size_of_entries hes).trans (Paired.length rel).symm,fun i k v hk=>?_⟩;obtain ⟨⟨k',b,u⟩,hx,h1,h2,h3⟩:=Paired.at rel hk;refine ⟨(tupleKind (bg P w)).hash k',b,u,?_,h2,h3⟩;rw [entry_at hes i,hx];rfl
theorem pZ:entryFor table "dict_itemiterator.__iter__"=some Builtin.«dict_keyiterator.__iter__»:=entryFor_alias (id':="dict_keyiterator.__iter__") (by kernel_rfl) rfl (by decide +kernel) (by kernel_rfl)
theorem uc{prog:Program}{w:World}{A:Around}{E:Value->Shared->Prop}{s:Shared}{it d:Addr}{i n ep:Nat}{ok ov:Value}{Q:Value->Shared->Prop}(he:IsItemIter s.heap it d i n ep ok ov)(h:Q (.ref it) s):wpAny (model prog w) A (pyIter (.ref it)) Q E s:=by
 have hT:s.TypeIs (.ref it) "dict_itemiterator":=⟨_,he,rfl⟩
 refine wpAny_pyIter_slot hT F.slot_dict_itemiterator_iter (wpAny_call_entry F.slot_dict_itemiterator_iter hT pZ ?_ (F.args_dict_itemiterator_iter_1 _));show wpAny _ _ (ret (.ref it)) _ _ s;exact wpAny_pure ⟨_,rfl,"dict_itemiterator",_,hT,F.slot_dict_itemiterator_next.lookup,h⟩
theorem qH{P:Program}{w:World}{K:W.Frag}{elts:List Expr}{k0:Nat}{pos0:Pos}(d it:Addr)(o:Obj){es:Array DictEntry}{ep:Nat}(ho:o.data=.dict es ep)(kvs:List (List Key×V)):
  kc P w K (.Tuple elts k0 pos0) (lH d o kvs) [it] it (fun i h=>∃ok ov,IsItemIter h it d i es.size ep ok ov) where
 mem:=by simp
 obj:=fun i h ⟨ok,ov,he⟩ b hb=>by
  have e:b=it:=by simpa using hb
  subst e;exact ⟨_,he,fun v z=>by
   have z':Data.fields _=Data.cell v:=z
   cases z'⟩
 keep:=fun i h h' ⟨ok,ov,he⟩ k=>⟨ok,ov,k it (by simp) _ he⟩
 item:=by
  intro X hP hw hK hc i pins s σ H E I hf st hg;subst hP hw hK;obtain ⟨ok,ov,he⟩:=st;obtain ⟨hg1,hi⟩:=hg;obtain ⟨hd,hsz,hat⟩:=vE I.hok hg1 ho;obtain ⟨⟨k,v⟩,hk⟩:∃p,kvs[i]?=some p:=⟨_,zq4 hi⟩
  obtain ⟨hs0,b,u,hen,hb,ru⟩:=hat i k v hk;obtain ⟨f0,f1,f2,f3,f4,f5⟩:=hf it (by simp);refine om he hd ho hen fun h1 ho1 hT hz1 hk1=>?_;refine ⟨_,rfl,wpAny_letOwnedTupleGo_items ho1 fun h2 he2 hs2=>?_⟩;replace hs2:Heap.SameBut it h1 h2:=hs2;have hlt:it<s.heap.objs.size:=zq9 he;have hk2:∀b o,b≠it->s.heap.get? b=some o->h2.get? b=some o:=fun b o b1 q=>(hs2.2 b b1).trans (hk1 b o b1 q);have hT2:h2.get? s.heap.objs.size=some {cls:=.type "tuple",data:=.seq #[.ref b,u]}:=(hs2.2 _ (pL hlt)).trans hT;have hn:H s.heap.objs.size=none:=I.hok.fresh (zq0 _);have nE:∀b v,H b=some v->b≠it:=fun b v q z=>by rw [z,f0] at q;cases q
  have ok2:HOk X.prog X.w H h2:=fun b v q=>(I.hok b v q).stay (fun c v' hc r=>by
   rcases hc with z | z
   ·exact hk2 c v' (by rw [z];exact nE b v q) r
   ·exact hk2 c v' (nE c _ z) r) (fun _ r=>r) fun _ _ r=>r
  have ok3:HOk X.prog X.w (upd H s.heap.objs.size (.tup [.ref b,v])) h2:=fun c w' q=>by
   by_cases hb':c=s.heap.objs.size
   ·subst hb';rw [af] at q
    cases q
    exact ⟨by show 2<=sizeLine;decide,[.ref b,u],.cons rfl (.cons ru .nil),⟨_,hT2,rfl,_,rfl⟩⟩
   ·rw [av hb'] at q;exact (ok2 c w' q).stay (fun c v' _ r=>r) (fun c r=>by rw [av (ao r hn)];exact r) fun c ys r=>by rw [av (ao r hn)];exact r
  have nlt:∀{b:Addr} {o:Obj},s.heap.get? b=some o->b≠s.heap.objs.size:=fun q=>cm (zq9 q);have I2:Inv X pins σ (upd H s.heap.objs.size (.tup [.ref b,v])) {s with heap:=h2,toks:=s.toks}:=
   I.step (g':=s.gens) (d':=s.drawn) (ch:=[it]) (fun b hb=>by rw [zq2.mp hb];exact ⟨f3,f1,f4,f5⟩)
    (fun b o _ _ hc q _=>hk2 b o (fun z=>hc (by simp [z])) q)
    (fun b o _ _ hc q _=>⟨o.slots,hk2 b o (fun z=>hc (by simp [z])) q⟩)
    (fun b o _ q n=>by rw [av (nlt q)];exact n)
    (fun b o hc q=>⟨o,hk2 b o (fun z=>hc (by simp [z])) q⟩)
    (fun b ys q=>by rw [av (ao q hn)];exact q) (fun b o v q=>by rw [av (ao q hn)];exact q) (fun b ps q=>⟨#[],by rw [av (ao q hn),q];simp⟩)
    (fun m ⟨o,es,ep,hm,r⟩=>⟨o,es,ep,hk2 _ o (Ne.symm f1) hm,r⟩) ok3 I.bare
  refine ⟨.ref s.heap.objs.size,_,I2,rfl,⟨_,k,b,v,rfl,hn,rfl,hk,hb⟩,⟨_,_,he2⟩,fun c hc=>?_⟩;rw [zq2.mp hc,av (cm hlt)];exact f0
 done:=by intro X hP hw hK hc i pins s σ H E I hf st hg;subst hP hw hK;obtain ⟨ok,ov,he⟩:=st;obtain ⟨hg1,hi⟩:=hg;obtain ⟨hd,hsz,hat⟩:=vE I.hok hg1 ho;obtain ⟨f0,f1,f2,f3,f4,f5⟩:=hf it (by simp);exact pY (I.ok.hd hc) he hd ho (by omega) fun h' eb=>⟨rfl,I.turned (t':=s.toks) (fun b o hb e=>eb b o hb e) f0 f1 f3 f4 f5⟩
 self:=fun _ _ _ _ _ ⟨_,_,he⟩ h=>uc he h
noncomputable def lU(td:TE):TI:=fun σ H R=>td σ H fun x H1=>∃a kvs,x=.ref a/\H1 a=some (.dT kvs)/\∀o,R (lH a o kvs) (upd H1 a (.frz o (.dT kvs)))
theorem uy{X:Cx}{o:Expr}{td:TE}{apos pos pos0:Pos}{elts:List Expr}{k0:Nat}(ho:PE X o td)(hbase:attributeBase o "items" X.env (eval o X.env)=eval o X.env:=by rfl) (hline:(apos.endLine==pos.line)=true:=by rfl) :
  PI X (.Tuple elts k0 pos0) (.Call (.Attribute o "items" apos) [] [] pos) (lU td):=by
 intro pins s σ H R I h;refine wpAny_Call_method0_late hbase hline (thn (ho pins s σ H _ I h) fun v s1 hhx=>?_);obtain ⟨x,H1,I1,r1,a,kvs,ex,e,q1⟩:=hhx;subst ex
 cases r1
 obtain ⟨h1,h2⟩:=qK (T:="dict") I1 (show RelV (.ref a) (.ref a) from rfl) (.inr (.inr (.inl ⟨rfl,.inr ⟨kvs,e⟩⟩)));refine ⟨"dict",_,PySem.F.plainAttrs_dict,PySem.F.slot_dict_items,PySem.F.type_dict_items,h1,h2,Calls.callWith_builtin rfl (PySem.evalArgs_none ?_)⟩;have okd:=I1.hok a _ e;obtain ⟨z,hd,xs,rel,od,es,ep,g1,g2,g3,g4,g5⟩:=id okd;refine ny hd g1 g2 ?_;refine nY (es:=es) (ep:=ep) ⟨_,d8 _ rfl,rfl,rfl⟩ (c9 _ g1) g3 ?_;have I2:Inv X pins σ (upd H1 a (.frz od (.dT kvs))) {s1 with heap:=s1.heap,toks:=s1.toks}:=I1.write (x:=a) (e:=a) (by rw [e];exact True.intro) (.inl rfl) (fun b u _ q=>q) ⟨od,g1⟩ ⟨g1,okd.stay (fun _ _ _ q=>q) (fun b q=>by rw [av (df q e (fun z=>nomatch z))];exact q) fun b ys q=>by rw [av (df q e (fun z=>nomatch z))];exact q⟩
 have I3:=I2.kept (h':=s1.heap.push {cls:=.type "dict_items",data:=.fields #[.ref a]}) (t':=s1.toks) fun b o e=>c9 _ e;refine ⟨_,[_],_,_,_,rfl,I3.kept (t':=s1.toks) fun b o e=>c9 _ e,qH a _ od g3 kvs,⟨_,_,d8 _ rfl⟩,fun b hb=>?_,q1 od⟩;rw [zq2.mp hb];exact I3.fpOk (zq0 _) (I3.hok.fresh (zq0 _))
theorem qO{X:Cx}{o:Expr}{td:TE}{apos pos pos0:Pos}{elts:List Expr}{k0:Nat}(ho:XE X o td)(hbase:attributeBase o "items" X.env (eval o X.env)=eval o X.env:=by rfl) (hline:(apos.endLine==pos.line)=true:=by rfl) :
  XI X (.Tuple elts k0 pos0) (.Call (.Attribute o "items" apos) [] [] pos) (lU td):=⟨uy ho.h hbase hline⟩
theorem uC{td:TE}{R:It->Hp->Prop}:lU td σ H R=td σ H fun x H1=>∃a kvs,x=.ref a/\H1 a=some (.dT kvs)/\∀o,R (lH a o kvs) (upd H1 a (.frz o (.dT kvs))):=rfl
theorem vF{d:Addr}{o:Obj}{kvs:List (List Key×V)}{g:TG}{tb:TS}{D:d4}(Pv:Nat->St->Hp->Prop)(h0:Pv 0 σ H)(hl:∀i σ H,i<=kvs.length->Pv i σ H->H d=some (.frz o (.dT kvs)))
 (hs:∀(i:Nat)k v b σ H p,kvs[i]?=some (k,v)->H b=some (.tup (k.map kV))->H p=none->Pv i σ H->g (.ref p) σ (upd H p (.tup [.ref b,v])) fun σ2 H2=>tb {D with nx:=Pv (i+1),ct:=Pv (i+1),bk:=D.nx} σ2 H2) (hd:∀σ H,Pv kvs.length σ H->D.nx σ H):mM (lH d o kvs) g tb D σ H:=by
 refine ⟨fun i m σ H=>m=kvs.length-i/\i<=kvs.length/\Pv i σ H,⟨kvs.length,by simp,cc _,h0⟩,?_⟩;rintro i m σ H ⟨rfl,hi,p⟩;have q:=hl i σ H hi p
 by_cases hlt:i<kvs.length
 ·refine .inr ⟨⟨q,hlt⟩,Pv (i+1),fun σ' H' p'=>⟨kvs.length-(i+1),by omega,rfl,hlt,p'⟩,fun x H' y=>?_⟩;obtain ⟨pp,k,b,v,ex,hn,eH,hk,hb⟩:=y;subst ex eH;exact hs i k v b σ H pp hk hb hn p
 ·obtain rfl:i=kvs.length:=by omega
  exact .inl ⟨⟨q,zq0 _⟩,hd σ H p⟩
section
variable {X:Cx}
noncomputable def AW:V->List V->Hp->VK->Prop:=fun x vs H Q=>∃(l b:Addr)(kvs:List (List Key×V)) (k:List Key) (v:V),x=.ref l/\vs=[.ref b,v]/\H l=some (.dT kvs)/\H b=some (.tup (k.map kV))/\kvs.length<sizeLine/\
 (∀y,bA kvs k=some y->Q y H)/\(bA kvs k=none->Q v (upd H l (.dT (kvs++[(k,v)]))))
theorem kh(hu:X.A.units+1<cLine):MtM X "dict.setdefault" AW:=by
 intro pins s σ H x vs u us Q I rx rv h;obtain ⟨l,b,kvs,k,v,rfl,rfl,hl,hb,hz,q1,q2⟩:=h
 cases rx
 obtain ⟨u1,u2,rfl,r1,r2⟩:=yf rv
 cases r1
 obtain ⟨z,hd,xs,rel,dd⟩:=vz I.hok hl;have hlen:=Paired.length rel;refine call_meetsIn PySem.F.slot_dict_setdefault dd.typeIs PySem.F.entry_dict_setdefault (PySem.F.args_dict_setdefault_3 _ _ _) (kg (tupleKind (bg X.prog X.w)) l b hd u2) ⟨tupleKind_room_in1 hu,k,xs,gB I.hok hb,dd,by omega,fun p hp=>?_,fun hn h' dd' hs=>?_⟩
 ·have rk:=rel.val k;rw [hp] at rk
  cases hv:bA kvs k with
  |none=>rw [hv] at rk;exact rk.elim
  |some y=>rw [hv] at rk;exact ⟨y,H,I.tok _,rk,q1 y hv⟩
 ·have rk:=rel.val k;rw [hn] at rk;have hv:bA kvs k=none:=by
   cases hv:bA kvs k with
   |none=>rfl
   |some y=>rw [hv] at rk;exact rk.elim
  obtain ⟨q,es,ep,hq,h2,h3,h4,_,h5⟩:=dd';refine ⟨v,_,j5 (ob:=.dT (kvs++[(k,v)])) I (by rw [hl];exact True.intro) hs ⟨q,hq⟩ ⟨by rw [zq3,cy];omega,hd,_,KT.keeps (Paired.snoc rel ⟨rfl,hb,r2⟩) fun c ys ec=>?_,q,es,ep,hq,h2,h3,h4,h5⟩,r2,q2 hv⟩;rw [av (df ec hl (fun z=>nomatch z))];exact ec
theorem CZ{l b:Addr}{v:V}:AW (.ref l) [.ref b,v] H Q=∃(kvs:List (List Key×V)) (k:List Key),H l=some (.dT kvs)/\H b=some (.tup (k.map kV))/\kvs.length<sizeLine/\
  (∀y,bA kvs k=some y->Q y H)/\(bA kvs k=none->Q v (upd H l (.dT (kvs++[(k,v)])))):=propext ⟨by rintro ⟨_,_,kvs,k,_,e1,e2,q⟩;cases e1;cases e2;exact ⟨kvs,k,q⟩,by rintro ⟨kvs,k,q⟩;exact ⟨l,b,kvs,k,v,rfl,rfl,q⟩⟩
noncomputable def sX(tk tv:TE):TE:=fun σ H Q=>∀p,H p=none->tk σ (upd H p (.dT [])) fun x H1=>tv σ H1 fun y H2=>H2 p=some (.dT [])/\∃(b:Addr)(k:List Key),x=.ref b/\H2 b=some (.tup (k.map kV))/\Q (.ref p) (upd H2 p (.dT [(k,y)]))
theorem qM{pos:Pos}{ke ve:Expr}{tk tv:TE}(hu:X.A.units+1<cLine)(hk:XE X ke tk)(hv:XE X ve tv):XE X (.Dict [some ke] [ve] pos) (sX tk tv):=⟨by
 intro pins s σ H Q I q;have hn:=I.hok.fresh (zq0 s.heap.objs.size);have I1:=I.laid (a:=s.heap.objs.size) (o:=.dT []) (h':=s.heap.push {cls:=.type "dict",data:=.dict #[]}) (t':=s.toks) (fun _ _ q=>c9 _ q) (zq0 _) (nQ s.heap I.big);refine wpAny_Dict_any rfl rfl (by simp) (by simp) ?_;refine pairTrees_cons_walk (thn (hk.h pins _ σ _ _ I1 (q _ hn)) fun u s1 ⟨x,H1,J1,rx,q1⟩=>thn (hv.h pins s1 σ H1 _ J1 q1) fun w2 s2 ⟨y,H2,J2,ry,q2⟩=>pairTrees_nil_walk ?_);obtain ⟨e,b,k,ex,hb,q3⟩:=q2;subst ex
 cases rx
 unfold storeAll;rw [List.forIn_cons];obtain ⟨z,hd,xs,rel,dd⟩:=vz J2.hok e
 cases rel
 refine wpAny_bind (wpAny_bind (wpAny_dictSet_heap (hsz:=cc _) (show X.A.units<cLine by omega) (gB J2.hok hb) dd fun h' dd' hs=>wpAny_pure ?_));dsimp only;rw [List.forIn_nil];refine wpAny_pure ⟨.ref s.heap.objs.size,_,?_,rfl,q3⟩;obtain ⟨q,es,ep,hq,h2,h3,h4,_,h5⟩:=dd';refine j5 J2 (by rw [e];exact True.intro) hs ⟨q,hq⟩ ⟨by show 1<=sizeLine;decide,hd,_,.cons ⟨rfl,?_,ry⟩ .nil,q,es,ep,hq,h2,h3,h4,h5⟩;show upd H2 s.heap.objs.size _ b=_;rw [av (df hb e (fun z=>nomatch z))];exact hb⟩
theorem xg{tk tv:TE}:sX tk tv σ H Q=∀p,H p=none->tk σ (upd H p (.dT [])) fun x H1=>tv σ H1 fun y H2=>H2 p=some (.dT [])/\∃(b:Addr)(k:List Key),x=.ref b/\H2 b=some (.tup (k.map kV))/\Q (.ref p) (upd H2 p (.dT [(k,y)])):=rfl
theorem uW{pos:Pos}:XE X (.Dict [] [] pos) xW:=⟨fun pins s σ H Q I h=>wpAny_Dict_empty ⟨.ref s.heap.objs.size,_,I.laid (a:=s.heap.objs.size) (o:=.dT []) (t':=s.toks) (fun _ _ q=>c9 _ q) (zq0 _) (nQ s.heap I.big),rfl,h _ (I.hok.fresh (zq0 _))⟩⟩
theorem zZ:xW σ H Q=∀p,H p=none->Q (.ref p) (upd H p (.dT [])):=rfl
end
end L2
namespace L2
section
variable {prog:Program} {w:World} {A:Around} {E:Value->Shared->Prop} {s:Shared}
theorem nC{Q:List Value->Shared->Prop}{r:Addr}{a b c:Int}{t u v:Tok}{n:Nat}(hh:A.handled=none)(hr:IsRange s.heap r a b c t u v)(hsmall:Builtin.Range.small a b c=true)(hn:Builtin.Range.rangeSize a b c=n)(hlen:n<=2 ^ 24)
  (hQ:∀h' tk acc,(∀b o,s.heap.get? b=some o->h'.get? b=some o)->ItemsOf (fun i v=>∃t,v=.int (a+i * c) t) acc n->Q acc.toList {s with heap:=h',toks:=tk}):wpAny (model prog w) A (collect (.ref r)) Q E s:=by
 unfold collect;refine wpAny_bind (wpAny_runValue (codeAny_builtin F.entry_proto_collect ?_));rw [Around.under_plainId F.plain_proto_collect _];show wpAny _ A.in1 (newList [] >>= fun l=>again (.builtin "list.__iadd__" ⟨[l,.ref r],[]⟩)) _ _ s;refine wpAny_bind (wpAny_newObj_type ?_);refine wpAny_pure ⟨plainId_quiet F.plain_list_iadd _,codeAny_builtin F.entry_list_iadd ?_⟩;rw [Around.under_plainId F.plain_list_iadd _];show wpAny _ A.in1 (Builtin.List.listExtendWith (.ref s.heap.objs.size) (.ref r) (.ref s.heap.objs.size)) _ _ _;have hS:(s.heap.push {cls:=.type "list",data:=.seq ([]:List Value).toArray}).get? s.heap.objs.size=some {cls:=.type "list",data:=.seq #[] 0}:=d8 _ rfl;refine wpAny_mono (wpAny_extend_range (A:=A) (s:={s with heap:=s.heap.push {cls:=.type "list",data:=.seq ([]:List Value).toArray}}) (R:=fun r' s'=>∃h' tk acc c',r'=.ok (.ret (.ref s.heap.objs.size))/\s'={s with heap:=h',toks:=tk}/\(∀b o,s.heap.get? b=some o->h'.get? b=some o)/\
   h'.get? s.heap.objs.size=some {cls:=.type "list",dict:=none,data:=.seq acc c',slots:=#[]}/\ItemsOf (fun i v=>∃t,v=.int (a+i * c) t) acc n) hh (c9 _ hr) hsmall hn hlen _ _ _ hS
  fun h' tk acc c' hk hS' hacc=>⟨h',tk,acc,c',rfl,rfl,fun b o e=>hk b o (cm (zq9 e)) (c9 _ e),hS',hacc⟩) (fun fin s' h=>?_) (fun e s' h=>?_)
 ·have fin':∀s' r',(∃h' tk acc c',r'=(Except.ok (.ret (.ref s.heap.objs.size)):Result)/\s'={s with heap:=h',toks:=tk}/\(∀b o,s.heap.get? b=some o->h'.get? b=some o)/\
   h'.get? s.heap.objs.size=some {cls:=.type "list",dict:=none,data:=.seq acc c',slots:=#[]}/\ItemsOf (fun i v=>∃t,v=.int (a+i * c) t) acc n)->wpAny (model prog w) A (match Value.ref s.heap.objs.size with
   |Value.ref a=>do
    match (<- load a).data with
     |Data.seq xs _=>pure xs.toList
     |_=>unsupported "internal:collect"
   |_=>unsupported "internal:collect") Q E s':=by
   rintro s' r' ⟨h',tk,acc,c',_,rfl,hk,hS',hacc⟩;show wpAny _ A (load s.heap.objs.size >>= _) _ _ _;refine wpAny_bind (wpAny_load hS' ?_);exact wpAny_pure (hQ h' tk acc hk hacc)
  cases fin with
  |done f=>
   obtain ⟨h',tk,acc,c',e,r⟩:=id h
   cases e
   exact fin' _ _ h
  |again c'=>exact ⟨h.1,codeAny_mono h.2 fun r s'' hr=>by obtain ⟨h',tk,acc,c',e,r⟩:=id hr;subst e;exact fin' _ _ hr⟩
 ·obtain ⟨_,_,_,_,e,_⟩:=h
  cases e
theorem iY(r:Addr)(n:Nat)(hlen:n<=1000):
  Meets (Builtin.«tuple.__new__» ⟨[.type "tuple",.ref r],[]⟩)
   (fun A R s=>A.handled=none/\(∃t u v,IsRange s.heap r 0 n 1 t u v)/\∀(h':Heap)(tk:Nat)(acc:Array Value),(∀b o,s.heap.get? b=some o->h'.get? b=some o)->ItemsOf (fun i v=>∃t,v=.int (0+i * 1) t) acc n->
    R (.ok (.ret (.ref h'.objs.size))) {s with heap:=h'.push {cls:=.type "tuple",data:=.seq acc},toks:=tk}):=
 .of_wp fun prog w A R s h=>by
  obtain ⟨hh,⟨t,u,v,hr⟩,h⟩:=h;have hsub:=sub_tuple_self;have hinit:=init_tuple_lookup;have hmh:=madeHere_tuple;have hT:s.TypeIs (.ref r) "range":=⟨_,hr,rfl⟩
  have hh1:A.in1.handled=none:=hh;have hsm:Builtin.Range.small 0 n 1=true:=small_one (by omega) (by omega) (by omega) (by omega);have hsz:Builtin.Range.rangeSize 0 n 1=n:=by rw [rangeSize_one];split<;>omega
  wp_walk using AutoSeq1.wpAny_loadPart' hr,wpAny_typeOf hT,nC hh1 hr hsm hsz (cL hlen (by decide))
  intro h' tk acc hk hacc;show wpAny _ _ (Builtin.Tuple.tupleExact acc.toList.toArray >>= fun v=>ret v) _ _ _;unfold Builtin.Tuple.tupleExact;refine wpAny_bind (wpAny_newObj_type ?_ (show acc.toList.toArray.size<=sizeLine by simp only [Array.toArray_toList];rw [hacc.1,sizeLine_eq];omega));refine wpAny_pure ⟨_,rfl,?_⟩;have e:acc.toList.toArray=acc:=by simp
  rw [e];exact h h' tk acc hk hacc
theorem jk{r:Addr}{n:Nat}{t u v:Tok}{Q:Value->Shared->Prop}(hh:A.handled=none)(hlen:n<=1000)(hr:IsRange s.heap r 0 n 1 t u v)
  (h:∀(h':Heap)(tk:Nat)(acc:Array Value),(∀b o,s.heap.get? b=some o->h'.get? b=some o)->ItemsOf (fun i v=>∃t,v=.int (0+i * 1) t) acc n->Q (.ref h'.objs.size) {s with heap:=h'.push {cls:=.type "tuple",data:=.seq acc},toks:=tk}) :
  wpAny (model prog w) A (call (.type "tuple") [.ref r]) Q E s:=
 callType_new F.called_tuple (by decide) (F.typeCall_tuple_1 _) (F.newCall_tuple_1 _) (fun obj=>F.args_object_init_2 obj _) F.entry_tuple_new
  (iY r n hlen) ⟨hh,⟨t,u,v,hr⟩,fun h' tk acc hk hacc=>⟨⟨_,d8 _ rfl,rfl⟩,h h' tk acc hk hacc⟩⟩
end
section
variable {X:Cx}
noncomputable def mB(ta:TA):TE:=fun σ H Q=>ta σ H fun vs H1=>∃n:Nat,vs=[.int n]/\n<=1000/\∀l,H1 l=none->Q (.ref l) (upd H1 l (.tup ((List.range n).map fun i:Nat=>V.int i)))
theorem ux{a:Expr}{ta:TA}{p p2 pos pos2:Pos}(hc:X.calm=true)(hm:X.mg "tuple"=none) (hm2:X.mg "range"=none) (ha:PA X [a] ta) (hg:Gl X "tuple") (hg2:Gl X "range") (hs:starEach [a] X.env=[(false,eval a X.env)]:=by rfl)
  (hs2:starEach [.Call (.Name "range" p2) [a] [] pos2] X.env=[(false,eval (.Call (.Name "range" p2) [a] [] pos2) X.env)]:=by rfl) :
  PE X (.Call (.Name "tuple" p) [.Call (.Name "range" p2) [a] [] pos2] [] pos) (mB ta):=by
 intro pins s σ H Q I h;refine Call_ (dW I hg hm boot_tuple (PyProof.Rows.callWith_type1 ?_ hs2 rfl));rw [hs2];show wpAny _ _ (spliced ((false,eval (.Call (.Name "range" p2) [a] [] pos2) X.env)::[])) _ _ s;refine Calls.spliced_cons (Call_ (dW I hg2 hm2 boot_range (PyProof.Rows.callWith_type1 (thn (ha pos2 pins s σ H _ I h) fun us s1 hhx=>?_) hs rfl)));obtain ⟨vs,H1,I1,r1,q1⟩:=hhx;obtain ⟨n,e,hn,q⟩:=q1;subst e
 cases r1 with
 |cons r rr=>
  cases rr
  obtain ⟨t,rfl⟩:=r;refine call_range_1 (Calls.spliced_nil ?_);refine jk (n:=n) (I.ok.hd hc) hn (IsRange.new ..) fun h' tk acc hk hacc=>?_;have kp:∀b u,s1.heap.get? b=some u->h'.get? b=some u:=fun b u e=>hk b u (c9 _ e);have I2:Inv X pins σ H1 {s1 with heap:=h',toks:=tk}:=I1.kept kp;refine ⟨.ref h'.objs.size,_,I2.laid (t':=tk) (fun b u e=>c9 _ e) (zq0 _) (show ObjOk X.prog X.w _ _ _ (.tup ((List.range n).map fun i:Nat=>V.int i)) from ⟨by rw [zq1,g9,sizeLine_eq];omega,acc.toList,ua hacc,?_⟩),rfl,q _ (I2.hok.fresh (zq0 _))⟩;have e:=IsTup.new h' acc;simpa using e
theorem qN{a:Expr}{ta:TA}{p p2 pos pos2:Pos}(hc:X.calm=true)(hm:X.mg "tuple"=none) (hm2:X.mg "range"=none) (ha:XA X [a] ta) (hg:Gl X "tuple") (hg2:Gl X "range") (hs:starEach [a] X.env=[(false,eval a X.env)]:=by rfl)
  (hs2:starEach [.Call (.Name "range" p2) [a] [] pos2] X.env=[(false,eval (.Call (.Name "range" p2) [a] [] pos2) X.env)]:=by rfl) :
  XE X (.Call (.Name "tuple" p) [.Call (.Name "range" p2) [a] [] pos2] [] pos) (mB ta):=⟨ux hc hm hm2 ha.h hg hg2 hs hs2⟩
theorem xv{ta:TA}{σ:St}{H:Hp}{Q:VK}:mB ta σ H Q=ta σ H fun vs H1=>∃n:Nat,vs=[.int n]/\n<=1000/\∀l,H1 l=none->Q (.ref l) (upd H1 l (.tup ((List.range n).map fun i:Nat=>V.int i))):=rfl
end
section
variable {prog:Program} {w:World} {A:Around} {E:Value->Shared->Prop} {s:Shared} {l I S:Addr} {vs:List Value} {ln:Nat->Nat} {dv:Value} {R:Result->Shared->Prop}
end
section
variable {X:Cx}
end
end L2
end
namespace GD
section
variable {G:Nat->Nat->Option Int} {so:Nat->Nat} {U:Nat->Int} {n:Nat}
end
end GD
section
open PySem PySem.Spec PyProof.Rows
namespace L2
section
variable {X:Cx}
end
end L2
namespace L2
noncomputable def AL(d:Addr)(o:Obj)(kvs:List (Key×V)):It:=
 ⟨fun i H=>H d=some (.frz o (.dK kvs))/\i<kvs.length,fun i H x H'=>H'=H/\∃k v,kvs[i]?=some (k,v)/\x=kV k,fun i H=>H d=some (.frz o (.dK kvs))/\kvs.length<=i⟩
noncomputable def DC(td:TE):TI:=fun σ H R=>td σ H fun x H1=>∃a kvs,x=.ref a/\H1 a=some (.dK kvs)/\∀o,R (AL a o kvs) (upd H1 a (.frz o (.dK kvs)))
theorem A5{td:TE}{σ:St}{H:Hp}{R:It->Hp->Prop}:DC td σ H R=td σ H fun x H1=>∃a kvs,x=.ref a/\H1 a=some (.dK kvs)/\∀o,R (AL a o kvs) (upd H1 a (.frz o (.dK kvs))):=rfl
end L2
namespace L2
noncomputable def Itz(K:W.Frag)(a b:Addr):It:=
  ⟨fun i H=>∃xs ys x y,SqL K H a xs/\SqL K H b ys/\xs[i]?=some x/\ys[i]?=some y,
   fun i H z H'=>∃p x y,z=.ref p/\H p=none/\H'=upd H p (.tup [x,y])/\(∀xs,SqL K H a xs->xs[i]?=some x)/\∀ys,SqL K H b ys->ys[i]?=some y,
   fun i H=>∃xs ys,SqL K H a xs/\SqL K H b ys/\(xs.length<=i\/ys.length<=i)⟩
noncomputable def Dp(z ti to i1 i2 a b:Addr)(i:Nat)(h:Heap):Prop:=IsZip h z ti to .none/\IsPair h ti (.ref i1) (.ref i2)/\(∃u v,IsPair h to u v)/\h.IsListIter i1 a i/\h.IsListIter i2 b i
theorem yb{P:Program}{w:World}{K:W.Frag}{elts:List Expr}{k0:Nat}{pos0:Pos}{z ti to i1 i2 a b:Addr}(D:ZipApart z ti to i1 i2 a b):
  kc P w K (.Tuple elts k0 pos0) (Itz K a b) [z,ti,to,i1,i2] z (Dp z ti to i1 i2 a b) where
 mem:=by simp
 obj:=fun i h ⟨h1,h2,⟨u,v,h3⟩,h4,h5⟩ c hc=>by
  simp only [List.mem_cons,List.not_mem_nil,or_false] at hc;rcases hc with rfl | rfl | rfl | rfl | rfl
  ·exact ⟨_,h1,fun v e=>by cases (show Data.fields _=Data.cell v from e)⟩
  ·exact ⟨_,h2,fun v e=>by cases (show Data.seq _ _=Data.cell v from e)⟩
  ·exact ⟨_,h3,fun v e=>by cases (show Data.seq _ _=Data.cell v from e)⟩
  ·obtain ⟨o,q,_,d⟩:=h4;exact ⟨o,q,fun v e=>by rw [d] at e;cases e⟩
  ·obtain ⟨o,q,_,d⟩:=h5;exact ⟨o,q,fun v e=>by rw [d] at e;cases e⟩
 keep:=fun i h h' ⟨h1,h2,⟨u,v,h3⟩,h4,h5⟩ k=>⟨k z (by simp) _ h1,k ti (by simp) _ h2,⟨u,v,k to (by simp) _ h3⟩,h4.at fun o q=>k i1 (by simp) o q,h5.at fun o q=>k i2 (by simp) o q⟩
 item:=by
  intro X hP hw hK hc i pins s σ H E I hf st hg;subst hP hw hK;obtain ⟨xs,ys,x,y,hqx,hqy,hx,hy⟩:=hg;obtain ⟨its,rv,p,hzz⟩:=I.list hqx;obtain ⟨ots,rw',p',hzz'⟩:=I.list hqy;obtain ⟨u,hu,ru⟩:=rv.get hx;obtain ⟨v,hv,rv'⟩:=rw'.get hy;obtain ⟨hz,hti,⟨oa,ob,hto⟩,hi1,hi2⟩:=st;have hf0:∀c∈[z,ti,to,i1,i2],H c=none:=fun c hc=>(hf c hc).1;refine wpAny_pyNext_zip_item D hz hti hto hi1 hi2 p.isList p'.isList (x:=u) (y:=v) (by simpa using hu) (by simpa using hv) fun h1 z1 t1 a1 a2 t2 hsz hk=>?_;refine ⟨_,rfl,wpAny_letOwnedTupleGo_zip z1 fun h2 z2 hs2=>?_⟩;replace hs2:Heap.SameBut z h1 h2:=hs2;have zlt:z<s.heap.objs.size:=zq9 hz;have hk2:∀c o,c≠z->c≠to->c≠i1->c≠i2->s.heap.get? c=some o->h2.get? c=some o:=fun c o c1 c2 c3 c4 q=>(hs2.2 c c1).trans (hk c o c1 c2 c3 c4 q);have hT2:IsPair h2 s.heap.objs.size u v:=(hs2.2 _ (pL zlt)).trans t2;have hn:H s.heap.objs.size=none:=I.hok.fresh (zq0 _);have nF:∀c o,H c=some o->c≠z/\c≠to/\c≠i1/\c≠i2:=fun c o q=>⟨fun e=>(by rw [e,hf0 z (by simp)] at q;cases q),fun e=>(by rw [e,hf0 to (by simp)] at q;cases q),fun e=>(by rw [e,hf0 i1 (by simp)] at q;cases q),fun e=>(by rw [e,hf0 i2 (by simp)] at q;cases q)⟩
  have kp:∀c o o',H c=some o->s.heap.get? c=some o'->h2.get? c=some o':=fun c o o' q r=>let ⟨n1,n2,n3,n4⟩:=nF c o q;hk2 c o' n1 n2 n3 n4 r;have ok2:HOk X.prog X.w H h2:=fun c o q=>(I.hok c o q).stay (fun d v' hd r=>by
   rcases hd with e | e
   ·rw [e] at r ⊢;exact kp c o v' q r
   ·exact kp d _ v' e r) (fun _ r=>r) fun _ _ r=>r
  have ok3:HOk X.prog X.w (upd H s.heap.objs.size (.tup [x,y])) h2:=fun c o q=>by
   by_cases hb:c=s.heap.objs.size
   ·subst hb;rw [af] at q
    cases q
    exact ⟨by show 2<=sizeLine;decide,[u,v],.cons ru (.cons rv' .nil),⟨_,hT2,rfl,_,rfl⟩⟩
   ·rw [av hb] at q;exact (ok2 c o q).stay (fun d v' _ r=>r) (fun d r=>by rw [av (ao r hn)];exact r) fun d zs r=>by rw [av (ao r hn)];exact r
  have nlt:∀{c:Addr} {o:Obj},s.heap.get? c=some o->c≠s.heap.objs.size:=fun q=>cm (zq9 q);have lg:∀c,c∉[z,ti,to,i1,i2]->c≠z/\c≠to/\c≠i1/\c≠i2:=fun c hc=>by simp only [List.mem_cons,List.not_mem_nil,or_false,not_or] at hc;exact ⟨hc.1,hc.2.2.1,hc.2.2.2.1,hc.2.2.2.2⟩
  have I2:Inv X pins σ (upd H s.heap.objs.size (.tup [x,y])) {s with heap:=h2,toks:=s.toks}:=
   I.step (g':=s.gens) (d':=s.drawn) (ch:=[z,ti,to,i1,i2]) (fun c hc=>let ⟨_,f1,_,f3,f4,f5⟩:=hf c hc;⟨f3,f1,f4,f5⟩)
    (fun c o _ _ hc q _=>let ⟨n1,n2,n3,n4⟩:=lg c hc;hk2 c o n1 n2 n3 n4 q)
    (fun c o _ _ hc q _=>let ⟨n1,n2,n3,n4⟩:=lg c hc;⟨o.slots,hk2 c o n1 n2 n3 n4 q⟩)
    (fun c o _ q n=>by rw [av (nlt q)];exact n)
    (fun c o hc q=>let ⟨n1,n2,n3,n4⟩:=lg c hc;⟨o,hk2 c o n1 n2 n3 n4 q⟩)
    (fun c zs q=>by rw [av (ao q hn)];exact q) (fun c o v q=>by rw [av (ao q hn)];exact q) (fun c ps q=>⟨#[],by rw [av (ao q hn),q];simp⟩)
    (fun m ⟨o,es,ep,hm,r⟩=>⟨o,es,ep,hk2 _ o (hf z (by simp)).2.1.symm (hf to (by simp)).2.1.symm (hf i1 (by simp)).2.1.symm (hf i2 (by simp)).2.1.symm hm,r⟩) ok3 I.bare
  refine ⟨.ref s.heap.objs.size,_,I2,rfl,⟨_,x,y,rfl,hn,rfl,fun zs hz'=>by rw [I.list_inj hz' hqx];exact hx,fun zs hz'=>by rw [I.list_inj hz' hqy];exact hy⟩,
   ⟨z2,(hs2.2 ti D.TIz).trans (hk ti _ D.TIz D.TITO D.TIi1 D.TIi2 hti),⟨u,v,(hs2.2 to D.TOz).trans t1⟩,a1.at fun o q=>(hs2.2 i1 D.i1z).trans q,a2.at fun o q=>(hs2.2 i2 D.i2z).trans q⟩,fun c hc=>?_⟩
  have hcl:c≠s.heap.objs.size:=by
   simp only [List.mem_cons,List.not_mem_nil,or_false] at hc;rcases hc with e | e | e | e | e
   ·rw [e];exact nlt hz
   ·rw [e];exact nlt hti
   ·rw [e];exact nlt hto
   ·rw [e];obtain ⟨o,q,_⟩:=hi1;exact nlt q
   ·rw [e];obtain ⟨o,q,_⟩:=hi2;exact nlt q
  rw [av hcl];exact hf0 c hc
 done:=by
  intro X hP hw hK hc i pins s σ H E I hf st hg;subst hP hw hK;obtain ⟨xs,ys,hqx,hqy,hend⟩:=hg;obtain ⟨its,rv,p,_⟩:=I.list hqx;obtain ⟨ots,rw',p',_⟩:=I.list hqy;have hl1:=rv.length;have hl2:=rw'.length;obtain ⟨hz,hti,⟨oa,ob,hto⟩,hi1,hi2⟩:=st;have hf0:∀c∈[z,ti,to,i1,i2],H c=none:=fun c hc=>(hf c hc).1;refine wpAny_pyNext_zip_end (I.ok.hd hc) D hz hti hto hi1 hi2 p.isList p'.isList (hend.imp (fun h=>by simp;omega) fun h=>by simp;omega) fun h' hk=>⟨rfl,?_⟩
  have lg:∀c,c∉[z,ti,to,i1,i2]->c≠z/\c≠to/\c≠i1/\c≠i2:=fun c hc=>by simp only [List.mem_cons,List.not_mem_nil,or_false,not_or] at hc;exact ⟨hc.1,hc.2.2.1,hc.2.2.2.1,hc.2.2.2.2⟩
  have kp:∀c o o',H c=some o->s.heap.get? c=some o'->h'.get? c=some o':=fun c o o' q r=>hk c o' (fun e=>by rw [e,hf0 z (by simp)] at q;cases q) (fun e=>by rw [e,hf0 to (by simp)] at q;cases q) (fun e=>by rw [e,hf0 i1 (by simp)] at q;cases q) (fun e=>by rw [e,hf0 i2 (by simp)] at q;cases q) r;exact I.step (t':=s.toks) (g':=s.gens) (d':=s.drawn) (ch:=[z,ti,to,i1,i2]) (fun c hc=>let ⟨_,f1,_,f3,f4,f5⟩:=hf c hc;⟨f3,f1,f4,f5⟩)
    (fun c o _ _ hc q _=>let ⟨n1,n2,n3,n4⟩:=lg c hc;hk c o n1 n2 n3 n4 q)
    (fun c o _ _ hc q _=>let ⟨n1,n2,n3,n4⟩:=lg c hc;⟨o.slots,hk c o n1 n2 n3 n4 q⟩)
    (fun _ _ _ _ n=>n) (fun c o hc q=>let ⟨n1,n2,n3,n4⟩:=lg c hc;⟨o,hk c o n1 n2 n3 n4 q⟩) (fun _ _ q=>q) (fun _ _ _ q=>q) (fun c ps q=>⟨#[],by rw [q];simp⟩)
    (fun m ⟨o,es,ep,hm,r⟩=>⟨o,es,ep,hk _ o (hf z (by simp)).2.1.symm (hf to (by simp)).2.1.symm (hf i1 (by simp)).2.1.symm (hf i2 (by simp)).2.1.symm hm,r⟩)
    (fun c o q=>(I.hok c o q).stay (fun d v' hd r=>by
     rcases hd with e | e
     ·rw [e] at r ⊢;exact kp c o v' q r
     ·exact kp d _ v' e r) (fun _ r=>r) fun _ _ r=>r) I.bare
 self:=fun _ _ _ _ _ ⟨hz,_⟩ h=>wpAny_pyIter_zip hz h
noncomputable def BF(K:W.Frag)(ta:TA):TI:=fun σ H R=>ta σ H fun vs H1=>∃a b,vs=[.ref a,.ref b]/\(∃xs,SqL K H1 a xs)/\(∃ys,SqL K H1 b ys)/\R (Itz K a b) H1
theorem C8{X:Cx}{a b:Expr}{ta:TA}{p pos pos0:Pos}{elts:List Expr}{k0:Nat}(hm:X.mg "zip"=none) (ha:PA X [a,b] ta) (hg:Gl X "zip":=by rfl) (hs:starEach [a,b] X.env=(false,eval a X.env)::starEach [b] X.env:=by rfl) (hs2:(backTo pos (starEach [b] X.env)).any (·.1)=false:=by rfl) :
  PI X (.Tuple elts k0 pos0) (.Call (.Name "zip" p) [a,b] [] pos) (BF X.K ta):=by
 intro pins s σ H R I h;refine Call_ (dW I hg hm boot_zip (PyProof.Rows.callWith_type1 (thn (ha pos pins s σ H _ I h) fun us s1 hhx=>?_) hs hs2));obtain ⟨vs,H1,I1,r1,q1⟩:=hhx;obtain ⟨l,m,e,⟨xs,hx⟩,⟨ys,hy⟩,q⟩:=q1;subst e;obtain ⟨u,us',rfl,ru,r2⟩:∃u us',us=u::us'/\RelV (.ref l) u/\Vals [.ref m] us':=by cases r1 with | cons r rr=>exact ⟨_,_,rfl,r,rr⟩
 obtain ⟨v,rfl,rv⟩:=gu r2
 cases ru
 cases rv
 obtain ⟨its,_,p1,_⟩:=I1.list hx;obtain ⟨ots,_,p2,_⟩:=I1.list hy;have l1:l<s1.heap.objs.size:=by obtain ⟨o,ho,_⟩:=p1.isList;exact zq9 ho
 have l2:m<s1.heap.objs.size:=by obtain ⟨o,ho,_⟩:=p2.isList;exact zq9 ho
 refine call_zip_2 p1.isList p2.isList fun h' z1 z2 z3 z4 z5 _ hk=>?_;refine wpAny_pyIter_zip z1 ?_;have I2:Inv X pins σ H1 {s1 with heap:=h'}:=I1.kept (t':=s1.toks) hk;refine ⟨_,_,_,_,H1,rfl,I2,yb (zipApart_new l1 l2),⟨z1,z2,⟨_,_,z3⟩,z4,z5⟩,fun c hc=>?_,q⟩;have hle:s1.heap.objs.size<=c:=by
  simp only [List.mem_cons,List.not_mem_nil,or_false] at hc;rcases hc with rfl | rfl | rfl | rfl | rfl
  ·exact pR _ _
  ·exact pR _ _
  ·exact pR _ _
  ·exact zq0 _
  ·exact pR _ _
 exact I1.fpOk hle (I1.hok.fresh hle)
theorem AA{X:Cx}{a b:Expr}{ta:TA}{p pos pos0:Pos}{elts:List Expr}{k0:Nat}(hm:X.mg "zip"=none) (ha:XA X [a,b] ta) (hg:Gl X "zip":=by rfl) (hs:starEach [a,b] X.env=(false,eval a X.env)::starEach [b] X.env:=by rfl) (hs2:(backTo pos (starEach [b] X.env)).any (·.1)=false:=by rfl) :
  XI X (.Tuple elts k0 pos0) (.Call (.Name "zip" p) [a,b] [] pos) (BF X.K ta):=⟨C8 hm ha.h hg hs hs2⟩
theorem CD{K:W.Frag}{ta:TA}{σ:St}{H:Hp}{R:It->Hp->Prop}:BF K ta σ H R=ta σ H fun vs H1=>∃a b,vs=[.ref a,.ref b]/\(∃xs,SqL K H1 a xs)/\(∃ys,SqL K H1 b ys)/\R (Itz K a b) H1:=rfl
theorem Bz{K:W.Frag}{a b:Addr}{xs ys:List V}{g:TG}{tb:TS}{D:d4}{σ:St}{H:Hp}(hlen:xs.length=ys.length)(Pv:Nat->St->Hp->Prop)(h0:Pv 0 σ H)(hl:∀i σ H,i<=xs.length->Pv i σ H->SqL K H a xs/\SqL K H b ys)
  (hs:∀(i:Nat)x y σ H p,xs[i]?=some x->ys[i]?=some y->H p=none->Pv i σ H->g (.ref p) σ (upd H p (.tup [x,y])) fun σ2 H2=>tb {D with nx:=Pv (i+1),ct:=Pv (i+1),bk:=D.nx} σ2 H2) (hd:∀σ H,Pv xs.length σ H->D.nx σ H):mM (Itz K a b) g tb D σ H:=by
 refine ⟨fun i m σ H=>m=xs.length-i/\i<=xs.length/\Pv i σ H,⟨xs.length,by simp,cc _,h0⟩,?_⟩;rintro i m σ H ⟨rfl,hi,p⟩;obtain ⟨q1,q2⟩:=hl i σ H hi p
 by_cases hlt:i<xs.length
 ·refine .inr ⟨⟨xs,ys,_,_,q1,q2,zq4 hlt,zq4 (by omega)⟩,Pv (i+1),fun σ' H' p'=>⟨xs.length-(i+1),by omega,rfl,hlt,p'⟩,fun x H' y=>?_⟩;obtain ⟨pp,u,v,ex,hn,eH,y1,y2⟩:=y;subst ex eH;exact hs i u v σ H pp (y1 xs q1) (y2 ys q2) hn p
 ·obtain rfl:i=xs.length:=by omega
  exact .inl ⟨⟨xs,ys,q1,q2,.inl (zq0 _)⟩,hd σ H p⟩
end L2
namespace L2
noncomputable def jD(l:List Str)(x:Str):List Str:=if x∈l then l else l++[x]
noncomputable def bC(ns:List Str):List Str:=ns.foldl jD []
theorem jE(ns:List Str)(x:Str):bC (ns++[x])=jD (bC ns) x:=by unfold bC;rw [qW];rfl
theorem kP{l:List Str}{x y:Str}:y∈jD l x↔y∈l\/y=x:=by
 unfold jD
 split
 ·next h=>exact ⟨.inl,fun z=>z.elim id fun e=>by rw [e];exact h⟩
 ·rw [zq16,zq2]
theorem ix(ns:List Str):(∀y,y∈bC ns↔y∈ns)/\(bC ns).length<=ns.length/\((bC ns).length=ns.length↔ns.Nodup):=by
 rw [<- List.reverse_reverse ns];generalize ns.reverse=ms
 induction ms with
 |nil=>exact ⟨fun y=>Iff.rfl,zq0 _,⟨fun _=>AH,fun _=>rfl⟩⟩
 |cons x m ih=>
  rw [List.reverse_cons];generalize m.reverse=l at ih ⊢;obtain ⟨h1,h2,h3⟩:=ih;rw [jE,zq3,cy];refine ⟨fun y=>by rw [kP,h1,zq16,zq2],?_,?_⟩
  ·unfold jD;split
   ·omega
   ·rw [zq3,cy];omega
  ·rw [zq65];unfold jD
   split
   ·next h=>refine ⟨fun e=>absurd e (by omega),fun ⟨_,_,z⟩=>absurd rfl (z x ((h1 x).mp h) x (zq2.mpr rfl))⟩
   ·next h=>rw [zq3,cy];refine ⟨fun e=>⟨h3.mp (by omega),by simp,fun a ha b hb e2=>h ?_⟩,fun ⟨z,_,_⟩=>by rw [h3.mpr z]⟩;rw [zq2.mp hb] at e2;rw [<- e2];exact (h1 a).mpr ha
section
variable {prog:Program} {w:World} {A:Around} {R:Result->Shared->Prop} {it:Addr} {fp wr:List Addr} {G:Array GenState->Array GenState->Prop} {n:Nat} {P:Nat->Value->Prop} {St:Nat->Shared->Prop}
noncomputable def TxtSet(prog:Program)(w:World)(h:Heap)(c:Addr)(l:List Str):Prop:=h.SetOf (strKind prog w) c (fun x=>decide (x∈l)) l.length
theorem TxtSet.mv{h h':Heap}{c:Addr}{l:List Str}(z:TxtSet prog w h c l)(k:∀o,h.get? c=some o->h'.get? c=some o):TxtSet prog w h' c l:=
 let ⟨o,es,ep,t,e,r⟩:=z;⟨o,es,ep,t,k o e,r⟩
theorem oK(W:WalksS prog w A.in1 it fp wr G n P St){c:Addr}(hc:c∉fp){ns:List Str}(hn:ns.length=n)(hv:∀(i:Nat)v,P i v->∃x t,ns[i]?=some x/\v=.str x t)(hb:n+1<scanBound):
  ∀(k i:Nat)(s:Shared),k+i=n->St i s->TxtSet prog w s.heap c (bC (ns.take i))->(∀s',Moved (c::wr) G s s'->TxtSet prog w s'.heap c (bC ns)->R (.ok (.ret .none)) s')->
   codeAny (model prog w) A (.builtin "set.update.loop" ⟨[.ref c,.ref it],[]⟩) R s
 |0,i,s,hk,st,hS,q=>by
  obtain rfl:i=n:=by omega
  rw [show ns.take i=ns by rw [<- hn,dZ]] at hS;refine codeAny_builtin F.entry_set_update_loop ?_;rw [Around.under_plainId F.plain_set_update_loop _];refine wpAny_bind (m:=pyNext (.ref it)) (W.done s _ _ st fun s1 mv=>wpAny_pure (q s1 (mv.mono fun b hb=>zq5 _ hb) (hS.mv fun o e=>mv.heap c o (fun z=>hc (W.sub _ z)) e)))
 |k+1,i,s,hk,st,hS,q=>by
  refine codeAny_builtin F.entry_set_update_loop ?_;rw [Around.under_plainId F.plain_set_update_loop _];refine wpAny_bind (m:=pyNext (.ref it)) (W.item i s _ _ (by omega) st fun v s1 hp st1 mv=>?_);obtain ⟨x,t,hx,rfl⟩:=hv i v hp;obtain ⟨hi,ex⟩:=zq10.mp hx;have hS1:=hS.mv (h':=s1.heap) fun o e=>mv.heap c o (fun z=>hc (W.sub _ z)) e;refine wpAny_bind (m:=holding [Value.str x t] (setAdd c (.str x t))) (wpAny_holding ?_);unfold setAdd;refine wpAny_holding (wpAny_bind ((strKind prog w).pyHash (k:=x) (strKind_is _ _ _ _) ?_));have le:=(ix (ns.take i)).2.1;rw [d9] at le;refine wpAny_setAddHashed_of (knd:=strKind prog w) (s:={s1 with toks:=s1.toks+1}) (strKind_is _ _ _ _) rfl hS1 (by omega) fun h2 sb hS2=>?_;have et:ns.take (i+1)=ns.take i++[x]:=by rw [dG hi,ex]
  have hS3:TxtSet prog w h2 c (bC (ns.take (i+1))):=by
   rw [et,jE];refine SetOf_congr hS2 (fun y=>?_) ?_
   ·rw [mH];simp only [Bool.or_eq_true,decide_eq_true_eq,kP]
   ·unfold jD
    by_cases z:x∈bC (ns.take i)
    ·rw [if_pos z,if_pos (decide_eq_true z)]
    ·rw [if_neg z,if_neg (by simpa using z),zq3,cy]
  refine wpAny_pure ⟨plainId_quiet F.plain_set_update_loop _,oK W hc hn hv hb k (i+1) _ (by omega) (W.frame _ s1 _ _ st1 (mI _) fun b hb o e=>?_) hS3 fun s3 mv3=>q s3 (Moved.trans W.gtrans ((mv.mono fun b hb=>zq5 _ hb).then_heap (mI _) fun b o hb e=>?_) mv3)⟩
  ·exact (sb.2 b (fun z=>hc (by rw [<- z];exact hb))).trans e
  ·exact (sb.2 b (fun z=>hb (by rw [z];exact dJ))).trans e
end
section
variable {prog:Program} {w:World} {A:Around} {E:Value->Shared->Prop} {s:Shared}
set_option maxHeartbeats 4000000 in
theorem vW{l:Addr}{items:Array Value}{ns:List Str}{Q:Value->Shared->Prop}(hh:A.handled=none)(hl:s.heap.IsList l items)(hv:∀(i:Nat)v,items[i]?=some v->∃x t,ns[i]?=some x/\v=.str x t)(hn:ns.length=items.size)(hb:items.size+1<scanBound)
  (q:∀(h':Heap)(tk:Nat),TxtSet prog w h' s.heap.objs.size (bC ns)->(∀b o,s.heap.get? b=some o->h'.get? b=some o)->Q (.ref s.heap.objs.size) {s with heap:=h',toks:=tk}) :
  wpAny (model prog w) A (call (.type "set") [.ref l]) Q E s:=by
 obtain ⟨c,tl,hmro⟩:=F.called_set.mro;have hmade:=F.called_set.made;have hsub:=F.called_set.sub;have h1:=F.called_set.notType;have h2:=F.called_set.canCreate;have hct:=F.typeCall_set_1 (.ref l);refine wpAny_call (codeAny_of_tree (show wpAny _ _ (callAny (.type "set") _) _ _ _ from wpAny_pure ⟨Code.quiet_builtin _ (by decide +kernel),codeAny_builtin F.entry_type_call ?_⟩));rw [Around.under_plain (weight_type_call_type "set" [.ref l] []) rfl]
 repeat (any_goals (first | assumption | wp_step))
 refine codeAny_mono (code_set_new_1 (.ref l) (E:=E) (Q₁:=fun v s1=>∃led:Bool,v=.ref s.heap.objs.size/\s1={s with heap:=s.heap.push {cls:=.type "set",dict:=none,data:=.set #[] 0 (.fresh 0 0 led)}}) fun led=>⟨led,rfl,rfl⟩) fun r s1 hr=>?_
 match r,hr with
 | .ok (.ret v),hr=>
  obtain ⟨led,rfl,rfl⟩:=hr;obtain ⟨o0,ho0⟩:∃o0:Obj,o0={cls:=.type "set",dict:=none,data:=.set #[] 0 (.fresh 0 0 led)}:=⟨_,rfl⟩
  rw [<- ho0];have hS:(s.heap.push o0).get? s.heap.objs.size=some o0:=d8 _ (by rw [ho0];rfl);have hT:Shared.TypeIs {s with heap:=s.heap.push o0} (.ref s.heap.objs.size) "set":=⟨o0,hS,by rw [ho0]⟩
  have hli:=F.called_set.init.lookup;have hbi:=F.called_set.init.bind (.ref s.heap.objs.size)
  repeat (any_goals (first | assumption | wp_step))
  refine codeAny_mono (codeAny_call_builtin (R:=wants (fun r s2=>r=.none/\∃h' tk,s2={s with heap:=h',toks:=tk}/\TxtSet prog w h' s.heap.objs.size (bC ns)/\∀b o,s.heap.get? b=some o->h'.get? b=some o) E) F.called_set.init.plain F.entry_set_init (check_set_init_1 hT ?_)) fun r2 s2 hr2=>?_
  ·obtain ⟨⟨oc,od,ot,os⟩,hol,hcl,nl,hdl⟩:=hl;replace hcl:oc=.type "list":=hcl;replace hdl:ot=.seq items nl:=hdl;subst hcl hdl;have hol2:(s.heap.push o0).get? l=some {cls:=.type "list",dict:=od,data:=.seq items nl,slots:=os}:=c9 _ hol;have hsls:=F.sub_list_set;have hslf:=F.sub_list_frozenset;have hne:(Value.type "list"==Value.type "dict")=false:=by decide
   have hL:(s.heap.push o0).IsList l items:=⟨_,hol2,rfl,nl,rfl⟩
   have zp:(s.heap.push o0).objs.size=s.heap.objs.size+1:=jZ ..;subst ho0;unfold Builtin.«set.__init__» noKeywords Builtin.Frozenset.updateFrom;generalize hPI:pyIter=PI
   wp_walk
   subst hPI;refine wpAny_pyIter_list hL ?_;refine wpAny_bind (wpAny_runValue ?_);have lt:l<s.heap.objs.size:=zq9 hol;refine oK ((Walks.list (by simp [hh]) _ l (by rw [zp];exact cm (yE lt)) items).toS) (c:=s.heap.objs.size) (by
    rw [zp];intro z;rcases zq6.mp z with z | z
    ·exact absurd z (cm (yR _))
    ·exact absurd (zq2.mp z) (pL lt)) hn hv hb items.size 0 _ rfl ⟨⟨_,d8 _ rfl,rfl,rfl⟩,hL.push _⟩ ?_ ?_
   ·exact SetOf_congr ((setObjOf_fresh (knd:=strKind prog w) led).setOf (c9 _ hS) (by unfold scanBound;omega)) (fun y=>by simp [bC]) rfl
   ·intro s3 mv hS3;obtain ⟨h3,g3,d3,tk3,os3⟩:=s3;obtain rfl:g3=s.gens:=mv.gens;obtain rfl:d3=s.drawn:=mv.drawn;obtain rfl:os3=s.os:=mv.os;refine wpAny_pure ?_;refine wpAny_pure ⟨rfl,h3,tk3,rfl,hS3,fun b o e=>?_⟩;have bl:=zq9 e;refine mv.heap b o ?_ (c9 _ (c9 _ e));rw [zp];intro z;rcases zq6.mp z with z | z
    ·exact absurd z (cm bl)
    ·exact absurd (zq2.mp z) (cm (yE bl))
  ·match r2,hr2 with
   | .ok (.ret v),hr2=>
    obtain ⟨rfl,h',tk,rfl,a1,a2⟩:=hr2
    repeat (any_goals (first | assumption | wp_step))
    exact q _ _ a1 a2
   | .error e,hr2=>exact hr2
 | .error e,hr=>exact hr
end
noncomputable def kU(p:Addr)(n:Nat):HO:=.ext fun h=>n<scanBound/\∃o es ep t,h.get? p=some o/\o.ExactSet/\o.data=.set es ep t/\t.fits es.size=true/\es.size=n
variable {X:Cx}
noncomputable def AX(K:W.Frag):List V->Hp->VK->Prop:=fun xs H Q=>∃(a:Addr)(ns:List Str),xs=[.ref a]/\SqL K H a (ns.map V.str)/\ns.length<64/\∀p:Addr,H p=none->Q (.ref p) (upd H p (kU p (bC ns).length))
theorem tJ(hc:X.calm=true):dM X (.type "set") (AX X.K):=by
 intro pins s σ H xs us Q I r h;obtain ⟨a,ns,rfl,hq,h64,q⟩:=h;obtain ⟨u,rfl,ru⟩:=gu r
 cases ru
 obtain ⟨its,rv,pl,_⟩:=I.list hq;have hl:=rv.length;rw [zq1] at hl;refine vW (I.ok.hd hc) pl.isList (ns:=ns) (fun i v hv=>?_) (by rw [eM];omega) (by rw [eM];unfold scanBound;omega) fun h' tk hS hk=>?_
 ·have hi:=(zq140.mp hv).1;rw [eM] at hi;obtain ⟨x,hx⟩:∃x,ns[i]?=some x:=⟨_,zq4 (by omega)⟩
  obtain ⟨u,hu,t,rfl⟩:=rv.get (i:=i) (x:=.str x) (by rw [bM,hx];rfl);rw [Bc,hu] at hv
  cases hv
  exact ⟨x,t,hx,rfl⟩
 ·obtain ⟨o,es,ep,t,e1,e2,e3,e4,e5,e6,e7,e8⟩:=hS;have le:=(ix ns).2.1;exact ⟨.ref s.heap.objs.size,_,I.laid (t':=tk) hk (zq0 _) (show ObjOk X.prog X.w _ h' _ (kU s.heap.objs.size (bC ns).length) from ⟨⟨by unfold scanBound;omega,o,es,ep,t,e1,e2,e3,e7,e8⟩,⟨o,e1⟩,fun h1 h2 ⟨z,o,es,ep,t,y1,y2⟩ k=>⟨z,o,es,ep,t,k o y1,y2⟩⟩),rfl,q _ (I.hok.fresh (zq0 _))⟩
theorem D0{K:W.Frag}{a:Addr}{H:Hp}{Q:VK}:AX K [.ref a] H Q=∃ns:List Str,SqL K H a (ns.map V.str)/\ns.length<64/\∀p:Addr,H p=none->Q (.ref p) (upd H p (kU p (bC ns).length)):=propext ⟨by rintro ⟨_,ns,e,q⟩;cases e;exact ⟨ns,q⟩,by rintro ⟨ns,q⟩;exact ⟨a,ns,rfl,q⟩⟩
noncomputable def AV:List V->Hp->VK->Prop:=fun xs H Q=>∃(p:Addr)(n:Nat),xs=[.ref p]/\H p=some (kU p n)/\Q (.int n) H
theorem tI:dM X (.builtin "len") AV:=by
 intro pins s σ H xs us Q I r h;obtain ⟨p,n,rfl,e,q⟩:=h;obtain ⟨u,rfl,ru⟩:=gu r
 cases ru
 obtain ⟨⟨hn,o,es,ep,t,y1,y2,y3,y4,y5⟩,_⟩:=I.hok p _ e;unfold scanBound at hn;exact call_len_set y1 y2 y3 y4 (by omega) ⟨.int n,H,I.tok _,⟨_,by rw [y5]⟩,q⟩
theorem CQ{p:Addr}{H:Hp}{Q:VK}:AV [.ref p] H Q=∃n:Nat,H p=some (kU p n)/\Q (.int n) H:=propext ⟨by rintro ⟨_,n,e,q⟩;cases e;exact ⟨n,q⟩,by rintro ⟨n,q⟩;exact ⟨p,n,rfl,q⟩⟩
end L2
namespace L2
section
variable {X:Cx}
noncomputable def x8:List V->Hp->VK->Prop:=fun xs H Q=>∃(a:Addr)(kvs:List (Key×V)) (ns:List Str),xs=[.ref a]/\H a=some (.dK kvs)/\kvs.map (·.1)=ns.map Sum.inr/\ns.length<64/\∀l:Addr,H l=none->Q (.ref l) (upd H l (.lst ((FX.srt ns).map V.str)))
theorem uE{a:Addr}{H:Hp}{Q:VK}:x8 [.ref a] H Q=∃(kvs:List (Key×V)) (ns:List Str),H a=some (.dK kvs)/\kvs.map (·.1)=ns.map Sum.inr/\ns.length<64/\∀l:Addr,H l=none->Q (.ref l) (upd H l (.lst ((FX.srt ns).map V.str))):=propext ⟨by rintro ⟨_,kvs,ns,e,q⟩;cases e;exact ⟨kvs,ns,q⟩,by rintro ⟨kvs,ns,q⟩;exact ⟨a,kvs,ns,rfl,q⟩⟩
end
end L2
end
namespace GO
open PySem L2 FB FS FG FO FR FZ GA PyProof.Rows
variable {b b0:Bx} {d:Deed}
noncomputable def atB(w:Int)(d:Deed)(b0 b:Bx):Bx:=match d with
 | .tell _=>b
 | .copy n _=>cv b (.inr n) (.int (de b0 w d))
 | .op _ n _ _=>cv b (.inr n) (.int (de b0 w d))
noncomputable def beat(w:Int)(b0:Bx):List Deed->BT->BT
 | [],s=>s
 |d::r,s=>beat w b0 r (atB w d b0 s.1,doT w d b0 s.2)
noncomputable def cg(F:List Blk)(w:Int):Nat->Nat->BT->BT×Bool
 |0,_,s=>(s,false)
 |m+1,i,s=>match F[i]? with
  |none=>(s,false)
  |some b=>match nxt s.1 b.ed with
   |none=>(beat w s.1 b.ds s,true)
   |some j=>cg F w m j (beat w s.1 b.ds s)
noncomputable def tR(F:List Blk)(w:Int)(m:Nat)(b:Blk)(s:BT):BT×Bool:=match nxt s.1 b.ed with
 |none=>(beat w s.1 b.ds s,true)
 |some j=>cg F w m j (beat w s.1 b.ds s)
theorem iE{F:List Blk}{w:Int}{m i:Nat}{s:BT}{b:Blk}(h:F[i]?=some b):cg F w (m+1) i s=tR F w m b s:=by rw [cg,h];rfl
theorem BxG.atB{ns:List Str}{w:Int}(h0:BxG ns w b0)(h:BxG ns w b)(hd:Deed.good ns w d)(hw:1<=w):BxG ns w (atB w d b0 b):=by
 have l:=nL h0 hd hw
 cases d with
 |tell a=>exact h
 |copy n a=>exact h.put hd.1 l.1 l.2
 |op f n x y=>exact h.put hd.2.1 l.1 l.2
theorem fJ{w:Int}{b0:Bx}:∀{ds:List Deed} {j:Nat} {d:Deed} {s:BT},ds[j]?=some d->beat w b0 (ds.take (j+1)) s=(GO.atB w d b0 (beat w b0 (ds.take j) s).1,doT w d b0 (beat w b0 (ds.take j) s).2)
 | [],j,d,s,h=>by simp at h
 |x::ds,0,d,s,h=>by
  simp at h;subst h;rfl
 |x::ds,j+1,d,s,h=>by rw [List.take_succ_cons,List.take_succ_cons,beat,beat];exact fJ (by simpa using h)
theorem ji{w:Int}{b0:Bx}:∀{ds:List Deed} {s:BT},(beat w b0 ds s).2.length<=s.2.length+ds.length
 | [],s=>zq0 _
 |d::r,s=>by rw [beat];have h:=ji (w:=w) (b0:=b0) (ds:=r) (s:=(GO.atB w d b0 s.1,doT w d b0 s.2));have h2:=lQ (w:=w) (d:=d) (b:=b0) (t:=s.2);rw [dB];dsimp only at h;omega
theorem fu{n:Str}{x u:V}(h:bA b (.inr n)=some u):(cv b (.inr n) x).map (·.1)=b.map (·.1):=by
 have hv:=cE (.inr n) b;rw [h] at hv;unfold cv;rw [if_pos (by rw [hv];rfl),fj];refine yA fun kv _=>?_;show (if _ then _ else kv).1=kv.1
 split<;>rfl
theorem vP{ns:List Str}{w:Int}(h:BxG ns w b)(hd:Deed.good ns w d):(GO.atB w d b0 b).map (·.1)=b.map (·.1):=by
 cases d with
 |tell a=>rfl
 |copy n a=>exact fu (h.val hd.1)
 |op f n x y=>exact fu (h.val hd.2.1)
theorem vQ{ns:List Str}{w:Int}(h:BxG ns w b)(hd:Deed.good ns w d):(doB w d b).map (·.1)=b.map (·.1):=by
 cases d with
 |tell a=>rfl
 |copy n a=>exact fu (h.val hd.1)
 |op f n x y=>exact fu (h.val hd.2.1)
theorem BxG.beat{ns:List Str}{w:Int}(h0:BxG ns w b0)(hw:1<=w):∀{ds:List Deed} {s:BT},BxG ns w s.1->(∀d∈ds,Deed.good ns w d)->BxG ns w (GO.beat w b0 ds s).1/\(GO.beat w b0 ds s).1.map (·.1)=s.1.map (·.1)
 | [],s,h,_=>⟨h,rfl⟩
 |d::r,s,h,hd=>by rw [GO.beat];have hg:=hd d (dJ ..);obtain ⟨h1,h2⟩:=BxG.beat h0 hw (s:=(GO.atB w d b0 s.1,doT w d b0 s.2)) (BxG.atB h0 h hg hw) fun x hx=>hd x (zq5 _ hx);exact ⟨h1,h2.trans (vP h hg)⟩
theorem nR{ins:List Str}{ws:Bx}(ns:List Str):∃ks:List Str,(aY ins ws ns).map (·.1)=ks.map Sum.inr/\ks.length<=ns.length:=by
 suffices h:∀m (ns:List Str),ns.length=m->∃ks:List Str,(aY ins ws ns).map (·.1)=ks.map Sum.inr/\ks.length<=ns.length from h _ ns rfl
 intro m
 induction m with
 |zero=>
  intro ns h;have:ns=[]:=zq80.mp h;subst this;exact ⟨[],rfl,zq0 _⟩
 |succ m ih=>
  intro ns h;obtain ⟨l,x,rfl⟩:∃l x,ns=l++[x]:=⟨ns.dropLast,ns.getLast (by intro z;rw [z] at h;simp at h),(yC _).symm⟩
  obtain ⟨ks,e,hl⟩:=ih l (by simpa using h);rw [fq]
  cases hv:bA (aY ins ws l) (.inr x) with
  |some u=>exact ⟨ks,by rw [fu hv];exact e,by rw [zq3];omega⟩
  |none=>refine ⟨ks++[x],?_,by rw [zq3,zq3];simp;omega⟩;have hv2:=cE (.inr x) (aY ins ws l);rw [hv] at hv2;unfold cv;rw [if_neg (by rw [hv2];simp),cD,e,cD];rfl
end GO
local macro_rules | `(tactic| simp_arith [$ts,*] $l:location)=>`(tactic| simp only [L2.GF,L2.Gb,L2.GG,L2.Gc,L2.GH,L2.Gd,L2.GI,L2.Ge,L2.GJ,L2.Gf,L2.GK,L2.Gg,L2.GL,L2.Gh,L2.GM,L2.Gi,L2.GN,L2.Gj,L2.GP,L2.Gk,L2.FN,L2.E5,L2.FQ,L2.E6,L2.FT,L2.E7,L2.FU,L2.E8,L2.r_c,L2.Gq,L2.Gu,L2.GE,L2.y_I,L2.y_U,L2.E1,L2.E2,L2.Eh,L2.Ei,L2.Cu,L2.A1,L2.D2,L2.r_B,L2.DV,L2.Gr,L2.Ek,L2.Cf,L2.El,L2.CV,L2.Gm,L2.CU,L2.xr,L2.Cp,L2.Em,L2.AY,L2.DX,L2.G8,L2.Ej,L2.Ck,L2.Cj,L2.Ep,L2.Ef,L2.Cm,L2.Gs,L2.xn,L2.CY,L2.Cw,L2.A3,L2.Ea,L2.Gp,L2.Gn,L2.CJ,L2.CK,L2.CL,L2.CM,L2.CN,L2.CO,L2.CP,L2.E4,L2.A4,L2.A6,L2.CC,L2.A7,L2.A8,L2.Cq,L2.Cr,L2.E3,L2.Ga,L2.DY,L2.Ec,L2.Eb,L2.Ee,L2.DZ,L2.En,L2.x9,L2.Cs,L2.CH,L2.Cz,true_and,and_true,forall_const,Int.reduceLT,L2.zV,L2.uD,L2.Er,L2.Eo,L2.E9,L2.xo,L2.Bu,L2.Df,L2.Ds,L2.Cg,L2.Ci,List.map_cons,List.map_nil,List.getElem?_cons_zero,List.getElem?_cons_succ,Option.join_some,L2.G9,L2.CI,L2.Af,L2.zY,L2.Co,L2.Ct,L2.Cy,List.set_cons_zero,List.set_cons_succ,L2.xl,L2.D1,L2.CA,L2.CT,L2.CS,L2.CB,L2.zX,L2.Bp,L2.DW,L2.zW,L2.xg,L2.zZ,L2.uC,L2.A5,L2.CD,L2.A9,L2.CQ,L2.CZ,L2.D0,L2.xu,L2.uE,L2.xv,$ts,*] $l:location)
local macro_rules | `(tactic| simp_arith [$ts,*])=>`(tactic| simp_arith [$ts,*] at ⊢)
local macro_rules | `(∅) => `(by first | exact ⟨rfl,rfl,rfl,by decide +kernel,rfl,by decide +kernel,by decide +kernel⟩ | (intro vs H Q E h; first | (obtain ⟨h,_⟩ := h; cases h; rfl) | (obtain ⟨_,h,_⟩ := h; cases h; rfl) | (obtain ⟨_,_,h,_⟩ := h; cases h; rfl) | (obtain ⟨_,_,_,h,_⟩ := h; cases h; rfl) | (obtain ⟨_,_,_,_,h,_⟩ := h; cases h; rfl) | (obtain ⟨_,_,_,_,_,h,_⟩ := h; cases h; rfl) | (obtain ⟨_,_,_,_,_,_,h,_⟩ := h; cases h; rfl) | (obtain ⟨_,_,_,_,_,_,_,h,_⟩ := h; cases h; rfl)))
namespace K52
open PySem L2 PyProof.Rows FD FB FS FO FR FG
noncomputable def top(i:Nat):Stmt:=PySem.Challenge.pw_deedloom_k52_tables_do_the_same.main.body.getD i (.Pass ⟨0,0,0,0⟩)
noncomputable abbrev s_0:Stmt:=top 2
theorem sc_0:aD ["program","parting","first"] ["program"] (az s_0):=∅
noncomputable abbrev s_1:Stmt:=cn (top 3) 0
theorem Gv:aD ["self"] ["self"] (az s_1):=∅
noncomputable abbrev s_2:Stmt:=cn (top 3) 1
theorem Gw:aD ["self"] ["self"] (az s_2):=∅
noncomputable abbrev s_3:Stmt:=cn (top 3) 2
theorem Gx:aD ["self","block"] ["self","block"] (az s_3):=∅
noncomputable abbrev s_4:Stmt:=cn (top 3) 3
theorem Gy:aD ["self","block"] ["self","block"] (az s_4):=∅
noncomputable abbrev s_5:Stmt:=cn (top 3) 4
theorem sc_5:aD ["self","rows","block","row"] ["self","rows","block"] (az s_5):=∅
noncomputable abbrev s_6:Stmt:=cn (top 3) 5
theorem Gz:aD ["self","row","block"] ["self","row","block"] (az s_6):=∅
noncomputable abbrev s_7:Stmt:=cn (top 3) 6
theorem sc_7:aD ["self","row","block","behind","ones","others"] ["self","row","block"] (az s_7):=∅
noncomputable abbrev s_8:Stmt:=cn (top 3) 7
theorem sc_8:aD ["self","row","block","behind","look","inner"] ["self","row","block"] (az s_8):=∅
noncomputable abbrev s_9:Stmt:=cn (top 5) 0
theorem GB:aD ["self","width","ins","boxes","rows"] ["self","width","ins","boxes","rows"] (az s_9):=∅
noncomputable abbrev Et:Stmt:=top 6
theorem Fd:aD ["rows"] ["rows"] (az Et):=∅
noncomputable abbrev Eu:Stmt:=top 7
theorem Fe:aD ["row"] ["row"] (az Eu):=∅
noncomputable abbrev Ew:Stmt:=top 10
theorem Ff:aD ["deed"] ["deed"] (az Ew):=∅
noncomputable abbrev Ex:Stmt:=top 11
theorem Fg:aD ["deed"] ["deed"] (az Ex):=∅
noncomputable abbrev Ey:Stmt:=top 12
theorem Fh:aD ["deed"] ["deed"] (az Ey):=∅
noncomputable abbrev Ez:Stmt:=top 13
theorem Fi:aD ["deed"] ["deed"] (az Ez):=∅
noncomputable abbrev EA:Stmt:=top 15
theorem Fj:aD ["ending","places"] ["ending","places"] (az EA):=∅
noncomputable abbrev EB:Stmt:=top 17
theorem sc_17:aD ["deeds","j","k","earlier","later","name"] ["deeds","j","k"] (az EB):=∅
noncomputable abbrev EC:Stmt:=top 18
theorem sc_18:aD ["deeds","units","layer","everything","ways","longer","done","beats","beat"] ["deeds","units"] (az EC):=∅
noncomputable abbrev ED:Stmt:=cn (top 19) 0
theorem Fk:aD ["self","deeds","units"] ["self","deeds","units"] (az ED):=∅
noncomputable abbrev EE:Stmt:=cn (top 19) 1
theorem sc_20:aD ["self","done","place","missing","beats"] ["self","done"] (az EE):=∅
noncomputable abbrev EF:Stmt:=cn (top 19) 2
theorem sc_21:aD ["self","done","beats","place","more","beat","taken"] ["self","done","beats","place"] (az EF):=∅
noncomputable abbrev EG:Stmt:=cn (top 19) 3
theorem Fl:aD ["self","done","beat","missing"] ["self","done","beat","missing"] (az EG):=∅
noncomputable abbrev EH:Stmt:=cn (top 19) 4
theorem sc_23:aD ["self","done","beat","place","sort","earlier","lean","ahead"] ["self","done","beat","place"] (az EH):=∅
noncomputable abbrev EI:Stmt:=top 21
theorem sc_24:aD ["program","units","blocks","block","laid_blocks","firsts","many","beats","table","deeds"] ["program","units"] (az EI):=∅
noncomputable abbrev EJ:Stmt:=top 22
theorem sc_25:aD ["block","units","deeds","ending","beats"] ["block","units"] (az EJ):=∅
noncomputable abbrev EK:Stmt:=top 23
theorem Fm:aD ["deeds","name"] ["deeds","name"] (az EK):=∅
noncomputable abbrev EL:Stmt:=top 25
theorem Fn:aD ["_law_found"] ["_law_found"] (az EL):=∅
noncomputable abbrev EM:Stmt:=top 26
theorem Fo:aD ["_law_script","_law_k"] ["_law_script","_law_k"] (az EM):=∅
noncomputable abbrev EN:Stmt:=top 27
theorem sc_29:aD ["_law_cell","_law_k","_law_number"] ["_law_cell","_law_k"] (az EN):=∅
noncomputable abbrev EO:Stmt:=top 28
theorem sc_30:aD ["_law_number","_law_many","_law_letters","_law_some","_law_at_here","_law_names_here","_law_j","_law_spots"] ["_law_number","_law_many"] (az EO):=∅
noncomputable abbrev EQ:Stmt:=top 29
theorem Fp:aD ["_law_number","_law_names_here","_law_top"] ["_law_number","_law_names_here","_law_top"] (az EQ):=∅
noncomputable abbrev ER:Stmt:=top 30
theorem sc_32:aD ["_law_number","_law_names_here","_law_top","_law_name","_law_one","_law_other","_law_way"] ["_law_number","_law_names_here","_law_top"] (az ER):=∅
noncomputable abbrev ES:Stmt:=top 31
theorem sc_33:aD ["_law_numbers","_law_names_here","_law_top","_law_deep","_law_rows","_law_at_here","_law_number","_law_cut","_law_end","_law_name","_law_ones"] ["_law_numbers","_law_names_here","_law_top","_law_deep"] (az ES):=∅
noncomputable abbrev ET:Stmt:=top 32
theorem sc_34:aD ["_law_script","_law_start","_law_many","_law_k","_law_found","_law_some","_law_at_here","_law_left"] ["_law_script","_law_start","_law_many"] (az ET):=∅
noncomputable abbrev EU:Stmt:=top 33
theorem sc_35:aD ["_law_script","_law_many","_law_number","_law_width","_law_names_here","_law_ins","_law_numbers","_law_rows"] ["_law_script","_law_many"] (az EU):=∅
noncomputable abbrev EV:Stmt:=top 34
theorem sc_36:aD ["_law_ins","_law_number","_law_width","_law_words_here","_law_k","_law_mixed_here"] ["_law_ins","_law_number","_law_width"] (az EV):=∅
noncomputable abbrev EW:Stmt:=top 35
theorem Fq:aD ["_law_operand_here","_law_boxes"] ["_law_operand_here","_law_boxes"] (az EW):=∅
noncomputable abbrev EX:Stmt:=top 36
theorem Fs:aD ["_law_op","_law_x","_law_y","_law_width"] ["_law_op","_law_x","_law_y","_law_width"] (az EX):=∅
noncomputable abbrev EY:Stmt:=top 37
theorem B1:aD ["_law_deed_here","_law_before","_law_boxes","_law_said","_law_width"] ["_law_deed_here","_law_before","_law_boxes","_law_said","_law_width"] (az EY):=∅
noncomputable abbrev EZ:Stmt:=top 38
theorem sc_40:aD ["_law_rows","_law_boxes","_law_said","_law_width","_law_left","_law_row"] ["_law_rows","_law_boxes","_law_said","_law_width","_law_left"] (az EZ):=∅
noncomputable abbrev F0:Stmt:=top 39
theorem sc_41:aD ["_law_drawn_here","_law_words_here","_law_boxes","_law_name"] ["_law_drawn_here","_law_words_here"] (az F0):=∅
noncomputable abbrev F1:Stmt:=top 40
theorem sc_42:aD ["_law_drawn_here","_law_words_here","_law_most","_law_boxes","_law_said","_law_left"] ["_law_drawn_here","_law_words_here","_law_most"] (az F1):=∅
noncomputable abbrev F2:Stmt:=top 41
theorem Ft:aD ["_law_found","_law_names_here","_law_top"] ["_law_found","_law_names_here","_law_top"] (az F2):=∅
noncomputable abbrev F3:Stmt:=top 42
theorem sc_44:aD ["_law_found","_law_names_here","_law_top","_law_bad"] ["_law_found","_law_names_here","_law_top"] (az F3):=∅
noncomputable abbrev F4:Stmt:=top 43
theorem Fu:aD ["_law_found","_law_names_here","_law_many"] ["_law_found","_law_names_here","_law_many"] (az F4):=∅
noncomputable abbrev F5:Stmt:=top 44
theorem sc_46:aD ["_law_found","_law_drawn_here","_law_names_here","_law_part","_law_deed_here"] ["_law_found","_law_drawn_here"] (az F5):=∅
noncomputable abbrev F6:Stmt:=top 45
theorem Fv:aD ["_law_ending","_law_boxes"] ["_law_ending","_law_boxes"] (az F6):=∅
noncomputable abbrev F7:Stmt:=top 46
theorem sc_48:aD ["_law_cell","_law_number"] ["_law_cell"] (az F7):=∅
noncomputable abbrev F8:Stmt:=top 47
theorem Fw:aD ["_law_deed_here"] ["_law_deed_here"] (az F8):=∅
noncomputable abbrev F9:Stmt:=top 48
theorem sc_50:aD ["_law_deeds","_law_units_here","_law_written","_law_sort_here"] ["_law_deeds","_law_units_here"] (az F9):=∅
noncomputable abbrev Fb:Stmt:=top 49
theorem sc_51:aD ["_law_table","_law_drawn_here","_law_words_here","_law_most","_law_boxes","_law_said","_law_at_here","_law_k","_law_before","_law_deed_here"] ["_law_table","_law_drawn_here","_law_words_here","_law_most"] (az Fb):=∅
noncomputable abbrev Fc:Stmt:=top 50
theorem sc_52:aD ["_law_script","_law_drawn_here","_law_program","_law_units_here","_law_found","_law_words_here","_law_most","_law_due","_law_boxes","_law_left","_law_said","_law_ends","_law_over","_law_short"] ["_law_script"] (az Fc):=∅
noncomputable def kvs_SORTS:List (Key×V):=[(.inr "plus",.int 0),(.inr "less",.int 0),(.inr "below",.int 1),(.inr "same",.int 1),(.inr "and",.int 2),(.inr "or",.int 2),(.inr "xor",.int 2)]
set_option genInjectivity false in
structure Ad where
 pr:Params
 D_SORTS:Addr
 k_MOST_DEEDS:Tok
 C_Parting:Addr
 C_Program:Addr
 C_Layer:Addr
 f_0:Addr
 e_0:FuncData
 f_1:Addr
 e_1:FuncData
 f_2:Addr
 e_2:FuncData
 f_3:Addr
 e_3:FuncData
 f_4:Addr
 e_4:FuncData
 f_5:Addr
 e_5:FuncData
 f_6:Addr
 e_6:FuncData
 f_7:Addr
 e_7:FuncData
 f_8:Addr
 e_8:FuncData
 f_9:Addr
 e_9:FuncData
 f_10:Addr
 e_10:FuncData
 f_11:Addr
 e_11:FuncData
 f_12:Addr
 e_12:FuncData
 f_13:Addr
 e_13:FuncData
 f_14:Addr
 e_14:FuncData
 f_15:Addr
 e_15:FuncData
 f_16:Addr
 e_16:FuncData
 f_17:Addr
 e_17:FuncData
 f_18:Addr
 e_18:FuncData
 f_19:Addr
 e_19:FuncData
 f_20:Addr
 e_20:FuncData
 f_21:Addr
 e_21:FuncData
 f_22:Addr
 e_22:FuncData
 f_23:Addr
 e_23:FuncData
 f_24:Addr
 e_24:FuncData
 f_25:Addr
 e_25:FuncData
 f_26:Addr
 e_26:FuncData
 f_27:Addr
 e_27:FuncData
 f_28:Addr
 e_28:FuncData
 f_29:Addr
 e_29:FuncData
 f_30:Addr
 e_30:FuncData
 f_31:Addr
 e_31:FuncData
 f_32:Addr
 e_32:FuncData
 f_33:Addr
 e_33:FuncData
 f_34:Addr
 e_34:FuncData
 f_35:Addr
 e_35:FuncData
 f_36:Addr
 e_36:FuncData
 f_37:Addr
 e_37:FuncData
 f_38:Addr
 e_38:FuncData
 f_39:Addr
 e_39:FuncData
 f_40:Addr
 e_40:FuncData
 f_41:Addr
 e_41:FuncData
 f_42:Addr
 e_42:FuncData
 f_43:Addr
 e_43:FuncData
 f_44:Addr
 e_44:FuncData
 f_45:Addr
 e_45:FuncData
 f_46:Addr
 e_46:FuncData
 f_47:Addr
 e_47:FuncData
 f_48:Addr
 e_48:FuncData
 f_49:Addr
 e_49:FuncData
 f_50:Addr
 e_50:FuncData
 f_51:Addr
 e_51:FuncData
 f_52:Addr
 e_52:FuncData
structure Txt(K:W.Frag)(mg:Str->Option Value)(t:Ad):Prop where
 g_SORTS:mg "SORTS"=some (.ref t.D_SORTS)
 k_SORTS:mL K t.pr t.D_SORTS kvs_SORTS
 g_MOST_DEEDS:mg "MOST_DEEDS"=some (.int 8 t.k_MOST_DEEDS)
 c_Parting:KlsAt K mg "Parting" t.C_Parting
 n_Parting_blocks:NoAttr K t.C_Parting "blocks"
 c_Program:KlsAt K mg "Program" t.C_Program
 n_Program_width:NoAttr K t.C_Program "width"
 n_Program_ins:NoAttr K t.C_Program "ins"
 n_Program_boxes:NoAttr K t.C_Program "boxes"
 n_Program_rows:NoAttr K t.C_Program "rows"
 c_Layer:KlsAt K mg "Layer" t.C_Layer
 n_Layer_units:NoAttr K t.C_Layer "units"
 n_Layer_sorts:NoAttr K t.C_Layer "sorts"
 n_Layer_gaps:NoAttr K t.C_Layer "gaps"
 d_0:b8 K mg "blocks_of" s_0 ["program"] t.f_0 t.e_0
 d_1:bH K t.C_Parting "__init__" "Parting.__init__" s_1 ["self"] t.f_1 t.e_1
 d_2:bH K t.C_Parting "keep_place" "Parting.keep_place" s_2 ["self"] t.f_2 t.e_2
 d_3:bH K t.C_Parting "numbered" "Parting.numbered" s_3 ["self","block"] t.f_3 t.e_3
 d_4:bH K t.C_Parting "way_to" "Parting.way_to" s_4 ["self","block"] t.f_4 t.e_4
 d_5:bH K t.C_Parting "opened" "Parting.opened" s_5 ["self","rows","block"] t.f_5 t.e_5
 d_6:bH K t.C_Parting "with_row" "Parting.with_row" s_6 ["self","row","block"] t.f_6 t.e_6
 d_7:bH K t.C_Parting "with_if" "Parting.with_if" s_7 ["self","row","block"] t.f_7 t.e_7
 d_8:bH K t.C_Parting "with_while" "Parting.with_while" s_8 ["self","row","block"] t.f_8 t.e_8
 d_9:bH K t.C_Program "__init__" "Program.__init__" s_9 ["self","width","ins","boxes","rows"] t.f_9 t.e_9
 d_10:b8 K mg "copied" Et ["rows"] t.f_10 t.e_10
 d_11:b8 K mg "copied_row" Eu ["row"] t.f_11 t.e_11
 d_12:b8 K mg "operands_of" Ew ["deed"] t.f_12 t.e_12
 d_13:b8 K mg "boxes_read" Ex ["deed"] t.f_13 t.e_13
 d_14:b8 K mg "box_written" Ey ["deed"] t.f_14 t.e_14
 d_15:b8 K mg "sort_of" Ez ["deed"] t.f_15 t.e_15
 d_16:b8 K mg "led_anew" EA ["ending","places"] t.f_16 t.e_16
 d_17:b8 K mg "gap" EB ["deeds","j","k"] t.f_17 t.e_17
 d_18:b8 K mg "laid" EC ["deeds","units"] t.f_18 t.e_18
 d_19:bH K t.C_Layer "__init__" "Layer.__init__" ED ["self","deeds","units"] t.f_19 t.e_19
 d_20:bH K t.C_Layer "full_beats" "Layer.full_beats" EE ["self","done"] t.f_20 t.e_20
 d_21:bH K t.C_Layer "grown" "Layer.grown" EF ["self","done","beats","place"] t.f_21 t.e_21
 d_22:bH K t.C_Layer "has_room" "Layer.has_room" EG ["self","done","beat","missing"] t.f_22 t.e_22
 d_23:bH K t.C_Layer "fits" "Layer.fits" EH ["self","done","beat","place"] t.f_23 t.e_23
 d_24:b8 K mg "table_of" EI ["program","units"] t.f_24 t.e_24
 d_25:b8 K mg "beats_of" EJ ["block","units"] t.f_25 t.e_25
 d_26:b8 K mg "writes" EK ["deeds","name"] t.f_26 t.e_26
 d_27:b8 K mg "_law_whole" EL ["_law_found"] t.f_27 t.e_27
 d_28:b8 K mg "_law_at" EM ["_law_script","_law_k"] t.f_28 t.e_28
 d_29:b8 K mg "_law_mixed" EN ["_law_cell","_law_k"] t.f_29 t.e_29
 d_30:b8 K mg "_law_names" EO ["_law_number","_law_many"] t.f_30 t.e_30
 d_31:b8 K mg "_law_operand" EQ ["_law_number","_law_names_here","_law_top"] t.f_31 t.e_31
 d_32:b8 K mg "_law_deed" ER ["_law_number","_law_names_here","_law_top"] t.f_32 t.e_32
 d_33:b8 K mg "_law_statements" ES ["_law_numbers","_law_names_here","_law_top","_law_deep"] t.f_33 t.e_33
 d_34:b8 K mg "_law_folds" ET ["_law_script","_law_start","_law_many"] t.f_34 t.e_34
 d_35:b8 K mg "_law_drawn" EU ["_law_script","_law_many"] t.f_35 t.e_35
 d_36:b8 K mg "_law_words" EV ["_law_ins","_law_number","_law_width"] t.f_36 t.e_36
 d_37:b8 K mg "_law_word" EW ["_law_operand_here","_law_boxes"] t.f_37 t.e_37
 d_38:b8 K mg "_law_made" EX ["_law_op","_law_x","_law_y","_law_width"] t.f_38 t.e_38
 d_39:b8 K mg "_law_do" EY ["_law_deed_here","_law_before","_law_boxes","_law_said","_law_width"] t.f_39 t.e_39
 d_40:b8 K mg "_law_through" EZ ["_law_rows","_law_boxes","_law_said","_law_width","_law_left"] t.f_40 t.e_40
 d_41:b8 K mg "_law_begun" F0 ["_law_drawn_here","_law_words_here"] t.f_41 t.e_41
 d_42:b8 K mg "_law_run" F1 ["_law_drawn_here","_law_words_here","_law_most"] t.f_42 t.e_42
 d_43:b8 K mg "_law_fine_operand" F2 ["_law_found","_law_names_here","_law_top"] t.f_43 t.e_43
 d_44:b8 K mg "_law_fine_deed" F3 ["_law_found","_law_names_here","_law_top"] t.f_44 t.e_44
 d_45:b8 K mg "_law_fine_ending" F4 ["_law_found","_law_names_here","_law_many"] t.f_45 t.e_45
 d_46:b8 K mg "_law_fine" F5 ["_law_found","_law_drawn_here"] t.f_46 t.e_46
 d_47:b8 K mg "_law_next" F6 ["_law_ending","_law_boxes"] t.f_47 t.e_47
 d_48:b8 K mg "_law_units" F7 ["_law_cell"] t.f_48 t.e_48
 d_49:b8 K mg "_law_sort" F8 ["_law_deed_here"] t.f_49 t.e_49
 d_50:b8 K mg "_law_beat_fine" F9 ["_law_deeds","_law_units_here"] t.f_50 t.e_50
 d_51:b8 K mg "_law_table_run" Fb ["_law_table","_law_drawn_here","_law_words_here","_law_most"] t.f_51 t.e_51
 d_52:b8 K mg "law" Fc ["_law_script"] t.f_52 t.e_52
 z_range:mg "range"=none
 z_isinstance:mg "isinstance"=none
 z_int:mg "int"=none
 z_bool:mg "bool"=none
 z_len:mg "len"=none
 z_str:mg "str"=none
 z_tuple:mg "tuple"=none
 z_sum:mg "sum"=none
 z_list:mg "list"=none
 z_min:mg "min"=none
 z_reversed:mg "reversed"=none
 z_enumerate:mg "enumerate"=none
 z_sorted:mg "sorted"=none
 z_any:mg "any"=none
 z_zip:mg "zip"=none
 z_set:mg "set"=none
theorem vR{K:W.Frag}{pr:Params}{D:Addr}{h0 h1 h2 h3 h4 h5 h6:Int}{t0 u0 t1 u1 t2 u2 t3 u3 t4 u4 t5 u5 t6 u6:Tok}{ep:Nat}(l:K.lookup D=some ⟨.type "dict",none,.dict #[⟨h0,.str "plus" t0,.int 0 u0⟩,⟨h1,.str "less" t1,.int 0 u1⟩,⟨h2,.str "below" t2,.int 1 u2⟩,⟨h3,.str "same" t3,.int 1 u3⟩,⟨h4,.str "and" t4,.int 2 u4⟩,⟨h5,.str "or" t5,.int 2 u5⟩,⟨h6,.str "xor" t6,.int 2 u6⟩] ep,#[]⟩) (s:(D==sysModules)=false) (hD:[h0,h1,h2,h3,h4,h5,h6]=kvs_SORTS.map (fun kv=>BH pr kv.1)):mL K pr D kvs_SORTS:=by simp only [kvs_SORTS,List.map_cons,List.map_nil,List.cons.injEq,and_true] at hD;obtain ⟨e0,e1,e2,e3,e4,e5,e6⟩:=hD;exact ⟨_,_,l,s,by decide +kernel,.cons ⟨by kernel_rfl,e0,⟨_,rfl⟩⟩ (.cons ⟨by kernel_rfl,e1,⟨_,rfl⟩⟩ (.cons ⟨by kernel_rfl,e2,⟨_,rfl⟩⟩ (.cons ⟨by kernel_rfl,e3,⟨_,rfl⟩⟩ (.cons ⟨by kernel_rfl,e4,⟨_,rfl⟩⟩ (.cons ⟨by kernel_rfl,e5,⟨_,rfl⟩⟩ (.cons ⟨by kernel_rfl,e6,⟨_,rfl⟩⟩ (.nil)))))))⟩
variable {H:Hp} {u:TS}
noncomputable def iL(u:TS)(D:d4):L2.St->Hp->Prop:=u D
theorem later{D:d4}{σ:L2.St}(h:u D σ H):iL u D σ H:=h
theorem xt{t:TS}{D:d4}{σ:L2.St}:Da t u D σ H=t {D with nx:=iL u D} σ H:=rfl
theorem xm{t:TS}{D:d4}{σ:L2.St}:D9 t u D σ H=∃Mid:L2.St->Hp->Prop,t {D with nx:=Mid} σ H/\∀σ' H',Mid σ' H'->iL u D σ' H':=rfl
theorem CF{c:TT}{t:TS}{D:d4}{σ:L2.St}:D8 c t u D σ H=c σ H fun b H1=>if b=true then iL t D σ H1 else iL u D σ H1:=rfl
end K52
local macro_rules | `(tactic| simp_arith! [$ts,*])=>`(tactic| simp_arith [-L2.xr,-L2.xl,K52.xt,K52.xm,$ts,*])
local macro_rules | `(tactic| simp_arith only [$ts,*])=>`(tactic| simp_arith [-L2.xr,-L2.AY,-L2.xl,K52.xt,K52.CF,K52.xm,$ts,*])
namespace K52
open PySem L2 PyProof.Rows FD FB FS FO FR FG
noncomputable def oZ:Sp:=fun vs H Q _=>∃c k:Int,vs=[.int c,.int k]/\Builtin.Int.intBits c<=2 ^ 20/\0<=k/\k<=1000/\Q (.int (gi c k)) H
theorem du{c k:Int}{H:Hp}{Q:VK}{E:XK}:oZ [.int c,.int k] H Q E=(Builtin.Int.intBits c<=2 ^ 20/\0<=k/\k<=1000/\Q (.int (gi c k)) H):=propext ⟨by rintro ⟨_,_,e,q⟩;cases e;exact q,by intro q;exact ⟨c,k,rfl,q⟩⟩
noncomputable def B2(K:W.Frag):Sp:=fun vs H Q _=>∃(a:Addr)(ns:List Int)(k:Int),vs=[.ref a,.int k]/\SqL K H a (ns.map V.int)/\0<=k/\Q (.int (atF ns k)) H
section
variable {P:Program} {w:World} {K:W.Frag} {mg:Str->Option Value} {base:Heap} {t:Ad}
theorem zU{a:Addr}{k:Int}{H:Hp}{Q:VK}{E:XK}:B2 K [.ref a,.int k] H Q E=∃ns:List Int,SqL K H a (ns.map V.int)/\0<=k/\Q (.int (atF ns k)) H:=propext ⟨by rintro ⟨_,ns,_,e,q⟩;cases e;exact ⟨ns,q⟩,by rintro ⟨ns,q⟩;exact ⟨a,ns,k,rfl,q⟩⟩
theorem gZ(T:Txt K mg t):FnOk P w K mg base CX0 1 t.f_29 t.e_29 ["_law_cell","_law_k"] oZ:=by
 refine T.d_29.F.ok sc_29 ∅ ?_;rintro cdv A outer s H vs Q E hr ⟨c,k,rfl,hb,k0,k1,q⟩;refine ⟨_,
   (XSs.h
   (ai
    (aF (ar jY (yqv 0 vl) (am tm ac ac) (aA _))
     (aj
      (aq (am aK (am aU (am cI (yqv 0 vl) (am tm ac ac)) (am f7 ac (am cu ac (am aK (yqv 1 vl) ac)))) (am f7 ac ac))))
     aB)
   (ai
    (ax (i:=2) sc_29.nd rfl ll (am aK (am b7 (am b7 (am cu (yqv 0 vl) ac) (am cu (am cu ac (yqv 1 vl)) (yqv 1 vl))) (yqv 1 vl)) ac))
   (ai
    (ax (i:=2) sc_29.nd rfl ll (am aK (am cu (yqv 2 vl) (yqv 2 vl)) ac))
   (aj
    (aq (am aK (am cu (yqv 2 vl) ac) ac))))))),?_⟩
 rw [show aM _ [V.int c,V.int k]=[some (.int c),some (.int k),none] from rfl];simp_arith [];unfold gi at q;have cp:tF 10 40:=⟨by decide,by decide,by decide⟩
 refine ⟨cp,aH (fun e=>?_) (fun e=>?_)⟩
 ·rw [if_pos e] at q;have m0:0<=k % 60:=fc _ (by decide);have m1:k % 60<60:=iK _ (by decide);refine ⟨cp,.inl ⟨by decide,by decide⟩,⟨by omega,by omega,by decide⟩,FA.CDivB.pow (by omega),⟨by decide,by decide,by decide⟩,by decide,q⟩
 ·rw [if_neg e] at q;have n0:0<=(c * 1103515245+7919 * k * k+k) % 2147483647:=fc _ (by decide);have n1:(c * 1103515245+7919 * k * k+k) % 2147483647<2147483647:=iK _ (by decide);refine ⟨.inr ⟨by decide,by decide⟩,.inl ⟨by decide,by decide⟩,.inr ⟨by omega,by omega⟩,.inl ⟨by omega,by omega⟩,.inr ⟨by decide,by decide⟩,q⟩
theorem AS(T:Txt K mg t):FnOk P w K mg base CX0 1 t.f_28 t.e_28 ["_law_script","_law_k"] (B2 K):=by
 refine T.d_28.F.ok Fo ∅ ?_;rintro cdv A outer s H vs Q E hr ⟨a,ns,k,rfl,hS,k0,q⟩;refine ⟨_,
   (XSs.h
   (ai
    (aF (ar dX (yqv 1 vl) (aw ay gl T.z_len PySem.boot_len (aa (yqv 0 vl) ae)) (aA _))
     (aj
      (aq (ak aS (yqv 0 vl) (yqv 1 vl))))
     aB)
   (aj
    (aq ac)))),?_⟩
 rw [show aM _ [V.ref a,V.int k]=[some (.ref a),some (.int k)] from rfl];simp_arith [];unfold atF at q;refine ⟨_,.inl hS,aH (fun e=>?_) (fun e=>?_)⟩
 ·rw [zq1] at e;rw [if_pos e] at q;obtain ⟨n,rfl⟩:=pQ k0;have hn:n<ns.length:=by omega
  refine ⟨_,_,hS,ba (by rw [bM,zq4 hn];rfl),?_⟩;rw [dF,eN,zq4 hn] at q;exact q
 ·rw [zq1] at e;rw [if_neg e] at q;exact q
noncomputable def sp_law(K:W.Frag):Sp:=fun vs H Q _=>∃(a:Addr)(ns:List Int),vs=[.ref a]/\SqL K H a (ns.map V.int)/\ns.length<=63/\(∀z∈ns,Builtin.Int.intBits z<=2 ^ 20)/\∀H',Q (.bl true) H'
noncomputable def ph(K:W.Frag):Sp:=fun vs H Q _=>∃(x:V)(k:String),vs=[x]/\gJ K H x k/\Q (.bl (decide (k="int"))) H
theorem oy(T:Txt K mg t):FnOk P w K mg base CX0 1 t.f_27 t.e_27 ["_law_found"] (ph K):=by
 refine T.d_27.F.ok Fn ∅ ?_;rintro cdv A outer s H vs Q E hr ⟨x,k,rfl,hk,q⟩;refine ⟨_,
   (XSs.h
   (aj
    (aq (cq (aw bN gl T.z_isinstance boot_isinstance (aa (yqv 0 vl) (aa (bS (v:=.ty "int") gl T.z_int boot_int rfl) ae))) (cZ (Ay (aw bN gl T.z_isinstance boot_isinstance (aa (yqv 0 vl) (aa (bS (v:=.ty "bool") gl T.z_bool boot_bool rfl) ae))))))))),?_⟩
 rw [show aM _ [x]=[some x] from rfl];simp_arith [];refine ⟨x,"int",k,rfl,by decide +kernel,hk,_,rfl,gW (fun e=>⟨x,"bool",k,rfl,by decide +kernel,hk,_,rfl,?_⟩) (fun e=>?_)⟩
 ·have h:k="int"\/k="bool":=by
   unfold lZ at e;rw [kn,dc] at e;rcases e with e | e
   ·exact .inl (by simpa using e)
   ·exact .inr (by simpa using e.1)
  rcases h with rfl | rfl
  ·exact q
  ·exact q
 ·have h:¬k="int":=fun z=>by subst z;exact absurd e (by decide +kernel)
  rw [decide_eq_false h] at q;exact q
theorem iy{i:Int}{H:Hp}{Q:VK}{E:XK}:ph K [.int i] H Q E=Q (.bl true) H:=propext ⟨by rintro ⟨_,_,e,k,q⟩;cases e;cases k;exact q,by intro q;exact ⟨_,_,rfl,.int,q⟩⟩
noncomputable def p9:Sp:=fun vs H Q _=>∃n m:Int,vs=[.int n,.int m]/\0<=n/\0<=m/\m<=8/\∀p H',Same H H'->H p=none->H' p=some (.lst ((gD n m.toNat).map V.str))->Q (.ref p) H'
theorem Ab{n m:Int}{H:Hp}{Q:VK}{E:XK}:p9 [.int n,.int m] H Q E=(0<=n/\0<=m/\m<=8/\∀p H',Same H H'->H p=none->H' p=some (.lst ((gD n m.toNat).map V.str))->Q (.ref p) H'):=propext ⟨by rintro ⟨_,_,e,q⟩;cases e;exact q,by intro q;exact ⟨n,m,rfl,q⟩⟩
theorem Al{n:Int}:(List.range (1+n % 6).toNat).map (fun i:Nat=>V.int (n / ((i:Int)+1) % 26))=(cC n).map V.int:=by unfold cC;rw [fj];rfl
noncomputable def gm(n:Int)(j:Nat):List Int:=(List.range (cC n).length).map fun k:Nat=>(cC n).getD k 0+3 * (j:Int) * (if decide ((k:Int)=n / 64 % ((cC n).length:Int))=true then 1 else 0)
theorem uL{n:Int}{j:Nat}:Txt.join "" ((gm n j).map fw)=rT n j:=by unfold gm rT;rw [fj];rfl
theorem qf{z:Int}:(fw z).length=1:=rfl
theorem xS{xs:List Int}:((xs.map fw).map (·.length)).sum=xs.length:=by
 induction xs with
 |nil=>rfl
 |cons x xs ih=>rw [cM,cM,List.sum_cons,ih,qf,dB];omega
theorem wA(T:Txt K mg t):FnOk P w K mg base CX0 1 t.f_30 t.e_30 ["_law_number","_law_many"] p9:=by
 refine T.d_30.F.ok sc_30 ∅ ?_;rintro cdv A outer s H vs Q E hr ⟨n,m,rfl,n0,m0,m8,q⟩;refine ⟨_,
   (XSs.h
   (ai
    (ax (i:=2) sc_30.nd rfl lc aE)
   (ai
    (ax (i:=3) sc_30.nd rfl lc (bu (tns:=["_law_k"]) (cns:=["_law_number"]) (ci:=[0]) rfl (CompSc.of (by kernel_rfl)) (bV gl T.z_range (aa (am b7 ac (am aK (yqv 0 vc) ac)) ae)) (fun _=>(aC (i:=1) (show List.Nodup [(".0":Str),("_law_k":Str),("_law_number":Str)] by decide +kernel) rfl ll (Or.inr (by kernel_rfl)))) (fun _=>cr) (fun _=>(am aK (am aU (yqv 2 vc) (am b7 (yqv 1 vl) ac)) ac))))
   (ai
    (ax (i:=4) sc_30.nd rfl lc (am aK (am aU (yqv 0 vc) ac) (aw ay gl T.z_len PySem.boot_len (aa (yqv 3 vc) ae))))
   (ai
    (ax (i:=5) sc_30.nd rfl ll (aQ ae))
   (ai
    (bF PassesOwn.never rfl (bV gl T.z_range (aa (yqv 1 vl) ae)) (aC (i:=6) sc_30.nd rfl lc)
     (ai
      (cQ (i:=7) sc_30.nd rfl ll rfl (by kernel_rfl) (tns:=["_law_k"]) (cns:=["_law_some","_law_at_here","_law_j"]) (ci:=[3,4,6]) rfl (CompSc.of (by kernel_rfl)) (bV gl T.z_range (aa (aw ay gl T.z_len PySem.boot_len (aa (yqv 3 vc) ae)) ae)) (fun _=>(aC (i:=1) (show List.Nodup [(".0":Str),("_law_k":Str),("_law_some":Str),("_law_at_here":Str),("_law_j":Str)] by decide +kernel) rfl ll (Or.inr (by kernel_rfl)))) (fun _=>cr) (fun _=>(am b7 (ak aS (yqv 2 vc) (yqv 1 vl)) (am cu (am cu ac (yqv 4 vc)) (bw cV gl T.z_int boot_int (aa (aR aT (yqv 1 vl) (yqv 3 vc) (aA _)) ae))))))
     (aj
      (bB (cx PySem.F.plainAttrs_list PySem.F.slot_list_append PySem.F.type_list_append bj (yqv 5 vl) (aa (cx PySem.F.plainAttrs_str PySem.F.slot_str_join PySem.F.type_str_join zt aE (aa (bu (tns:=["_law_spot"]) (cns:=["_law_letters"]) (ci:=[2]) rfl (CompSc.of (by kernel_rfl)) (aZ (yqv 7 vl)) (fun _=>(aC (i:=1) (show List.Nodup [(".0":Str),("_law_spot":Str),("_law_letters":Str)] by decide +kernel) rfl ll (Or.inr (by kernel_rfl)))) (fun _=>cr) (fun _=>(ak BG (yqv 2 vc) (am aK (yqv 1 vl) ac)))) ae)) ae))))))
   (ai
    (aF (ar aT (am aK (am aU (yqv 0 vc) ac) ac) ac (aA _))
     (aj
      (ax (i:=5) sc_30.nd rfl ll (bq cF (aQ (cW (by rfl))) c7 (bh (yqv 1 vl)))))
     aB)
   (aj
    (aq (yqv 5 vl)))))))))),?_⟩
 rw [show aM _ [V.int n,V.int m]=[some (.int n),some (.int m),none,none,none,none,none,none] from rfl];simp_arith [];have z0:0<=n % 6:=fc _ (by decide);have z1:n % 6<6:=iK _ (by decide);have hln:=mt n;have hl1:1<=(cC n).length/\(cC n).length<=6:=by omega
 refine ⟨by omega,by omega,fun acc hacc bk=>rC (fun i=>V.int (n / ((i:Int)+1) % 26)) (by rw [sizeLine_eq];omega) hacc (fun i hi H3 Q' s3 h=>?_) ?_⟩
 ·simp_arith [];exact ⟨CDivB.small (by omega) (by omega),h⟩
 rw [Al];unfold gD at q;have sA:Same H (upd H acc (.lst ((cC n).map V.int))):=Same.upd hacc;refine ⟨CDivB.small (by decide) (by decide),_,.inl (SqL.of af),by rw [zq1];omega,fun p0 hp0=>⟨by omega,by omega,?_⟩⟩;have hq0:H p0=none:=sA.free hp0;rw [zq1];refine fN (fun j σ H'=>Same (upd H acc (.lst ((cC n).map V.int))) H'/\H' p0=some (.lst ((List.range j).map fun i=>V.str (rT n i)))/\∃o6 o7,σ=[some (.int n),some (.int m),some (.str "abcdefghijklmnopqrstuvwxyz"),some (.ref acc),some (.int (n / 64 % ((cC n).length:Int))),some (.ref p0),o6,o7])
  ⟨Same.upd hp0,af,_,_,rfl⟩ ?_ ?_
 ·rintro j σ H' hj ⟨sm,hl,o6,o7,rfl⟩;simp_arith [];have hA:H' acc=some (.lst ((cC n).map V.int)):=sm _ _ af;refine ⟨_,.inl (SqL.of hA),by rw [zq1];omega,by rw [zq1];omega,fun b hb bk=>?_⟩;rw [dF,zq1];refine rC (fun k=>V.int ((cC n).getD k 0+3 * (j:Int) * (if decide ((k:Int)=n / 64 % ((cC n).length:Int))=true then 1 else 0))) (by rw [sizeLine_eq];omega) hb (fun k hk H3 Q' s3 h=>?_) ?_
  ·simp_arith [];refine ⟨_,_,SqL.of (s3 _ _ hA),ba (v:=V.int ((cC n).getD k 0)) (by rw [bM,eN,zq4 hk];rfl),?_⟩;simp_arith [];refine ⟨.inl ⟨by decide,by decide⟩,.inl ⟨by omega,by omega⟩,h⟩
  have e1:(List.range (cC n).length).map (fun k:Nat=>V.int ((cC n).getD k 0+3 * (j:Int) * (if decide ((k:Int)=n / 64 % ((cC n).length:Int))=true then 1 else 0)))=(gm n j).map V.int:=by unfold gm;rw [fj];rfl
  rw [e1];have s1:=Same.upd (o:=.lst ((gm n j).map V.int)) hb;have hs6:(gm n j).length<=6:=by unfold gm;simp;omega
  refine ⟨.inl ⟨rfl,_,SqL.of (s1 _ _ hl)⟩,⟨_,SqL.of af⟩,fun c hc bk2=>?_⟩;refine zd (fun x=>match x with | .int i=>.str (fw i) | _=>.non) (by rw [zq1,sizeLine_eq];omega) (SqL.of af) hc (fun x hx H3 Q' s3 h=>?_) ?_
  ·obtain ⟨i,_,rfl⟩:=zq20.mp hx;simp_arith [];exact ⟨by decide +kernel,_,FA.BN i,h⟩
  have e2:((gm n j).map V.int).map (fun x=>match x with | .int i=>V.str (fw i) | _=>.non)=((gm n j).map fw).map V.str:=by rw [fj,fj];rfl
  rw [e2];have s2:=s1.updN (o:=.lst (((gm n j).map fw).map V.str)) hc;refine ⟨_,SqL.of af,?_,_,s2 _ _ hl,?_,(sm.trans s2).updM hp0,?_,_,_,rfl⟩
  ·rw [xS,zq1];have:("":Str).length=0:=by decide +kernel
   rw [this];omega
  ·rw [zq1,g9,sizeLine_eq];omega
  ·rw [af,uL,yz,cD];rfl
 ·rintro σ H' ⟨sm,hl,o6,o7,rfl⟩;simp_arith [];refine ⟨CDivB.small (by decide) (by decide),aH (fun e=>?_) (fun e=>?_)⟩
  ·rw [if_pos e] at q;intro b hb;refine ⟨_,SqL.of af,fun c hc=>?_⟩;refine q c _ ((sA.trans sm).trans ((Same.upd hb).updN hc)) ((sA.trans sm).free ((Same.upd hb).free hc)) ?_;rw [af,eP m0,mK];rfl
  ·rw [if_neg e] at q;refine q p0 H' (sA.trans sm) hq0 ?_;rw [hl,fj];rfl
structure NmsV(K:W.Frag)(H:Hp)(b:Addr)(ns:List Str)(wd:Int):Prop where
 at_:SqL K H b (ns.map V.str)
 pos:0<ns.length
 few:ns.length<=8
 w1:1<=wd
 w8:wd<=8
theorem NmsV.same{K:W.Frag}{H H':Hp}{b:Addr}{ns:List Str}{wd:Int}(h:NmsV K H b ns wd)(s:Same H H'):NmsV K H' b ns wd:=⟨s.seq h.at_,h.pos,h.few,h.w1,h.w8⟩
noncomputable def rn(K:W.Frag)(n:Int)(b:Addr)(top:Int)(H:Hp)(Q:VK):Prop:=∃(ns:List Str)(wd:Int),top=1 * 2 ^ wd.toNat/\NmsV K H b ns wd/\∀(o:Opd)H',Same H H'->Opd.good ns wd o->Q o.v H'
noncomputable def sO(K:W.Frag):Sp:=fun vs H Q _=>∃(n:Int)(b:Addr)(top:Int),vs=[.int n,.ref b,.int top]/\rn K n b top H Q
theorem xp{n:Int}{b:Addr}{top:Int}{H:Hp}{Q:VK}{E:XK}:sO K [.int n,.ref b,.int top] H Q E=rn K n b top H Q:=propext ⟨by rintro ⟨_,_,_,e,q⟩;cases e;exact q,fun q=>⟨_,_,_,rfl,q⟩⟩
theorem m6{ns:List Str}{x:Int}(h:0<ns.length):∃n∈ns,atI (ns.map V.str) (x % ((ns.map V.str).length:Int))=some (V.str n):=by
 have l0:(0:Int)<((ns.map V.str).length:Int):=by rw [zq1];omega
 have h0:=fc x (show ((ns.map V.str).length:Int)≠0 by omega);have h1:=iK x l0;generalize x % ((ns.map V.str).length:Int)=y at h0 h1;obtain ⟨m,rfl⟩:∃m:Nat,y=(m:Int):=⟨y.toNat,by omega⟩
 rw [zq1] at h1;refine ⟨ns[m],ko (by omega),ba ?_⟩;rw [bM,zq4 (by omega)];rfl
theorem zF(T:Txt K mg t):FnOk P w K mg base CX0 1 t.f_31 t.e_31 ["_law_number","_law_names_here","_law_top"] (sO K):=by
 refine T.d_31.F.ok Fp ∅ ?_;rintro cdv A outer s H vs Q E hr ⟨n,b,top,rfl,ns,wd,htop,hN,q⟩;have hp:(0:Int)<top:=by rw [htop,qT];exact qU (by decide)
 refine ⟨_,
   (XSs.h
   (ai
    (aF (ar aT (am aK (yqv 0 vl) ac) ac (aA _))
     (aj
      (aq (am aK (ak aS (aQ (aa (am aK (am aU (yqv 0 vl) ac) (yqv 2 vl)) (aa (am cI (yqv 2 vl) ac) (cW (by rfl))))) (am aK (am aU (yqv 0 vl) ac) ac)) (yqv 2 vl))))
     aB)
   (aj
    (aq (ak aS (yqv 1 vl) (am aK (am aU (yqv 0 vl) ac) (aw ay gl T.z_len PySem.boot_len (aa (yqv 1 vl) ae)))))))),?_⟩
 rw [show aM _ [V.int n,V.ref b,V.int top]=[some (.int n),some (.ref b),some (.int top)] from rfl];simp_arith [];refine aH (fun _=>⟨CDivB.small (by decide) (by decide),hp,fun p hp0=>⟨CDivB.small (by decide) (by decide),?_⟩⟩) (fun _=>?_)
 ·have s1:=Same.upd (o:=.lst [V.int (n / 12 % top),V.int (top-1),V.int 0,V.int 1]) hp0;obtain ⟨z,hz⟩:∃z:Int,atI [V.int (n / 12 % top),V.int (top-1),V.int 0,V.int 1] (n / 3 % 4)=some (V.int z):=by
   rcases (by omega:n / 3 % 4=0\/n / 3 % 4=1\/n / 3 % 4=2\/n / 3 % 4=3) with e | e | e | e<;>rw [e]
   ·exact ⟨_,rfl⟩
   ·exact ⟨_,rfl⟩
   ·exact ⟨_,rfl⟩
   ·exact ⟨_,rfl⟩
  refine ⟨_,_,SqL.of af,hz,hp,q (.word (z % top)) _ s1 ⟨fc _ (by omega),?_⟩⟩;have:=iK z hp;rw [htop,qT] at this ⊢;exact this
 ·obtain ⟨m,hm,he⟩:=m6 (ns:=ns) (x:=n / 3) hN.pos;exact ⟨CDivB.small (by decide) (by decide),_,.inl hN.at_,by rw [zq1];have:=hN.pos;omega,_,_,hN.at_,he,q (.box m) H (Same.refl _) hm⟩
noncomputable def jh(K:W.Frag)(n:Int)(b:Addr)(top:Int)(H:Hp)(Q:VK):Prop:=∃(ns:List Str)(wd:Int),top=1 * 2 ^ wd.toNat/\NmsV K H b ns wd/\∀(d:Deed)q H',Same H H'->H' q=some (.tup d.vs)->d.fine->Deed.good ns wd d->Q (.ref q) H'
noncomputable def oQ(K:W.Frag):Sp:=fun vs H Q _=>∃(n:Int)(b:Addr)(top:Int),vs=[.int n,.ref b,.int top]/\jh K n b top H Q
theorem mf{n:Int}{b:Addr}{top:Int}{H:Hp}{Q:VK}{E:XK}:oQ K [.int n,.ref b,.int top] H Q E=jh K n b top H Q:=propext ⟨by rintro ⟨_,_,_,e,q⟩;cases e;exact q,fun q=>⟨_,_,_,rfl,q⟩⟩
theorem wk(T:Txt K mg t):FnOk P w K mg base CX0 2 t.f_32 t.e_32 ["_law_number","_law_names_here","_law_top"] (oQ K):=by
 have G_31:=@zF P w K mg base t T;refine T.d_32.F.ok sc_32 ∅ ?_;rintro cdv A outer s H vs Q E hr ⟨n,b,top,rfl,ns,wd,htop,hN,q⟩;refine ⟨_,
   (XSs.h
   (ai
    (ax (i:=3) sc_32.nd rfl ll (ak aS (yqv 1 vl) (am aK (am aU (yqv 0 vl) ac) (aw ay gl T.z_len PySem.boot_len (aa (yqv 1 vl) ae)))))
   (ai
    (ax (i:=4) sc_32.nd rfl ll (ap T.d_31 G_31 hr.m (aa (am aU (yqv 0 vl) ac) (aa (yqv 1 vl) (aa (yqv 2 vl) ae))) gl))
   (ai
    (ax (i:=5) sc_32.nd rfl ll (ap T.d_31 G_31 hr.m (aa (am aU (yqv 0 vl) ac) (aa (yqv 1 vl) (aa (yqv 2 vl) ae))) gl))
   (ai
    (ax (i:=6) sc_32.nd rfl ll (am aK (yqv 0 vl) ac))
   (ai
    (aF (ar dX (yqv 6 vl) ac (aA _))
     (aj
      (aq (aN (aa aE (aa (yqv 4 vl) ae)))))
     aB)
   (ai
    (aF (ar aT (yqv 6 vl) ac (aA _))
     (aj
      (aq (aN (aa aE (aa (yqv 3 vl) (aa (yqv 4 vl) ae))))))
     aB)
   (aj
    (aq (aN (aa (ak aS (aQ (cW (by rfl))) (am cI (yqv 6 vl) ac)) (aa (yqv 3 vl) (aa (yqv 4 vl) (aa (yqv 5 vl) ae)))))))))))))),?_⟩
 rw [show aM _ [V.int n,V.ref b,V.int top]=[some (.int n),some (.ref b),some (.int top),none,none,none,none] from rfl];simp_arith [xp];obtain ⟨c,hc,he⟩:=m6 (ns:=ns) (x:=n / 10) hN.pos;refine ⟨CDivB.small (by decide) (by decide),_,.inl hN.at_,by rw [zq1];have:=hN.pos;omega,_,_,hN.at_,he,CDivB.small (by decide) (by decide),ns,wd,htop,hN,fun o H1 s1 ho=>?_⟩;simp_arith [xp];refine ⟨CDivB.small (by decide) (by decide),ns,wd,htop,hN.same s1,fun o2 H2 s2 ho2=>?_⟩;have s12:=s1.trans s2;refine aH (fun _ p hp=>q (.tell o) p _ (s12.updN hp) af trivial ho) (fun h2=>?_);refine aH (fun _ p hp=>q (.copy c o) p _ (s12.updN hp) af trivial ⟨hc,ho⟩) (fun h3=>?_);intro p hp;have m0:0<=n % 10:=fc _ (by decide);have m1:n % 10<10:=iK _ (by decide);obtain ⟨f,hf,hfe⟩:∃f∈opsL,atI [V.str "plus",V.str "less",V.str "and",V.str "or",V.str "xor",V.str "below",V.str "same"] (n % 10-3)=some (V.str f):=by
  rcases (by omega:n % 10-3=0\/n % 10-3=1\/n % 10-3=2\/n % 10-3=3\/n % 10-3=4\/n % 10-3=5\/n % 10-3=6) with e | e | e | e | e | e | e<;>rw [e]
  ·exact ⟨"plus",by decide +kernel,rfl⟩
  ·exact ⟨"less",by decide +kernel,rfl⟩
  ·exact ⟨"and",by decide +kernel,rfl⟩
  ·exact ⟨"or",by decide +kernel,rfl⟩
  ·exact ⟨"xor",by decide +kernel,rfl⟩
  ·exact ⟨"below",by decide +kernel,rfl⟩
  ·exact ⟨"same",by decide +kernel,rfl⟩
 refine ⟨_,_,SqL.of af,hfe,fun p2 hp2=>?_⟩;exact q (.op f c o o2) p2 _ ((s12.updN hp).updN hp2) af hf ⟨hf,hc,ho,ho2⟩
noncomputable def n9(K:W.Frag)(D:Nat)(a b:Addr)(top dp:Int)(H:Hp)(Q:VK):Prop:=∃(ns:List Str)(wd:Int)(xs:List Int)(e:Nat),top=1 * 2 ^ wd.toNat/\NmsV K H b ns wd/\dp=(e:Int)/\e<D/\SqL K H a (xs.map V.int)/\xs.length<=200/\
 ∀p ys ss g H',Same H H'->(∀c∈p::g,H c=none)->p∉g->H' p=some (.lst ys)->StmsV K H' ys ss g->bO ns wd ss->bY ss<=e->bc ss<=2 * xs.length->Q (.ref p) H'
noncomputable def i6(K:W.Frag)(D:Nat):Sp:=fun vs H Q _=>∃(a b:Addr)(top dp:Int),vs=[.ref a,.ref b,.int top,.int dp]/\n9 K D a b top dp H Q
noncomputable def StI(K:W.Frag)(H:Hp)(ns:List Str)(wd:Int)(e:Nat)(k:Addr)(i:Nat)(H':Hp):Prop:=Same H H'/\∃ys ss g,H' k=some (.lst ys)/\StmsV K H' ys ss g/\k∉g/\(∀c∈g,H c=none)/\bO ns wd ss/\bY ss<=e/\bc ss<=2 * i
theorem fS{D:Nat}{a b:Addr}{top dp:Int}{H:Hp}{Q:VK}{E:XK}:i6 K D [.ref a,.ref b,.int top,.int dp] H Q E=n9 K D a b top dp H Q:=propext ⟨by rintro ⟨_,_,_,_,e,q⟩;cases e;exact q,fun q=>⟨_,_,_,_,rfl,q⟩⟩
theorem StI.add{H H1 H2:Hp}{ns:List Str}{wd:Int}{e k i j:Nat}{x:V}{s:Stm}{g2:List Addr}(h:StI K H ns wd e k i H1)(hk:H k=none)(sm:Same H1 H2)(hx:StmV K H2 x s g2)(f2:∀c∈g2,H1 c=none)(hg:s.good ns wd)(hd:s.deep<=e)(hm:2 * i+s.many<=2 * j)(hj:j<=200):
  ∃ys,H2 k=some (.lst ys)/\ys.length<sizeLine/\StI K H ns wd e k j (upd H2 k (.lst (ys++[x]))):=by
 obtain ⟨s1,ys,ss,g,ek,hy,ng,fg,gd,dp,my⟩:=h;have e2:=sm _ _ ek;have kg2:k∉g2:=fun z=>by have:=f2 k z;rw [ek] at this;cases this
 have tt:TSame H2 (upd H2 k (.lst (ys++[x]))):=TSame.updL e2;have ly:=hy.length;have lm:=jx ss;refine ⟨ys,e2,by rw [sizeLine_eq];omega,(s1.trans sm).updM hk,ys++[x],ss++[s],g++g2,af,((hy.same sm).keep tt (Kept.upd ng)).snoc (hx.keep tt (Kept.upd kg2)),?_,?_,?_,?_,?_⟩
 ·intro z;rcases zq16.mp z with z | z
  ·exact ng z
  ·exact kg2 z
 ·intro c hc;rcases zq16.mp hc with z | z
  ·exact fg c z
  ·exact s1.free (f2 c z)
 ·exact goodL_append.mpr ⟨gd,hg,trivial⟩
 ·rw [gR,bY,bY];omega
 ·rw [eT,bc,bc];omega
theorem qD(T:Txt K mg t)(D:Nat)(G_33:FnOk P w K mg base CX0 (D+3) t.f_33 t.e_33 ["_law_numbers","_law_names_here","_law_top","_law_deep"] (i6 K D)):FnOk P w K mg base CX0 (D+4) t.f_33 t.e_33 ["_law_numbers","_law_names_here","_law_top","_law_deep"] (i6 K (D+1)):=by
 have G_32:=@wk P w K mg base t T;refine T.d_33.F.ok sc_33 ∅ ?_;rintro cdv A outer s H vs Q E hr ⟨a,b,top,dp,rfl,ns,wd,xs,e,htop,hN,rfl,heD,ha,hxl,q⟩;refine ⟨_,
   (XSs.h
   (ai
    (ax (i:=4) sc_33.nd rfl ll (aQ ae))
   (ai
    (ax (i:=5) sc_33.nd rfl ll ac)
   (ai
    (iH PassesOwn.never (ar dX (yqv 5 vl) (aw ay gl T.z_len PySem.boot_len (aa (yqv 0 vl) ae)) (aA _))
     (ai
      (ax (i:=6) sc_33.nd rfl ll (am aU (ak aS (yqv 0 vl) (yqv 5 vl)) ac))
     (ai
      (ax (i:=5) sc_33.nd rfl ll (am b7 (yqv 5 vl) ac))
     (ai
      (ax (i:=7) sc_33.nd rfl ll (aw (ij rfl) gl T.z_min boot_min (aa (aw ay gl T.z_len PySem.boot_len (aa (yqv 0 vl) ae)) (aa (am b7 (yqv 5 vl) (am aK (am aU (yqv 6 vl) ac) ac)) ae))))
     (ai
      (ax (i:=8) sc_33.nd rfl ll (aw (ij rfl) gl T.z_min boot_min (aa (aw ay gl T.z_len PySem.boot_len (aa (yqv 0 vl) ae)) (aa (am b7 (yqv 7 vl) (am aK (am aU (yqv 6 vl) ac) ac)) ae))))
     (ai
      (ax (i:=9) sc_33.nd rfl ll (ak aS (yqv 1 vl) (am aK (am aU (yqv 6 vl) ac) (aw ay gl T.z_len PySem.boot_len (aa (yqv 1 vl) ae)))))
     (aj
      (aF (bU (cj (ar aT (yqv 3 vl) ac (aA _)) (cB (ar iI (am aK (ak aS (yqv 0 vl) (am cI (yqv 5 vl) ac)) ac) ac (aA _)))))
       (aj
        (bB (cx PySem.F.plainAttrs_list PySem.F.slot_list_append PySem.F.type_list_append bj (yqv 4 vl) (aa (ap T.d_32 G_32 hr.m (aa (yqv 6 vl) (aa (yqv 1 vl) (aa (yqv 2 vl) ae))) gl) ae))))
       (aj
        (aF (ar aT (am aK (ak aS (yqv 0 vl) (am cI (yqv 5 vl) ac)) ac) ac (aA _))
         (ai
          (ax (i:=10) sc_33.nd rfl ll (ap T.d_33 G_33 hr.m (aa (bq cF (yqv 0 vl) (bh (yqv 5 vl)) (bh (yqv 7 vl))) (aa (yqv 1 vl) (aa (yqv 2 vl) (aa (am cI (yqv 3 vl) ac) ae)))) gl))
         (ai
          (bB (cx PySem.F.plainAttrs_list PySem.F.slot_list_append PySem.F.type_list_append bj (yqv 4 vl) (aa (aN (aa aE (aa (yqv 9 vl) (aa (yqv 10 vl) (aa (ap T.d_33 G_33 hr.m (aa (bq cF (yqv 0 vl) (bh (yqv 7 vl)) (bh (yqv 8 vl))) (aa (yqv 1 vl) (aa (yqv 2 vl) (aa (am cI (yqv 3 vl) ac) ae)))) gl) ae))))) ae)))
         (aj
          (ax (i:=5) sc_33.nd rfl ll (yqv 8 vl)))))
         (ai
          (ax (i:=10) sc_33.nd rfl ll (ap T.d_33 G_33 hr.m (aa (bq cF (yqv 0 vl) (bh (yqv 5 vl)) (bh (yqv 7 vl))) (aa (yqv 1 vl) (aa (yqv 2 vl) (aa (am cI (yqv 3 vl) ac) ae)))) gl))
         (ai
          (aF (ar iI (am aK (am aU (yqv 6 vl) ac) ac) ac (aA _))
           (aj
            (bB (cx PySem.F.plainAttrs_list PySem.F.slot_list_append PySem.F.type_list_append bj (yqv 10 vl) (aa (aN (aa aE (aa (yqv 9 vl) (aa (yqv 9 vl) (aa ac ae))))) ae))))
           aB)
         (ai
          (bB (cx PySem.F.plainAttrs_list PySem.F.slot_list_append PySem.F.type_list_append bj (yqv 4 vl) (aa (aN (aa aE (aa (yqv 9 vl) (aa (yqv 10 vl) ae)))) ae)))
         (aj
          (ax (i:=5) sc_33.nd rfl ll (yqv 7 vl))))))))))))))))
   (aj
    (aq (yqv 4 vl))))))),?_⟩
 rw [show aM _ [V.ref a,V.ref b,V.int top,V.int e]=[some (.ref a),some (.ref b),some (.int top),some (.int e),none,none,none,none,none,none,none] from rfl];simp_arith! [];intro k hk;have t1:=Same.upd (o:=.lst []) hk;refine later ?_;simp_arith! [];refine later ?_;simp_arith! [];refine ⟨fun m σ H'=>∃(i:Nat)(o6 o7 o8 o9 o10:Option V),m=xs.length-i/\i<=xs.length/\StI K H ns wd e k i H'/\σ=[some (.ref a),some (.ref b),some (.int top),some (.int e),some (.ref k),some (.int i),o6,o7,o8,o9,o10],
  ⟨_,0,_,_,_,_,_,rfl,cc _,⟨t1,[],[],[],af,.nil,by simp,by simp,trivial,cc _,cc _⟩,rfl⟩,?_⟩
 rintro m σ H1 ⟨i,o6,o7,o8,o9,o10,rfl,hi,hI,rfl⟩;have s1:=hI.1;simp_arith! [];refine ⟨_,.inl (s1.seq ha),aH (fun h1=>?_) (fun h1=>?_)⟩
 ·rw [zq1] at h1;refine ⟨fun σ' H'=>∃(j:Nat)(o6 o7 o8 o9 o10:Option V),i<j/\j<=xs.length/\StI K H ns wd e k j H'/\σ'=[some (.ref a),some (.ref b),some (.int top),some (.int e),some (.ref k),some (.int j),o6,o7,o8,o9,o10],?_,?_⟩
  ·rintro σ' H' ⟨j,o6,o7,o8,o9,o10,h2,h3,h4,rfl⟩;exact ⟨xs.length-j,by omega,j,_,_,_,_,_,rfl,h3,h4,rfl⟩
  ·have hx0:(xs.map V.int)[i]?=some (.int xs[i]):=by rw [bM,zq4 (by omega)];rfl
   refine ⟨_,_,s1.seq ha,ba hx0,?_⟩;simp_arith! [];have hN1:=hN.same s1;obtain ⟨nm,hnm,hne⟩:=m6 (ns:=ns) (x:=xs[i] / 16 / 1024) hN.pos;obtain ⟨ct,hct,c1,c2⟩:∃ct:Nat,(if (i:Int)+1+xs[i] / 16 / 16 % 5<(xs.length:Int) then (i:Int)+1+xs[i] / 16 / 16 % 5 else (xs.length:Int))=(ct:Int)/\i+1<=ct/\ct<=xs.length:=by
    have h0:0<=xs[i] / 16 / 16 % 5:=fc _ (by decide)
    split
    ·exact ⟨((i:Int)+1+xs[i] / 16 / 16 % 5).toNat,by omega,by omega,by omega⟩
    ·exact ⟨xs.length,rfl,by omega,by omega⟩
   obtain ⟨en,hen,e1,e2⟩:∃en:Nat,(if (ct:Int)+xs[i] / 16 / 128 % 4<(xs.length:Int) then (ct:Int)+xs[i] / 16 / 128 % 4 else (xs.length:Int))=(en:Int)/\ct<=en/\en<=xs.length:=by
    have h0:0<=xs[i] / 16 / 128 % 4:=fc _ (by decide)
    split
    ·exact ⟨((ct:Int)+xs[i] / 16 / 128 % 4).toNat,by omega,by omega,by omega⟩
    ·exact ⟨xs.length,rfl,by omega,by omega⟩
   refine ⟨CDivB.small (by decide) (by decide),later ?_⟩;simp_arith! [];refine later ?_;simp_arith! [];refine ⟨_,.inl (s1.seq ha),CDivB.small (by decide) (by decide),?_⟩;rw [zq1,hct];refine later ?_;simp_arith! [];refine ⟨_,.inl (s1.seq ha),CDivB.small (by decide) (by decide),?_⟩;rw [zq1,hen];refine later ?_;simp_arith! [];refine ⟨CDivB.small (by decide) (by decide),_,.inl hN1.at_,by rw [zq1];have:=hN.pos;omega,_,_,hN1.at_,hne,?_⟩;refine later ?_;simp_arith! [fS,mf];have ei1:(i:Int)+1=((i+1:Nat):Int):=by omega
   have deedC:tyV K "list" (V.ref k) H1/\jh K (xs[i] / 16) b top H1 fun x H1=>∃xs_2,H1 k=some (HO.lst xs_2)/\xs_2.length<sizeLine/\∃(j:Nat)(o6 o7 o8 o9 o10_1:Option V),i<j/\j<=xs.length/\StI K H ns wd e k j (upd H1 k (HO.lst (xs_2++[x])))/\
     [some (V.ref a),some (V.ref b),some (V.int top),some (V.int ↑e),some (V.ref k),some (V.int ((i:Int)+1)),some (V.int (xs[i] / 16)),some (V.int ct),some (V.int en),some (V.str nm),o10]=[some (V.ref a),some (V.ref b),some (V.int top),some (V.int ↑e),some (V.ref k),some (V.int ↑j),o6,o7,o8,o9,o10_1]:=by
    obtain ⟨_,ys0,_,_,ek,_⟩:=id hI;refine ⟨.inl ⟨rfl,_,SqL.of ek⟩,ns,wd,htop,hN1,fun d q0 H2 s2 hq hf hgd=>?_⟩;obtain ⟨ys,e5,l5,hI2⟩:=hI.add (j:=i+1) hk s2 (.deed hf (SqT.of hq)) (by simp) hgd (cc _) (by rw [Stm.many];omega) (by omega);exact ⟨ys,e5,l5,i+1,_,_,_,_,_,by omega,by omega,hI2,by rw [ei1]⟩
   refine aH (fun he0=>?_) (fun he0=>?_)
   ·rw [if_pos trivial];exact deedC
   have hx1:atI (xs.map V.int) ((i:Int)+1-1)=some (.int xs[i]):=by rw [show (i:Int)+1-1=(i:Int) by omega];exact ba hx0
   refine ⟨_,_,s1.seq ha,hx1,?_⟩;simp_arith [fS,mf];obtain ⟨e',rfl⟩:∃e',e=e'+1:=⟨e-1,by omega⟩
   refine aH (fun _=>deedC) (fun h5=>⟨_,_,s1.seq ha,hx1,?_⟩);clear deedC;simp_arith [fS,mf];have ec1:dU (xs.map V.int) (some ((i:Int)+1)) (some (ct:Int))=((xs.take ct).drop (i+1)).map V.int:=by rw [nD (by omega) (by omega),dF,show ((i:Int)+1).toNat=i+1 by omega,yH,mK]
   have ec2:dU (xs.map V.int) (some (ct:Int)) (some (en:Int))=((xs.take en).drop ct).map V.int:=by rw [nD (by omega) (by omega),dF,dF,yH,mK]
   have lc1:((xs.take ct).drop (i+1)).length=ct-(i+1):=by rw [yS,d9];omega
   have lc2:((xs.take en).drop ct).length=en-ct:=by rw [yS,d9];omega
   obtain ⟨_,ys0,_,_,ek,_⟩:=id hI;refine aH (fun _=>⟨_,s1.seq ha,fun p hp=>?_⟩) (fun _=>⟨_,s1.seq ha,fun p hp=>?_⟩)
   ·rw [ec1];have t2:=Same.upd (o:=.lst (((xs.take ct).drop (i+1)).map V.int)) hp;refine ⟨ns,wd,_,e',htop,hN1.same t2,by omega,by omega,SqL.of af,by omega,fun p1 ys1 ss1 g1 H2 s2 f1 n1 ep1 v1 gd1 d1 m1=>?_⟩;have s12:=t2.trans s2;refine later ?_;simp_arith! [fS];refine ⟨.inl ⟨rfl,_,SqL.of (s12 _ _ ek)⟩,_,(s1.trans s12).seq ha,fun p' hp'=>?_⟩;rw [ec2];have t3:=Same.upd (o:=.lst (((xs.take en).drop ct).map V.int)) hp';have s13:=s12.trans t3;refine ⟨ns,wd,_,e',htop,hN1.same s13,by omega,by omega,SqL.of af,by omega,fun p2 ys2 ss2 g2 H3 s3 f2 n2 ep2 v2 gd2 d2 m2 pq hpq=>?_⟩;have t4:=Same.upd (o:=.tup [V.str "if",V.str nm,V.ref p1,V.ref p2]) hpq;have hfr:∀c∈p1::p2::(g1++g2),H1 c=none:=fun c hc=>by
     rcases zq6.mp hc with z | hc
     ·rw [z];exact t2.free (f1 p1 (by simp))
     rcases zq6.mp hc with z | hc
     ·rw [z];exact s13.free (f2 p2 (by simp))
     rcases zq16.mp hc with z | z
     ·exact t2.free (f1 c (zq5 _ z))
     ·exact s13.free (f2 c (zq5 _ z))
    obtain ⟨ys,e5,l5,hI2⟩:=hI.add (j:=en) hk ((s13.trans s3).trans t4) (.ifs (SqT.of af) (t4 _ _ (s3 _ _ (t3 _ _ ep1))) (t4 _ _ ep2) (((v1.same t3).same s3).same t4) (v2.same t4)) hfr ⟨hnm,gd1,gd2⟩ (by rw [Stm.deep];omega) (by rw [Stm.many];omega) (by omega);refine ⟨ys,e5,l5,later ?_⟩;simp_arith! [];exact ⟨en,_,_,_,_,_,by omega,by omega,hI2,rfl⟩
   ·rw [ec1];have t2:=Same.upd (o:=.lst (((xs.take ct).drop (i+1)).map V.int)) hp;refine ⟨ns,wd,_,e',htop,hN1.same t2,by omega,by omega,SqL.of af,by omega,fun p1 ys1 ss1 g1 H2 s2 f1 n1 ep1 v1 gd1 d1 m1=>?_⟩;refine later ?_;simp_arith! [];refine ⟨CDivB.small (by decide) (by decide),?_⟩;have s12:=t2.trans s2;have hfr:∀c∈p1::g1,H1 c=none:=fun c hc=>t2.free (f1 c hc);have np1:p1≠k:=fun z=>by have:=hfr p1 (by simp);rw [z,ek] at this;cases this
    refine aH (fun _=>⟨.inl ⟨rfl,_,SqL.of ep1⟩,fun pd hpd=>?_⟩) (fun _=>?_)
    ·have t3:=Same.upd (o:=.tup [V.str "less",V.str nm,V.str nm,V.int 1]) hpd;have lv1:=v1.length;have lm1:=jx ss1;refine ⟨ys1,t3 _ _ ep1,by rw [sizeLine_eq];omega,?_⟩;have tt:TSame _ (upd (upd H2 pd (.tup [V.str "less",V.str nm,V.str nm,V.int 1])) p1 (.lst (ys1++[V.ref pd]))):=TSame.updL (t3 _ _ ep1);have s14:Same H1 (upd (upd H2 pd (.tup [V.str "less",V.str nm,V.str nm,V.int 1])) p1 (.lst (ys1++[V.ref pd]))):=(s12.trans t3).updM (hfr p1 (by simp));have dgood:Deed.good ns wd (.op "less" nm (.box nm) (.word 1)):=⟨by decide +kernel,hnm,hnm,by decide,by
      have hw:=hN.w1;obtain ⟨m,hm⟩:∃m,wd.toNat=m+1:=⟨wd.toNat-1,by omega⟩
      have hp2:(0:Int)<2 ^ m:=qU (by decide);rw [hm,Int.pow_succ];omega⟩
     have v2:StmsV K (upd (upd H2 pd (.tup [V.str "less",V.str nm,V.str nm,V.int 1])) p1 (.lst (ys1++[V.ref pd]))) (ys1++[V.ref pd]) (ss1++[.deed (.op "less" nm (.box nm) (.word 1))]) (g1++[]):=
      ((v1.same t3).keep tt (Kept.upd n1)).snoc (.deed (show FB.Deed.fine (.op "less" nm (.box nm) (.word 1)) from dgood.1) (tt.seqT (SqT.of af)))
     refine later ?_;simp_arith! [];refine ⟨.inl ⟨rfl,_,SqL.of (s14 _ _ ek)⟩,fun pq hpq=>?_⟩;have t4:=Same.upd (o:=.tup [V.str "while",V.str nm,V.ref p1]) hpq;obtain ⟨ys,e5,l5,hI2⟩:=hI.add (j:=ct) hk (s14.trans t4) (.whl (SqT.of af) (t4 _ _ af) (v2.same t4)) (by rw [gH];exact hfr) ⟨hnm,goodL_append.mpr ⟨gd1,dgood,trivial⟩⟩ (by rw [Stm.deep,gR,bY,bY,Stm.deep];omega) (by rw [Stm.many,eT,bc,bc,Stm.many];omega) (by omega);refine ⟨ys,e5,l5,later ?_⟩;simp_arith! [];exact ⟨ct,_,_,_,_,_,by omega,by omega,hI2,rfl⟩
    ·refine later ?_;simp_arith! [];refine ⟨.inl ⟨rfl,_,SqL.of (s12 _ _ ek)⟩,fun pq hpq=>?_⟩;have t4:=Same.upd (o:=.tup [V.str "while",V.str nm,V.ref p1]) hpq;obtain ⟨ys,e5,l5,hI2⟩:=hI.add (j:=ct) hk (s12.trans t4) (.whl (SqT.of af) (t4 _ _ ep1) (v1.same t4)) hfr ⟨hnm,gd1⟩ (by rw [Stm.deep];omega) (by rw [Stm.many];omega) (by omega);refine ⟨ys,e5,l5,later ?_⟩;simp_arith! [];exact ⟨ct,_,_,_,_,_,by omega,by omega,hI2,rfl⟩
 ·rw [zq1] at h1;obtain ⟨_,ys,ss,g,ek,hy,ng,fg,gd,dd,my⟩:=hI;have ei:i=xs.length:=by omega
  subst ei;refine later ?_;simp_arith! [];exact q k ys ss g H1 s1 (fun c hc=>by
   rcases zq6.mp hc with z | z
   ·rw [z];exact hk
   ·exact fg c z) ng ek hy gd dd my
theorem ox(T:Txt K mg t):∀D,FnOk P w K mg base CX0 (D+3) t.f_33 t.e_33 ["_law_numbers","_law_names_here","_law_top","_law_deep"] (i6 K D)
 |0=>⟨fun vs H Q E h=>by obtain ⟨_,_,_,_,_,_,_,_,_,_,_,_,h,_⟩:=h;omega,fun _ _ _ _ _ _ _ _ _ _ _ _ _ h=>by obtain ⟨_,_,_,_,_,_,_,_,_,_,_,_,h,_⟩:=h;omega⟩
 |D+1=>qD T D (ox T D)
noncomputable def mW(K:W.Frag)(a:Addr)(st:Int)(m:Int)(H:Hp)(Q:VK):Prop:=∃(ns:List Int)(many:Nat),m=(many:Int)/\0<many/\many<=100/\0<=st/\st<=10/\SqL K H a (ns.map V.int)/\(∀z∈ns,Builtin.Int.intBits z<=2 ^ 20)/\∀p (fs:List Int) H',Same H H'->H p=none->H' p=some (.lst (fs.map V.int))->fs.length=many->Q (.ref p) H'
noncomputable def oT(K:W.Frag):Sp:=fun vs H Q _=>∃(a:Addr)(st m:Int),vs=[.ref a,.int st,.int m]/\mW K a st m H Q
theorem A2{a:Addr}{st m:Int}{H:Hp}{Q:VK}{E:XK}:oT K [.ref a,.int st,.int m] H Q E=mW K a st m H Q:=propext ⟨by rintro ⟨_,_,_,e,q⟩;cases e;exact q,fun q=>⟨_,_,_,rfl,q⟩⟩
theorem wq(T:Txt K mg t):FnOk P w K mg base CX0 2 t.f_34 t.e_34 ["_law_script","_law_start","_law_many"] (oT K):=by
 have G_29:=@gZ P w K mg base t T;refine T.d_34.F.ok sc_34 ∅ ?_;rintro cdv A outer s H vs Q E hr ⟨a,st,m,rfl,ns,many,rfl,m0,m1,st0,st1,ha,hb,q⟩;refine ⟨_,
   (XSs.h
   (ai
    (cQ (i:=4) sc_34.nd rfl ll rfl (by kernel_rfl) (tns:=["_law_k"]) (cns:=[]) (ci:=[]) rfl (CompSc.of (by kernel_rfl)) (bV gl T.z_range (aa (yqv 2 vl) ae)) (fun _=>(aC (i:=1) (show List.Nodup [(".0":Str),("_law_k":Str)] by decide +kernel) rfl ll (Or.inr (by kernel_rfl)))) (fun _=>cr) (fun _=>(am b7 (am cu (am cu (yqv 1 vl) (yqv 1 vl)) ac) ac)))
   (ai
    (ax (i:=5) sc_34.nd rfl ll (bq cF (yqv 0 vl) c7 (bh ac)))
   (ai
    (bF PassesOwn.never rfl (qP gl T.z_range (aa (yqv 1 vl) (aa (aw ay gl T.z_len PySem.boot_len (aa (yqv 5 vl) ae)) ae))) (aC (i:=3) sc_34.nd rfl ll)
     (ai
      (ax (i:=6) sc_34.nd rfl ll (am aK (yqv 3 vl) (yqv 2 vl)))
     (ai
      (ax (i:=7) sc_34.nd rfl ll (am b7 (am b7 (am cu (ak aS (yqv 4 vl) (yqv 6 vl)) ac) (am cu (ap T.d_29 G_29 hr.m (aa (ak aS (yqv 5 vl) (yqv 3 vl)) (aa (yqv 3 vl) ae)) gl) ac)) (ap T.d_29 G_29 hr.m (aa (ak aS (yqv 5 vl) (yqv 3 vl)) (aa (am b7 (yqv 3 vl) ac) ae)) gl)))
     (aj
      (g6 (am aK (yqv 7 vl) ac) (mD (yqv 4 vl) (yqv 6 vl) jP))))))
   (aj
    (aq (yqv 4 vl))))))),?_⟩
 rw [show aM _ [V.ref a,V.int st,V.int many]=[some (.ref a),some (.int st),some (.int many),none,none,none,none,none] from rfl];simp_arith [du];refine ⟨by omega,by omega,fun acc hacc bk=>?_⟩;rw [dF];refine jp (fun _=>true) (fun k:Nat=>V.int ((k:Int) * k * 7919+5)) (by rw [sizeLine_eq];omega) hacc (fun i _ H1 Q' _ h=>h H1 (Same.refl _)) (fun i hi H1 Q' s1 _ h=>?_) (fun H1 s1 h1=>?_)
 ·simp_arith [];exact ⟨.inl ⟨by omega,by omega⟩,.inr ⟨by decide,by decide⟩,h H1 (Same.refl _)⟩
 obtain ⟨fs0,hfs0,lf0⟩:∃fs0:List Int,((List.range many).filter fun _=>true).map (fun k:Nat=>V.int ((k:Int) * k * 7919+5))=fs0.map V.int/\fs0.length=many:=by refine ⟨(List.range many).map fun k:Nat=>(k:Int) * k * 7919+5,?_,by simp⟩;rw [fj,List.filter_eq_self.mpr (fun _ _=>rfl)];rfl
 rw [hfs0] at h1;refine ⟨_,s1.seq ha,fun ps hps=>?_⟩;rw [eP (by decide),<- mK];have t2:=Same.upd (o:=.lst ((ns.take (Int.toNat 63)).map V.int)) hps;have hbt:∀z∈ns.take (Int.toNat 63),Builtin.Int.intBits z<=2 ^ 20:=fun z hz=>hb z (tw hz);have lt:(ns.take (Int.toNat 63)).length<=63:=by rw [d9];exact Nat.min_le_left ..
 generalize ns.take (Int.toNat 63)=cs at t2 hbt lt ⊢;have hpa:ps≠acc:=fun z=>by rw [z,h1] at hps;cases hps
 have hps2:upd H1 ps (.lst (cs.map V.int)) ps=some (.lst (cs.map V.int)):=af;generalize upd H1 ps (.lst (cs.map V.int))=H2 at t2 hps2 ⊢;refine ⟨_,.inl (SqL.of hps2),⟨by omega,by omega,by omega,by rw [zq1];omega⟩,?_⟩;rw [zq1];refine nU (fun i σ H'=>Same H H'/\H' ps=some (.lst (cs.map V.int))/\∃(fs:List Int)(o3 o6 o7:Option V),H' acc=some (.lst (fs.map V.int))/\fs.length=many/\σ=[some (.ref a),some (.int st),some (.int many),o3,some (.ref acc),some (.ref ps),o6,o7])
  ⟨s1.trans t2,hps2,fs0,_,_,_,t2 _ _ h1,lf0,rfl⟩ ?_ ?_
 ·rintro i σ H3 hi ⟨s3,hp3,fs,o3,o6,o7,hf3,lf,rfl⟩;simp_arith [du];have hsi:∃j:Nat,st+(i:Int)=(j:Int)/\j<cs.length:=⟨(st+i).toNat,by omega,by omega⟩
  obtain ⟨j,hj,hjl⟩:=hsi;rw [hj];obtain ⟨mm,hmm,hml⟩:∃mm:Nat,(j:Int) % (many:Int)=(mm:Int)/\mm<many:=⟨j % many,by omega,Nat.mod_lt _ m0⟩
  rw [hmm];have hcj:(cs.map V.int)[j]?=some (.int cs[j]):=by rw [bM,zq4 hjl];rfl
  have hfm:(fs.map V.int)[mm]?=some (.int fs[mm]):=by rw [bM,zq4 (by omega)];rfl
  refine ⟨by omega,_,_,SqL.of hf3,ba hfm,?_⟩;simp_arith [du];refine ⟨.inr ⟨by decide,by decide⟩,_,_,SqL.of hp3,ba hcj,?_⟩;simp_arith [du];refine ⟨hbt _ (ko hjl),by omega,by omega,.inr ⟨by decide,by decide⟩,_,_,SqL.of hp3,ba hcj,?_⟩;simp_arith [du];refine ⟨hbt _ (ko hjl),by omega,by omega,acc,_,_,mm,rfl,rfl,hf3,FL.lY (by rw [zq1];omega),s3.updM hacc,?_,?_⟩
  ·rw [av hpa];exact hp3
  ·refine ⟨fs.set mm _,_,_,_,by rw [af,List.map_set],by rw [pM];exact lf,rfl⟩
 ·rintro σ H3 ⟨s3,hp3,fs,o3,o6,o7,hf3,lf,rfl⟩;simp_arith [];exact q acc fs H3 s3 hacc hf3 lf
structure DrV(K:W.Frag)(H H':Hp)(q:Addr)(wd:Int)(ins oth:List Str)(ss:List Stm)(pi po pr:Addr)(xs:List V)(g:List Addr)(many:Nat):Prop where
 tup:H' q=some (.tup [.int wd,.ref pi,.ref po,.ref pr])
 ia:H' pi=some (.lst (ins.map V.str))
 oa:H' po=some (.lst (oth.map V.str))
 ra:H' pr=some (.lst xs)
 st:StmsV K H' xs ss g
 gd:bO (ins++oth) wd ss
 dp:bY ss<=3
 mn:bc ss<=2 * many
 w1:1<=wd
 w8:wd<=8
 pos:0<(ins++oth).length
 few:(ins++oth).length<=8
 fr:∀c∈pr::g,H c=none
 nf:pr∉g
noncomputable def mU(K:W.Frag)(a:Addr)(m:Int)(H:Hp)(Q:VK):Prop:=∃(ns:List Int)(many:Nat),m=(many:Int)/\0<many/\many<=100/\SqL K H a (ns.map V.int)/\(∀z∈ns,Builtin.Int.intBits z<=2 ^ 20)/\
 ∀q wd ins oth ss pi po pr xs g H',Same H H'->DrV K H H' q wd ins oth ss pi po pr xs g many->Q (.ref q) H'
noncomputable def oR(K:W.Frag):Sp:=fun vs H Q _=>∃(a:Addr)(m:Int),vs=[.ref a,.int m]/\mU K a m H Q
theorem A0{a:Addr}{m:Int}{H:Hp}{Q:VK}{E:XK}:oR K [.ref a,.int m] H Q E=mU K a m H Q:=propext ⟨by rintro ⟨_,_,e,q⟩;cases e;exact q,fun q=>⟨_,_,rfl,q⟩⟩
theorem wm(T:Txt K mg t):FnOk P w K mg base CX0 8 t.f_35 t.e_35 ["_law_script","_law_many"] (oR K):=by
 have G_29:=@gZ P w K mg base t T;have G_28:=@AS P w K mg base t T;have G_30:=@wA P w K mg base t T;have G_34:=@wq P w K mg base t T;have G_33:=@ox P w K mg base t T 4;refine T.d_35.F.ok sc_35 ∅ ?_;rintro cdv A outer s H vs Q E hr ⟨a,m,rfl,ns,many,rfl,m0,m1,ha,hb,q⟩;refine ⟨_,
   (XSs.h
   (ai
    (ax (i:=2) sc_35.nd rfl ll (ap T.d_29 G_29 hr.m (aa (ap T.d_28 G_28 hr.m (aa (yqv 0 vl) (aa ac ae)) gl) (aa ac ae)) gl))
   (ai
    (ax (i:=3) sc_35.nd rfl ll (am b7 ac (am aK (yqv 2 vl) ac)))
   (ai
    (ax (i:=4) sc_35.nd rfl ll (ap T.d_30 G_30 hr.m (aa (am aU (yqv 2 vl) ac) (aa (am b7 ac (am aK (am aU (yqv 2 vl) ac) ac)) ae)) gl))
   (ai
    (ax (i:=5) sc_35.nd rfl ll (bq cF (yqv 4 vl) c7 (bh (am aK (am aU (yqv 2 vl) ac) ac))))
   (ai
    (ax (i:=6) sc_35.nd rfl ll (ap T.d_34 G_34 hr.m (aa (yqv 0 vl) (aa ac (aa (yqv 1 vl) ae))) gl))
   (ai
    (ax (i:=7) sc_35.nd rfl ll (ap T.d_33 G_33 hr.m (aa (bq cF (yqv 6 vl) c7 (bh (am aK (ap T.d_28 G_28 hr.m (aa (yqv 0 vl) (aa ac ae)) gl) (am b7 (yqv 1 vl) ac)))) (aa (yqv 4 vl) (aa (am f7 ac (yqv 3 vl)) (aa ac ae)))) gl))
   (aj
    (aq (aN (aa (yqv 3 vl) (aa (yqv 5 vl) (aa (bq cF (yqv 4 vl) (bh (aw ay gl T.z_len PySem.boot_len (aa (yqv 5 vl) ae))) c7) (aa (yqv 7 vl) ae)))))))))))))),?_⟩
 rw [show aM _ [V.ref a,V.int many]=[some (.ref a),some (.int many),none,none,none,none,none,none] from rfl];simp_arith [du,zU,Ab,A2,fS];have hn0:=oj (atF ns 0) 1;have hbb:Builtin.Int.intBits (atF ns 0)<=2 ^ 20:=jg hb;refine ⟨ns,ha,by decide,hbb,by decide,by decide,?_⟩;generalize gi (atF ns 0) 1=nb at hn0 ⊢;have w0:0<=nb % 8:=fc _ (by decide);have w7:nb % 8<8:=iK _ (by decide);have u0:0<=nb / 64 % 8:=fc _ (by decide);have u7:nb / 64 % 8<8:=iK _ (by decide);have k0:0<=nb / 1024 % 5:=fc _ (by decide);refine ⟨CDivB.small (by decide) (by decide),CDivB.small (by decide) (by decide),Int.ediv_nonneg hn0 (by decide),by omega,by omega,fun pn H1 s1 hpn en=>⟨CDivB.small (by decide) (by decide),?_⟩⟩;have lnm:(gD (nb / 8) (1+nb / 64 % 8).toNat).length=(1+nb / 64 % 8).toNat:=ki (by omega);generalize gD (nb / 8) (1+nb / 64 % 8).toNat=nms at en lnm;refine ⟨_,SqL.of en,fun pi hpi=>?_⟩;rw [eP k0,<- mK];generalize hki:nms.take (nb / 1024 % 5).toNat=ins;have ti:=Same.upd (o:=.lst (ins.map V.str)) hpi;have s1i:=s1.trans ti;refine ⟨ns,many,rfl,m0,m1,by decide,by decide,s1i.seq ha,hb,fun pf fs H2 s2 hpf ef lf=>?_⟩;have s12:=s1i.trans s2;refine ⟨ns,s12.seq ha,by decide,by omega,?_⟩;simp_arith [fS];refine ⟨_,SqL.of ef,fun pc hpc=>?_⟩;have c0:0<=atF ns 1 % ((many:Int)+1):=fc _ (by omega);rw [eP c0,<- mK];have tc:=Same.upd (o:=.lst ((fs.take (atF ns 1 % ((many:Int)+1)).toNat).map V.int)) hpc;have lc:(fs.take (atF ns 1 % ((many:Int)+1)).toNat).length<=many:=by rw [d9,lf];exact AF ..
 generalize fs.take (atF ns 1 % ((many:Int)+1)).toNat=cs at tc lc ⊢;have s1c:=s12.trans tc;have en3:=(ti.trans (s2.trans tc)) _ _ en;refine ⟨⟨by omega,by omega,by decide⟩,?_⟩;refine ⟨nms,1+nb % 8,cs,3,rfl,⟨SqL.of en3,by omega,by omega,by omega,by omega⟩,rfl,by decide,SqL.of af,by omega,fun pr xs ss g H3 s3 fr nf er v3 gd dp my=>?_⟩;have s13:=s1c.trans s3;have ei3:=s3 _ _ (tc _ _ (s2 _ _ (show upd H1 pi (.lst (ins.map V.str)) pi=some (.lst (ins.map V.str)) from af)));refine ⟨_,.inl (SqL.of ei3),_,SqL.of (s3 _ _ en3),fun po hpo q0 hq0=>?_⟩;have eo:dU (nms.map V.str) (some (((ins.map V.str).length:Nat):Int)) none=(nms.drop ins.length).map V.str:=by rw [il (by omega),dF,zq1,yH]
 rw [eo] at hq0 ⊢;have to_:=Same.upd (o:=.lst ((nms.drop ins.length).map V.str)) hpo;have tq:=Same.upd (o:=.tup [V.int (1+nb % 8),V.ref pi,V.ref po,V.ref pr]) hq0;have sall:ins++nms.drop ins.length=nms:=by
  rw [<- hki,d9]
  by_cases h:(nb / 1024 % 5).toNat<=nms.length
  ·rw [qV h,tD]
  ·rw [yV (by omega),k8 (by omega),yY,gH]
 refine q q0 (1+nb % 8) ins (nms.drop ins.length) ss pi po pr xs g _ ((s13.trans to_).trans tq) ⟨af,tq _ _ (to_ _ _ ei3),tq _ _ af,tq _ _ (to_ _ _ er),(v3.same to_).same tq,by rw [sall];exact gd,dp,by omega,by omega,by omega,by rw [sall];omega,by rw [sall];omega,fun c hc=>s1c.free (fr c hc),nf⟩
noncomputable def fV(K:W.Frag)(d:Nat):Sp:=fun vs H Q _=>∃(a:Addr)(xs:List V)(ss:List Stm)(f:List Addr),vs=[.ref a]/\H a=some (.lst xs)/\StmsV K H xs ss f/\bY ss<d/\bc ss<=1000/\
 ∀p ys g H',Same H H'->H' p=some (.lst ys)->StmsV K H' ys ss g->(p::g).Nodup->(∀c∈p::g,H c=none)->Q (.ref p) H'
noncomputable def i4(K:W.Frag)(d:Nat):Sp:=fun vs H Q _=>∃(x:V)(s:Stm)(f:List Addr),vs=[x]/\StmV K H x s f/\s.deep<d/\s.many<=1000/\
 ∀y g H',Same H H'->StmV K H' y s g->g.Nodup->(∀c∈g,H c=none)->Q y H'
theorem xc{d:Nat}{x:V}{H:Hp}{Q:VK}{E:XK}:i4 K d [x] H Q E=∃(s:Stm)(f:List Addr),StmV K H x s f/\s.deep<d/\s.many<=1000/\∀y g H',Same H H'->StmV K H' y s g->g.Nodup->(∀c∈g,H c=none)->Q y H':=
 propext ⟨by rintro ⟨_,s,f,e,q⟩;cases e;exact ⟨s,f,q⟩,by rintro ⟨s,f,q⟩;exact ⟨x,s,f,rfl,q⟩⟩
theorem c5{d:Nat}{a:Addr}{H:Hp}{Q:VK}{E:XK}:fV K d [.ref a] H Q E=∃(xs:List V)(ss:List Stm)(f:List Addr),H a=some (.lst xs)/\StmsV K H xs ss f/\bY ss<d/\bc ss<=1000/\
 ∀p ys g H',Same H H'->H' p=some (.lst ys)->StmsV K H' ys ss g->(p::g).Nodup->(∀c∈p::g,H c=none)->Q (.ref p) H':=
 propext ⟨by rintro ⟨_,xs,ss,f,e,q⟩;cases e;exact ⟨xs,ss,f,q⟩,by rintro ⟨xs,ss,f,q⟩;exact ⟨a,xs,ss,f,rfl,q⟩⟩
theorem iM(T:Txt K mg t)(d:Nat)(G_11:FnOk P w K mg base CX0 (2 * d+1) t.f_11 t.e_11 ["row"] (i4 K d)):FnOk P w K mg base CX0 (2 * d+2) t.f_10 t.e_10 ["rows"] (fV K d):=by
 refine T.d_10.F.ok Fd ∅ ?_;rintro cdv A outer s H vs Q E hr ⟨a,xs,ss,f,rfl,ha,hx,hd,hl,q⟩;refine ⟨_,
   (XSs.h
   (aj
    (aq (bu (tns:=["row"]) (cns:=[]) (ci:=[]) rfl (CompSc.of (by kernel_rfl)) (aZ (yqv 0 vl)) (fun _=>(aC (i:=1) (show List.Nodup [(".0":Str),("row":Str)] by decide +kernel) rfl ll (Or.inr (by kernel_rfl)))) (fun _=>cr) (fun _=>(ap T.d_11 G_11 hr.m (aa (yqv 1 vl) ae) gl)))))),?_⟩
 rw [show aM _ [V.ref a]=[some (.ref a)] from rfl];simp_arith [xc];refine ⟨⟨_,SqL.of ha⟩,fun acc hacc bk=>?_⟩;have lx:=hx.length;have lm:=jx ss;refine dh (xs:=xs) (fun i ys H'=>Same H H'/\H' acc=some (.lst ys)/\ys.length=i/\∃g,StmsV K H' ys (ss.take i) g/\(acc::g).Nodup/\∀c∈acc::g,H c=none) ?_ ?_ ?_ ?_
 ·exact ⟨Same.upd hacc,af,rfl,[],.nil,by simp,fun c hc=>by rw [zq2.mp hc];exact hacc⟩
 ·intro i ys H' _ h;exact SqL.of (h.1 _ _ ha)
 ·rintro i x ys H' os hxi ho ⟨sm,hacc2,ly,g,hg,nd,fr⟩
  match os,ho with
  | [o],_=>
   simp_arith [xc];refine ⟨⟨[some x],rfl,rfl⟩,?_⟩;rw [if_pos trivial];obtain ⟨s,f',hs,hsv,_⟩:=hx.get hxi;have hi:i<ss.length:=(zq10.mp hs).1;have hse:ss[i]=s:=(zq10.mp hs).2;have hds:=io (zq8 hs);refine ⟨s,f',hsv.same sm,by omega,by have:=vX (zq8 hs);omega,fun y g2 H2 s2 hy nd2 fr2=>?_⟩;have na:acc∉g:=(zq41.mp nd).1;have na2:acc∉g2:=fun z=>by rw [fr2 acc z] at hacc2;cases hacc2
   have tt:TSame H2 (upd H2 acc (.lst (ys++[y]))):=TSame.updL (s2 _ _ hacc2);refine ⟨s2 _ _ hacc2,by rw [sizeLine_eq];omega,(sm.trans s2).updM hacc,af,by simp [ly],g++g2,?_,?_,fun c hc=>?_⟩
   ·rw [dG hi,hse];exact ((hg.same s2).keep tt (Kept.upd na)).snoc (hy.keep tt (Kept.upd na2))
   ·refine zq41.mpr ⟨fun z=>(zq16.mp z).elim na na2,kM (zq41.mp nd).2 nd2 fun c h1 h2=>?_⟩;obtain ⟨zs,hz⟩:=hg.tracked c h1;rw [fr2 c h2] at hz;cases hz
   ·rcases zq6.mp hc with z | z
    ·rw [z];exact hacc
    ·rcases zq16.mp z with z | z
     ·exact fr c (zq5 _ z)
     ·exact sm.free (fr2 c z)
 ·rintro ys H' ⟨sm,hacc2,ly,g,hg,nd,fr⟩;rw [lx,dZ] at hg;exact q acc ys g H' sm hacc2 hg nd fr
theorem tM(T:Txt K mg t)(d:Nat)(G_10:FnOk P w K mg base CX0 (2 * d+2) t.f_10 t.e_10 ["rows"] (fV K d)):FnOk P w K mg base CX0 (2 * (d+1)+1) t.f_11 t.e_11 ["row"] (i4 K (d+1)):=by
 refine T.d_11.F.ok Fe ∅ ?_;rintro cdv A outer s H vs Q E hr ⟨x,s,f,rfl,hx,hd,hm,q⟩;refine ⟨_,
   (XSs.h
   (ai
    (aF (ar aT (ak au (yqv 0 vl) ac) aE (aA _))
     (aj
      (aq (aN (aa aE (aa (ak au (yqv 0 vl) ac) (aa (ap T.d_10 G_10 hr.m (aa (ak au (yqv 0 vl) ac) ae) gl) (aa (ap T.d_10 G_10 hr.m (aa (ak au (yqv 0 vl) ac) ae) gl) ae)))))))
     aB)
   (ai
    (aF (ar aT (ak au (yqv 0 vl) ac) aE (aA _))
     (aj
      (aq (aN (aa aE (aa (ak au (yqv 0 vl) ac) (aa (ap T.d_10 G_10 hr.m (aa (ak au (yqv 0 vl) ac) ae) gl) ae))))))
     aB)
   (aj
    (aq (yqv 0 vl)))))),?_⟩
 rw [show aM _ [x]=[some x] from rfl]
 cases hx with
 | @deed q0 dd hf hq=>
  simp_arith [c5];refine nJ hf hq (by decide +kernel) (by decide +kernel) (by decide +kernel) ⟨_,rfl,?_⟩;rw [if_neg zq7];refine nJ hf hq (by decide +kernel) (by decide +kernel) (by decide +kernel) ⟨_,rfl,?_⟩;rw [if_neg zq7];exact q _ [] H (Same.refl H) (.deed hf hq) (by simp) (fun c hc=>by cases hc)
 | @ifs q0 a b n xs ys ones others f g hq ha hb h1 h2=>
  simp only [Stm.deep,Stm.many] at hd hm;simp_arith [c5];refine ⟨_,_,hq,rfl,?_⟩;simp_arith [c5];refine aH (fun _=>⟨_,_,hq,rfl,_,_,hq,rfl,?_⟩) (fun z=>absurd trivial z);simp_arith [c5];refine ⟨xs,ones,f,ha,h1,by omega,by omega,fun p1 zs1 g1 H1 s1 e1 k1 nd1 fr1=>⟨_,_,s1.seqT hq,rfl,?_⟩⟩;simp_arith [c5];refine ⟨ys,others,g,s1 _ _ hb,h2.same s1,by omega,by omega,fun p2 zs2 g2 H2 s2 e2 k2 nd2 fr2 p3 hp3=>?_⟩;have s3:=Same.upd (o:=.tup [V.str "if",V.str n,V.ref p1,V.ref p2]) hp3;have s12:=s1.trans s2;refine q _ (p1::p2::(g1++g2)) _ (s12.trans s3) (.ifs (SqT.of af) (s3 _ _ (s2 _ _ e1)) (s3 _ _ e2) ((k1.same s2).same s3) (k2.same s3)) ?_ (fun c hc=>?_)
  ·have dj:∀c∈p1::g1,c∉p2::g2:=fun c h1 h2=>by
    have ex:∃u,H1 c=some u:=by
     rcases zq6.mp h1 with z | z
     ·exact ⟨_,by rw [z];exact e1⟩
     ·obtain ⟨u,hu⟩:=k1.tracked c z;exact ⟨_,hu⟩
    obtain ⟨u,hu⟩:=ex;rw [fr2 c h2] at hu;cases hu
   have n5:=kM nd1 nd2 dj;refine (List.Perm.nodup_iff ?_).mp n5;rw [pO];exact .cons _ List.perm_middle
  ·rcases zq6.mp hc with z | z
   ·rw [z];exact fr1 p1 (by simp)
   rcases zq6.mp z with z | z
   ·rw [z];exact s1.free (fr2 p2 (by simp))
   rcases zq16.mp z with z | z
   ·exact fr1 c (zq5 _ z)
   ·exact s1.free (fr2 c (zq5 _ z))
 | @whl q0 a n xs rows f hq ha h1=>simp only [Stm.deep,Stm.many] at hd hm;simp_arith [c5];refine ⟨_,_,hq,rfl,?_⟩;simp_arith [c5];refine aH (fun z=>absurd z (by decide +kernel)) (fun _=>⟨_,_,hq,rfl,?_⟩);simp_arith [c5];refine aH (fun _=>⟨_,_,hq,rfl,_,_,hq,rfl,?_⟩) (fun z=>absurd trivial z);simp_arith [c5];refine ⟨xs,rows,f,ha,h1,by omega,by omega,fun p1 zs1 g1 H1 s1 e1 k1 nd1 fr1 p3 hp3=>?_⟩;have s3:=Same.upd (o:=.tup [V.str "while",V.str n,V.ref p1]) hp3;exact q _ (p1::g1) _ (s1.trans s3) (.whl (SqT.of af) (s3 _ _ e1) (k1.same s3)) nd1 fr1
theorem kO(T:Txt K mg t):∀d,FnOk P w K mg base CX0 (2 * d+1) t.f_11 t.e_11 ["row"] (i4 K d)/\FnOk P w K mg base CX0 (2 * d+2) t.f_10 t.e_10 ["rows"] (fV K d)
 |0=>by
  have h0:FnOk P w K mg base CX0 (2 * 0+1) t.f_11 t.e_11 ["row"] (i4 K 0):=⟨fun vs H Q E h=>by obtain ⟨_,_,_,_,_,h,_⟩:=h;omega,fun _ _ _ _ _ _ _ _ _ _ _ _ _ h=>by obtain ⟨_,_,_,_,_,h,_⟩:=h;omega⟩
  exact ⟨h0,iM T 0 h0⟩
 |d+1=>by have h1:=tM T d (kO T d).2;exact ⟨h1,iM T (d+1) h1⟩
noncomputable def rg(K:W.Frag)(C:Addr)(d:Nat)(p:Addr)(a0:Addr)(b0:Addr)(r0:Addr)(wd:Int)(H:Hp)(Q:VK):Prop:=∃(dx:Addr)(ins:List Str)(oth:List Str)(xs:List V)(ss:List Stm)(f:List Addr),H p=some (.ins C dx [])/\
 H a0=some (.lst (ins.map V.str))/\H b0=some (.lst (oth.map V.str))/\H r0=some (.lst xs)/\StmsV K H xs ss f/\bY ss<d/\bc ss<=1000/\ins.length<=1000/\oth.length<=1000/\
 ∀a b r ys g H',SameX p H H'->ProgAt K C H' p wd ins oth ss a b r ys g->(a::b::r::g).Nodup->(∀c∈a::b::r::g,H c=none)->Q .non H'
noncomputable def sJ(K:W.Frag)(C:Addr)(d:Nat):Sp:=fun vs H Q _=>∃(p:Addr)(a0:Addr)(b0:Addr)(r0:Addr)(wd:Int),vs=[.ref p,.int wd,.ref a0,.ref b0,.ref r0]/\rg K C d p a0 b0 r0 wd H Q
theorem zC(T:Txt K mg t)(d:Nat):FnOk P w K mg base CX0 (2 * d+3) t.f_9 t.e_9 ["self","width","ins","boxes","rows"] (sJ K t.C_Program d):=by
 have G_10:=(@kO P w K mg base t T d).2;refine T.d_9.F.ok GB ∅ ?_;rintro cdv A outer s H vs Q E hr ⟨p,a0,b0,r0,wd,rfl,dx,ins,oth,xs,ss,f,hp,ha,hb,hr0,hx,hd,hm,hi,ho,q⟩;refine ⟨_,
   (XSs.h
   (ai
    (dQ (yqv 0 vl) (yqv 1 vl) rfl)
   (ai
    (dQ (yqv 0 vl) (bw dg gl T.z_list boot_list (aa (yqv 2 vl) ae)) rfl)
   (ai
    (dQ (yqv 0 vl) (am gE (bw dg gl T.z_list boot_list (aa (yqv 2 vl) ae)) (bw dg gl T.z_list boot_list (aa (yqv 3 vl) ae))) rfl)
   (aj
    (dQ (yqv 0 vl) (ap T.d_10 G_10 hr.m (aa (yqv 4 vl) ae) gl) rfl)))))),?_⟩
 rw [show aM _ [V.ref p,V.int wd,V.ref a0,V.ref b0,V.ref r0]=[some (.ref p),some (.int wd),some (.ref a0),some (.ref b0),some (.ref r0)] from rfl];simp_arith [c5];have na:a0≠p:=df ha hp (by intro z;cases z);have nb:b0≠p:=df hb hp (by intro z;cases z);have nr:r0≠p:=df hr0 hp (by intro z;cases z);refine nT hp T.c_Program.cl T.n_Program_width (by simp) ?_;rw [eD (by rfl),yX];obtain ⟨H1,hH1⟩:∃H1,H1=upd H p (.ins t.C_Program dx [("width",V.int wd)]):=⟨_,rfl⟩
 rw [<- hH1];have e1:H1 p=some (.ins t.C_Program dx [("width",V.int wd)]):=by rw [hH1];exact af
 have s1:SameX p H H1:=by rw [hH1];exact SameX.upd
 have t1:TSame H H1:=by rw [hH1];exact TSame.updI hp
 simp_arith [c5];refine ⟨_,.inl (SqL.of (s1 _ _ ha na)),fun l1 hl1=>?_⟩;have np1:p≠l1:=ao e1 hl1;refine nT (by rw [av np1];exact e1) T.c_Program.cl T.n_Program_ins (by simp) ?_;rw [eD (by kernel_rfl)];obtain ⟨H2,hH2⟩:∃H2,H2=upd (upd H1 l1 (.lst (ins.map V.str))) p (.ins t.C_Program dx ([(("width":Str),V.int wd)]++[(("ins":Str),V.ref l1)])):=⟨_,rfl⟩
 rw [<- hH2];have e2:H2 p=some (.ins t.C_Program dx ([(("width":Str),V.int wd)]++[(("ins":Str),V.ref l1)])):=by rw [hH2];exact af
 have s2:SameX p H1 H2:=by rw [hH2];exact (SameX.of (Same.upd hl1)).trans SameX.upd
 have k2:H2 l1=some (.lst (ins.map V.str)):=by rw [hH2,av np1.symm];exact af
 have t2:TSame H1 H2:=by rw [hH2];exact (Same.upd hl1).ts.trans (TSame.updI (by rw [av np1];exact e1))
 have s02:=s1.trans s2;simp_arith [c5];refine ⟨_,.inl (SqL.of (s02 _ _ ha na)),fun l2 hl2=>?_⟩;have s3:=Same.upd (o:=.lst (ins.map V.str)) hl2;refine ⟨_,.inl (SqL.of (s3 _ _ (s02 _ _ hb nb))),fun l3 hl3=>?_⟩;have s4:=s3.trans (Same.upd (o:=.lst (oth.map V.str)) hl3);refine ⟨_,_,(by rw [av (ao af hl3)];exact af),af,(by rw [sizeLine_eq];simp only [List.length_map];omega),fun l4 hl4=>?_⟩;have s5:=s4.trans (Same.upd (o:=.lst (ins.map V.str++oth.map V.str)) hl4);refine nT (s5 _ _ e2) T.c_Program.cl T.n_Program_boxes (by simp) ?_;rw [eD (by kernel_rfl)];have np4:p≠l4:=ao (s4 _ _ e2) hl4;obtain ⟨H3,hH3⟩:∃H3,H3=upd (upd (upd (upd H2 l2 (.lst (ins.map V.str))) l3 (.lst (oth.map V.str))) l4 (.lst (ins.map V.str++oth.map V.str))) p (.ins t.C_Program dx ([(("width":Str),V.int wd)]++[(("ins":Str),V.ref l1)]++[(("boxes":Str),V.ref l4)])):=⟨_,rfl⟩
 rw [<- hH3];have e3:H3 p=some (.ins t.C_Program dx ([(("width":Str),V.int wd)]++[(("ins":Str),V.ref l1)]++[(("boxes":Str),V.ref l4)])):=by rw [hH3];exact af
 have s23:SameX p H2 H3:=by rw [hH3];exact (SameX.of s5).trans SameX.upd
 have k4:H3 l4=some (.lst (ins.map V.str++oth.map V.str)):=by rw [hH3,av np4.symm];exact af
 have t3:TSame H2 H3:=by rw [hH3];exact s5.ts.trans (TSame.updI (s5 _ _ e2))
 have s03:=s02.trans s23;simp_arith [c5];have pf:p∉f:=fun z=>by obtain ⟨zs,hz⟩:=hx.tracked p z;rw [hp] at hz;cases hz
 refine ⟨xs,ss,f,s03 _ _ hr0 nr,hx.keep ((t1.trans t2).trans t3) (fun c hc o e=>s03 c o e (fun z=>pf (by rw [<- z];exact hc))),hd,hm,fun r ys g H4 s34 e4 k5 nd fr=>?_⟩;refine nT (s34 _ _ e3) T.c_Program.cl T.n_Program_rows (by simp) ?_;rw [eD (by kernel_rfl)];have pg:p∉r::g:=fun z=>by rw [fr p z] at e3;cases e3
 have npr:r≠p:=fun z=>pg (by rw [z];exact dJ);have nl1:l1≠p:=np1.symm;have nl4:l4≠p:=np4.symm;have n14:l1≠l4:=ao (s4 _ _ k2) hl4;have f1:H l1=none:=s1.free e1 hl1;have f4:H l4=none:=s02.free e2 (s4.free hl4);have k3:H3 l1=some (.lst (ins.map V.str)):=s23 _ _ k2 nl1;refine q l1 l4 r ys g _ (s03.trans ((SameX.of s34).trans SameX.upd)) ⟨⟨dx,af⟩,?_,?_,?_,?_⟩ ?_ ?_
 ·rw [av nl1];exact s34 _ _ k3
 ·rw [av nl4,cD];exact s34 _ _ k4
 ·rw [av npr];exact e4
 ·exact k5.keep (TSame.updI (s34 _ _ e3)) (Kept.upd fun z=>pg (zq5 _ z))
 ·have a1:l1∉r::g:=fun z=>by rw [fr l1 z] at k3;cases k3
  have a4:l4∉r::g:=fun z=>by rw [fr l4 z] at k4;cases k4
  refine zq41.mpr ⟨fun z=>?_,zq41.mpr ⟨a4,nd⟩⟩;rcases zq6.mp z with z | z
  ·exact n14 z
  ·exact a1 z
 ·intro c hc;rcases zq6.mp hc with z | hc
  ·rw [z];exact f1
  rcases zq6.mp hc with z | hc
  ·rw [z];exact f4
  exact s03.free e3 (fr c hc)
variable {E:XK} {H H':Hp} {Q:VK} {p:Addr} {x:V}
noncomputable def dk:FZ.Ed->List V
 | .stop=>[.str "stop"]
 | .go i=>[.str "go",.int i]
 | .choose n i j=>[.str "choose",.str n,.int i,.int j]
noncomputable def DeedV1(K:W.Frag)(H:Hp)(x:V)(d:Deed):Prop:=∃q,x=.ref q/\SqT K H q d.vs/\d.fine
noncomputable def BlkV(K:W.Frag)(N:Addr->Prop)(H:Hp)(bl:Addr)(x:V)(b:FZ.Blk):Prop:=∃q a e vs,x=.ref q/\H q=some (.tup [.ref a,.ref e])/\H a=some (.lst vs)/\Paired (DeedV1 K H) vs b.ds/\H e=some (.tup (dk b.ed))/\a≠bl/\N a
theorem DeedV1.ts{K:W.Frag}{d:Deed}(t:TSame H H')(h:DeedV1 K H x d):DeedV1 K H' x d:=let ⟨q,e,z,f⟩:=h;⟨q,e,t.seqT z,f⟩
theorem SameX.tsL2{ys:List V}(s:SameX p H H')(h:H p=some (.lst ys)):TSame H H':=
 ⟨fun c xs e=>s c _ e (fun z=>by rw [z,h] at e;cases e),fun c o u e=>s c _ e (fun z=>by rw [z,h] at e;cases e)⟩
theorem BlkV.sx{K:W.Frag}{N:Addr->Prop}{bl:Addr}{b:FZ.Blk}{ys:List V}(h:BlkV K N H bl x b)(s:SameX bl H H')(hb:H bl=some (.lst ys)):BlkV K N H' bl x b:=by obtain ⟨q,a,e,vs,ex,h1,h2,h3,h4,h5⟩:=h;have tt:=SameX.tsL2 s hb;exact ⟨q,a,e,vs,ex,s _ _ h1 (fun z=>by rw [z,hb] at h1;cases h1),s _ _ h2 h5.1,FL.Paired.imp h3 fun y _ d _ z=>z.ts tt,s _ _ h4 (fun z=>by rw [z,hb] at h4;cases h4),h5⟩
structure PartAt(K:W.Frag)(C:Addr)(N:Addr->Prop)(H:Hp)(p bl:Addr)(B:List FZ.Blk):Prop where
 ob:∃dx,H p=some (.ins C dx [("blocks",.ref bl)])
 nw:∀c,H c=none->N c
 bs:∃xs,H bl=some (.lst xs)/\Paired (BlkV K N H bl) xs B
theorem PartAt.ne{K:W.Frag}{C:Addr}{N:Addr->Prop}{bl:Addr}{B:List FZ.Blk}(h:PartAt K C N H p bl B):p≠bl:=fun z=>by obtain ⟨dx,e⟩:=h.ob;obtain ⟨xs,e2,_⟩:=h.bs;rw [z,e2] at e;cases e
theorem PartAt.same{K:W.Frag}{C:Addr}{N:Addr->Prop}{bl:Addr}{B:List FZ.Blk}(h:PartAt K C N H p bl B)(s:Same H H'):PartAt K C N H' p bl B:=by obtain ⟨xs,e,q⟩:=h.bs;exact ⟨let ⟨dx,e⟩:=h.ob;⟨dx,s _ _ e⟩,fun c hc=>h.nw c (s.free hc),xs,s _ _ e,FL.Paired.imp q fun x _ b _ z=>z.sx (SameX.of s) e⟩
theorem BlkV.same{K:W.Frag}{N:Addr->Prop}{bl:Addr}{b:FZ.Blk}(h:BlkV K N H bl x b)(s:Same H H'):BlkV K N H' bl x b:=by obtain ⟨q,a,e,vs,ex,h1,h2,h3,h4,h5⟩:=h;exact ⟨q,a,e,vs,ex,s _ _ h1,s _ _ h2,FL.Paired.imp h3 fun y _ d _ z=>z.ts s.ts,s _ _ h4,h5⟩
noncomputable def pU(K:W.Frag)(C:Addr)(p:Addr)(x:V)(H:Hp)(Q:VK):Prop:=∃(N:Addr->Prop)(bl:Addr)(B:List FZ.Blk)(b:FZ.Blk),PartAt K C N H p bl B/\BlkV K N H bl x b/\B.length<5000/\∀H',SameX bl H H'->PartAt K C N H' p bl (B++[b])->Q (.int B.length) H'
noncomputable def xO(K:W.Frag)(C:Addr):Sp:=fun vs H Q _=>∃(p:Addr)(x:V),vs=[.ref p,x]/\pU K C p x H Q
noncomputable def rh(K:W.Frag)(C:Addr)(p:Addr)(H:Hp)(Q:VK):Prop:=∃(N:Addr->Prop)(bl:Addr)(B:List FZ.Blk),PartAt K C N H p bl B/\B.length<5000/\∀H',SameX bl H H'->PartAt K C N H' p bl (B++[⟨[],.stop⟩])->Q (.int B.length) H'
noncomputable def sL(K:W.Frag)(C:Addr):Sp:=fun vs H Q _=>∃p:Addr,vs=[.ref p]/\rh K C p H Q
noncomputable def vo(K:W.Frag)(C:Addr)(p:Addr)(x:V)(H:Hp)(Q:VK):Prop:=∃(N:Addr->Prop)(bl:Addr)(B:List FZ.Blk)(b:FZ.Blk),PartAt K C N H p bl B/\BlkV K N H bl x b/\B.length<5000/\∀H',SameX bl H H'->PartAt K C N H' p bl (FZ.aV b B).2->Q (.int (FZ.aV b B).1) H'
noncomputable def xP(K:W.Frag)(C:Addr):Sp:=fun vs H Q _=>∃(p:Addr)(x:V),vs=[.ref p,x]/\vo K C p x H Q
theorem AZ{C:Addr}:xO K C [.ref p,x] H Q E=pU K C p x H Q:=propext ⟨by rintro ⟨_,_,e,q⟩;cases e;exact q,fun q=>⟨_,_,rfl,q⟩⟩
theorem mh{C:Addr}:sL K C [.ref p] H Q E=rh K C p H Q:=propext ⟨by rintro ⟨_,e,q⟩;cases e;exact q,fun q=>⟨_,rfl,q⟩⟩
theorem hZ{C:Addr}:xP K C [.ref p,x] H Q E=vo K C p x H Q:=propext ⟨by rintro ⟨_,_,e,q⟩;cases e;exact q,fun q=>⟨_,_,rfl,q⟩⟩
theorem d6{a c:Addr}{o:HO}(h:upd H a o c=none):H c=none:=by
 unfold upd at h
 split at h
 ·cases h
 ·exact h
theorem wB(T:Txt K mg t):FnOk P w K mg base CX0 1 t.f_3 t.e_3 ["self","block"] (xO K t.C_Parting):=by
 refine T.d_3.F.ok Gx ∅ ?_;rintro cdv A outer s H vs Q E hr ⟨p,x,rfl,N,bl,B,b,hP,hb,hl,q⟩;obtain ⟨dx,ob⟩:=hP.ob;obtain ⟨xs,hbl,hxs⟩:=hP.bs;have lx:=hxs.length;refine ⟨_,
   (XSs.h
   (ai
    (bB (cx PySem.F.plainAttrs_list PySem.F.slot_list_append PySem.F.type_list_append bj (cH (yqv 0 vl) rfl) (aa (yqv 1 vl) ae)))
   (aj
    (aq (am cI (aw ay gl T.z_len PySem.boot_len (aa (cH (yqv 0 vl) rfl) ae)) ac))))),?_⟩
 rw [show aM _ [V.ref p,x]=[some (.ref p),some x] from rfl];simp_arith [];refine iV ob T.c_Parting.cl T.n_Parting_blocks rfl ?_;simp_arith [];have sx:SameX bl H (upd H bl (.lst (xs++[x]))):=SameX.upd;refine ⟨.inl ⟨rfl,_,SqL.of hbl⟩,_,hbl,by rw [sizeLine_eq];omega,?_⟩;refine iV (sx _ _ ob hP.ne) T.c_Parting.cl T.n_Parting_blocks rfl ?_;simp_arith [];refine ⟨_,.inl (SqL.of af),?_⟩;have z:=q _ sx ⟨⟨dx,sx _ _ ob hP.ne⟩,fun c hc=>hP.nw c (d6 hc),xs++[x],af,FL.Paired.snoc (hb.sx sx hbl) (FL.Paired.imp hxs fun y _ c _ h=>h.sx sx hbl)⟩;rw [show (((xs++[x]).length:Nat):Int)-1=(B.length:Int) by rw [zq3,cy,lx];omega];exact z
theorem fQ{N:Addr->Prop}{H:Hp}{bl a e q:Addr}{ed:FZ.Ed}{vs:List V}{ds:List Deed}{ys:List V}(hbl:H bl=some (.lst ys))(hn:N a)(ha:H a=none)(hv:Paired (DeedV1 K H) vs ds)(he:upd H a (.lst vs) e=none)(hq:upd (upd H a (.lst vs)) e (.tup (dk ed)) q=none):
  Same H (upd (upd (upd H a (.lst vs)) e (.tup (dk ed))) q (.tup [.ref a,.ref e]))/\BlkV K N (upd (upd (upd H a (.lst vs)) e (.tup (dk ed))) q (.tup [.ref a,.ref e])) bl (.ref q) ⟨ds,ed⟩:=by
 have t1:=Same.upd (o:=.lst vs) ha;have t2:=Same.upd (o:=.tup (dk ed)) he;have t3:=Same.upd (o:=.tup [V.ref a,V.ref e]) hq;have s:=(t1.trans t2).trans t3;exact ⟨s,q,a,e,vs,rfl,af,t3 _ _ (t2 _ _ af),FL.Paired.imp hv fun y _ d _ z=>z.ts s.ts,t3 _ _ af,(ao hbl ha).symm,hn⟩
theorem rX(T:Txt K mg t):FnOk P w K mg base CX0 2 t.f_2 t.e_2 ["self"] (sL K t.C_Parting):=by
 have G_3:=@wB P w K mg base t T;refine T.d_2.F.ok Gw ∅ ?_;rintro cdv A outer s H vs Q E hr ⟨p,rfl,N,bl,B,hP,hl,q⟩;obtain ⟨dx,ob⟩:=hP.ob;obtain ⟨xs,hbl,hxs⟩:=hP.bs;refine ⟨_,
   (XSs.h
   (aj
    (aq (aX T.c_Parting.cl T.d_3 G_3 hr.m (yqv 0 vl) (aa (aN (aa (aQ ae) (aa (aN (aa aE ae)) ae))) ae))))),?_⟩
 rw [show aM _ [V.ref p]=[some (.ref p)] from rfl];simp_arith [AZ];refine bL ob rfl ?_;intro a ha e he q0 hq0;obtain ⟨sm,hb⟩:=fQ (K:=K) (ed:=.stop) (ds:=[]) hbl (hP.nw _ ha) ha .nil he hq0;exact ⟨N,bl,B,_,hP.same sm,hb,hl,fun H' sx hP'=>q H' ((SameX.of sm).trans sx) hP'⟩
theorem xD{n:Nat}{a b:Addr}{vs:List V}(ha:H a=some (.lst vs))(hb:H b=some (.lst [])):Rq K H n (.ref a) (.ref b) (decide (vs=[])):=by
 cases vs with
 |nil=>
  have z:=Rq.lists (n:=n) (fun _=>true) (SqL.of (K:=K) ha) (SqL.of hb) rfl fun j x y hx _=>by simp at hx
  exact z
 |cons x r=>rw [decide_eq_false (by intro z;cases z)];exact .lens (SqL.of ha) (SqL.of hb) (by simp)
theorem qj(T:Txt K mg t):FnOk P w K mg base CX0 2 t.f_4 t.e_4 ["self","block"] (xP K t.C_Parting):=by
 have G_3:=@wB P w K mg base t T;refine T.d_4.F.ok Gy ∅ ?_;rintro cdv A outer s H vs Q E hr ⟨p,x,rfl,N,bl,B,b,hP,hb,hl,q⟩;obtain ⟨dx,ob⟩:=hP.ob;obtain ⟨qb,a,e,vs,rfl,h1,h2,h3,h4,h5⟩:=id hb;refine ⟨_,
   (XSs.h
   (ai
    (aF (bU (dR (ar (jF (n:=0) (tZ (by decide) hr)) (ak au (yqv 1 vl) ac) (aQ ae) (aA _)) (d7 (ar aT (ak au (ak au (yqv 1 vl) ac) ac) aE (aA _)))))
     (aj
      (aq (ak au (ak au (yqv 1 vl) ac) ac)))
     aB)
   (aj
    (aq (aX T.c_Parting.cl T.d_3 G_3 hr.m (yqv 0 vl) (aa (yqv 1 vl) ae)))))),?_⟩
 rw [show aM _ [V.ref p,V.ref qb]=[some (.ref p),some (.ref qb)] from rfl];simp_arith [AZ];refine ⟨_,_,SqT.of h1,rfl,fun p0 hp0=>?_⟩;have t0:=Same.upd (o:=.lst []) hp0;refine ⟨_,xD (t0 _ _ h2) af,_,rfl,?_⟩;have lv:=h3.length;have num:(FZ.aV b B)=(B.length,B++[b])->lI t.C_Parting (Str.ofString "numbered") (V.ref p) (upd H p0 (HO.lst [])) (pU K t.C_Parting p (V.ref qb) (upd H p0 (HO.lst [])) Q):=fun ew=>by refine bL (t0 _ _ ob) rfl ⟨N,bl,B,b,hP.same t0,hb.same t0,hl,fun H' sx hP'=>?_⟩;rw [ew] at q;exact q H' ((SameX.of t0).trans sx) hP'
 obtain ⟨ds,ed⟩:=b
 cases ds with
 |cons d r=>
  have hne:¬vs=[]:=fun z=>by rw [z] at lv;simp at lv
  rw [decide_eq_false hne,if_neg zq7];exact num rfl
 |nil=>
  have hnil:vs=[]:=zq80.mp lv;rw [decide_eq_true hnil,if_pos rfl];have h40:=t0 _ _ h4;refine ⟨_,_,SqT.of (t0 _ _ h1),rfl,?_⟩
  cases ed with
  |stop=>
   simp_arith [];refine ⟨_,_,SqT.of h40,rfl,rfl,_,rfl,?_⟩;rw [decide_eq_false (by intro z;exact absurd (V.str.inj z) (by decide +kernel)),if_neg zq7];exact num rfl
  |go i=>
   simp_arith [];refine ⟨_,_,SqT.of h40,rfl,rfl,_,rfl,?_⟩;rw [decide_eq_true rfl,if_pos rfl];refine ⟨_,_,SqT.of (t0 _ _ h1),rfl,?_⟩;simp_arith [];exact ⟨_,_,SqT.of h40,rfl,q _ (SameX.of t0) (hP.same t0)⟩
  |choose n i j=>simp_arith [];refine ⟨_,_,SqT.of h40,rfl,rfl,_,rfl,?_⟩;rw [decide_eq_false (by intro z;exact absurd (V.str.inj z) (by decide +kernel)),if_neg zq7];exact num rfl
variable {H:Hp} {f:List Addr} {i:Nat} {ss:List Stm} {x:V}
noncomputable def rp(K:W.Frag)(C:Addr)(d:Nat)(p a:Addr)(x:V)(H:Hp)(Q:VK):Prop:=∃(N:Addr->Prop)(bl:Addr)(B:List FZ.Blk)(b:FZ.Blk)(rs:List V)(ss:List Stm)(f:List Addr),PartAt K C N H p bl B/\BlkV K N H bl x b/\H a=some (.lst rs)/\StmsV K H rs ss f/\a≠bl/\bl∉f/\bY ss<d/\B.length+3 * bc ss<4000/\b.ds.length<=8/\
 ∀y H',SameX bl H H'->PartAt K C N H' p bl (FZ.aP ss b B).2->BlkV K N H' bl y (FZ.aP ss b B).1->(FZ.aP ss b B).1.ds.length<=8->Q y H'
noncomputable def i5(K:W.Frag)(C:Addr)(d:Nat):Sp:=fun vs H Q _=>∃(p a:Addr)(x:V),vs=[.ref p,.ref a,x]/\rp K C d p a x H Q
noncomputable def rA(K:W.Frag)(C:Addr)(d:Nat)(ok:Stm->Prop)(p:Addr)(r x:V)(H:Hp)(Q:VK):Prop:=∃(N:Addr->Prop)(bl:Addr)(B:List FZ.Blk)(b:FZ.Blk)(st:Stm)(f:List Addr),PartAt K C N H p bl B/\BlkV K N H bl x b/\StmV K H r st f/\ok st/\bl∉f/\st.deep<d/\B.length+3 * st.many<4000/\b.ds.length<=8/\
 ∀y H',SameX bl H H'->PartAt K C N H' p bl (FZ.bK st b B).2->BlkV K N H' bl y (FZ.bK st b B).1->(FZ.bK st b B).1.ds.length<=8->Q y H'
noncomputable def dz(K:W.Frag)(C:Addr)(d:Nat)(ok:Stm->Prop):Sp:=fun vs H Q _=>∃(p:Addr)(r x:V),vs=[.ref p,r,x]/\rA K C d ok p r x H Q
noncomputable def DE:Stm->Prop
 | .ifs _ _ _=>True
 |_=>False
noncomputable def DF:Stm->Prop
 | .whl _ _=>True
 |_=>False
theorem fA{C p a:Addr}{d:Nat}{Q:VK}{E:XK}:i5 K C d [.ref p,.ref a,x] H Q E=rp K C d p a x H Q:=propext ⟨by rintro ⟨_,_,_,e,q⟩;cases e;exact q,fun q=>⟨_,_,_,rfl,q⟩⟩
theorem eX{C p:Addr}{d:Nat}{ok:Stm->Prop}{r:V}{Q:VK}{E:XK}:dz K C d ok [.ref p,r,x] H Q E=rA K C d ok p r x H Q:=propext ⟨by rintro ⟨_,_,_,e,q⟩;cases e;exact q,fun q=>⟨_,_,_,rfl,q⟩⟩
theorem fK{s:Stm}(h:ss.reverse[i]?=some s):ss.drop (ss.length-(i+1))=s::ss.drop (ss.length-i):=by
 obtain ⟨hi,e⟩:=zq10.mp h;rw [List.length_reverse] at hi;rw [List.getElem_reverse] at e;have h1:ss.length-(i+1)<ss.length:=by omega
 rw [Bh h1,show ss.length-(i+1)+1=ss.length-i by omega];congr 1;rw [<- e];congr 1;omega
theorem xQ{xs:List V}(h:StmsV K H xs ss f)(hx:xs.reverse[i]?=some x):∃s g,ss.reverse[i]?=some s/\s∈ss/\StmV K H x s g/\∀c∈g,c∈f:=by have lx:=h.length;obtain ⟨hi,e⟩:=zq10.mp hx;rw [List.length_reverse] at hi;rw [List.getElem_reverse] at e;obtain ⟨s,g,h1,h2,h3⟩:=h.get (i:=xs.length-1-i) (x:=x) (by rw [zq4 (by omega),e]);refine ⟨s,g,?_,zq8 h1,h2,h3⟩;rw [Bd (by omega),<- lx];exact h1
theorem nW{ns:List Str}{wd:Int}:∀{ss:List Stm} {s:Stm},bO ns wd ss->s∈ss->s.good ns wd
 |_::_,_,h,hm=>by
  rcases zq6.mp hm with z | z
  ·subst z;exact h.1
  ·exact nW h.2 z
theorem D6{H':Hp}{bl:Addr}{ys:List V}{st:Stm}(h:StmV K H x st f)(s:SameX bl H H')(hb:H bl=some (.lst ys))(hf:bl∉f):StmV K H' x st f:=
 h.keep (SameX.tsL2 s hb) fun a ha o e=>s a o e (fun z=>hf (z ▸ ha))
theorem mw{H':Hp}{bl:Addr}{xs ys:List V}(h:StmsV K H xs ss f)(s:SameX bl H H')(hb:H bl=some (.lst ys))(hf:bl∉f):StmsV K H' xs ss f:=
 h.keep (SameX.tsL2 s hb) fun a ha o e=>s a o e (fun z=>hf (z ▸ ha))
theorem um{s:Stm}(h:ss.reverse[i]?=some s):s.many+bc (ss.drop (ss.length-i))<=bc ss:=by
 have e:=congrArg bc (fK h);rw [bc] at e;have e2:bc ss=bc (ss.take (ss.length-(i+1)))+bc (ss.drop (ss.length-(i+1))):=by rw [<- eT,tD]
 omega
theorem kR(T:Txt K mg t)(d:Nat)(G_6:FnOk P w K mg base CX0 (3 * d+3) t.f_6 t.e_6 ["self","row","block"] (dz K t.C_Parting d fun _=>True)):FnOk P w K mg base CX0 (3 * d+4) t.f_5 t.e_5 ["self","rows","block"] (i5 K t.C_Parting d):=by
 refine T.d_5.F.ok sc_5 ∅ ?_;rintro cdv A outer s H vs Q E hr ⟨p,a,x,rfl,N,bl,B,b,rs,ss,f,hP,hb,ha,hx,nab,nbf,hd,hm,h8,q⟩;have lx:=hx.length;obtain ⟨xs0,hbl0,_⟩:=hP.bs;refine ⟨_,
   (XSs.h
   (ai
    (bF PassesOwn.never rfl (Az T.z_reversed (aa (yqv 1 vl) ae) gl) (aC (i:=3) sc_5.nd rfl ll)
     (aj
      (ax (i:=2) sc_5.nd rfl ll (aX T.c_Parting.cl T.d_6 G_6 hr.m (yqv 0 vl) (aa (yqv 3 vl) (aa (yqv 2 vl) ae))))))
   (aj
    (aq (yqv 2 vl))))),?_⟩
 rw [show aM _ [V.ref p,V.ref a,x]=[some (.ref p),some (.ref a),some x,none] from rfl];simp_arith [eX];refine ⟨rs,SqL.of ha,?_⟩;refine By (fun i σ H'=>SameX bl H H'/\∃y o3,PartAt K t.C_Parting N H' p bl (FZ.aP (ss.drop (ss.length-i)) b B).2/\BlkV K N H' bl y (FZ.aP (ss.drop (ss.length-i)) b B).1/\(FZ.aP (ss.drop (ss.length-i)) b B).1.ds.length<=8/\σ=[some (.ref p),some (.ref a),some y,o3])
  ⟨SameX.refl,x,none,?_,?_,?_,rfl⟩ (fun i σ H' _ h=>SqL.of (h.1 _ _ ha nab)) ?_ ?_
 ·rw [v7,yY,FZ.aP];exact hP
 ·rw [v7,yY,FZ.aP];exact hb
 ·rw [v7,yY,FZ.aP];exact h8
 ·rintro i r σ H1 hri ⟨s1,y,o3,hP1,hb1,l1,rfl⟩;simp_arith [eX];obtain ⟨st,g',hst,hms,hv,hsub⟩:=xQ hx hri;have hdm:=io hms;have hmd:=um hst;have hol:=FZ.cA (ss.drop (ss.length-i)) b B;obtain ⟨dx,ob1⟩:=hP1.ob;refine bL ob1 rfl ?_;refine ⟨N,bl,_,_,st,g',hP1,hb1,(D6 hv s1 hbl0 (fun z=>nbf (hsub bl z))),trivial,(fun z=>nbf (hsub bl z)),(by omega),(by omega),l1,fun y2 H2 s2 hP2 hb2 l2=>?_⟩;refine ⟨s1.trans s2,y2,_,?_,?_,?_,rfl⟩
  ·rw [fK hst,FZ.aP];exact hP2
  ·rw [fK hst,FZ.aP];exact hb2
  ·rw [fK hst,FZ.aP];exact l2
 ·rintro σ H1 ⟨s1,y,o3,hP1,hb1,l1,rfl⟩;rw [lx,mJ,AJ] at hP1 hb1 l1;simp_arith [];exact q y H1 s1 hP1 hb1 l1
theorem vp{N:Addr->Prop}{H:Hp}{bl a e q:Addr}{ed:FZ.Ed}{vs:List V}{ds:List Deed}(ha:H a=some (.lst vs))(nab:a≠bl)(hn:N a)(hv:Paired (DeedV1 K H) vs ds)(he:H e=none)(hq:upd H e (.tup (dk ed)) q=none):
  Same H (upd (upd H e (.tup (dk ed))) q (.tup [.ref a,.ref e]))/\BlkV K N (upd (upd H e (.tup (dk ed))) q (.tup [.ref a,.ref e])) bl (.ref q) ⟨ds,ed⟩:=by
 have t2:=Same.upd (o:=.tup (dk ed)) he;have t3:=Same.upd (o:=.tup [V.ref a,V.ref e]) hq;have s:=t2.trans t3;exact ⟨s,q,a,e,vs,rfl,af,t3 _ _ (t2 _ _ ha),FL.Paired.imp hv fun y _ d _ z=>z.ts s.ts,t3 _ _ af,nab,hn⟩
theorem zm(T:Txt K mg t)(d:Nat)(G_5:FnOk P w K mg base CX0 (3 * d+4) t.f_5 t.e_5 ["self","rows","block"] (i5 K t.C_Parting d)):FnOk P w K mg base CX0 (3 * d+5) t.f_7 t.e_7 ["self","row","block"] (dz K t.C_Parting (d+1) DE):=by
 have G_4:=@qj P w K mg base t T;refine T.d_7.F.ok sc_7 ∅ ?_;rintro cdv A outer s H vs Q E hr ⟨p,r,x,rfl,N,bl,B,b,st,f,hP,hb,hv,hok,nbf,hd,hm,h8,q⟩;refine ⟨_,
   (XSs.h
   (ai
    (ax (i:=3) sc_7.nd rfl ll (aN (aa (aQ ae) (aa (aN (aa aE (aa (aX T.c_Parting.cl T.d_4 G_4 hr.m (yqv 0 vl) (aa (yqv 2 vl) ae)) ae))) ae))))
   (ai
    (ax (i:=4) sc_7.nd rfl ll (aX T.c_Parting.cl T.d_4 G_4 hr.m (yqv 0 vl) (aa (aX T.c_Parting.cl T.d_5 G_5 hr.m (yqv 0 vl) (aa (ak au (yqv 1 vl) ac) (aa (yqv 3 vl) ae))) ae)))
   (ai
    (ax (i:=5) sc_7.nd rfl ll (aX T.c_Parting.cl T.d_4 G_4 hr.m (yqv 0 vl) (aa (aX T.c_Parting.cl T.d_5 G_5 hr.m (yqv 0 vl) (aa (ak au (yqv 1 vl) ac) (aa (yqv 3 vl) ae))) ae)))
   (aj
    (aq (aN (aa (aQ ae) (aa (aN (aa aE (aa (ak au (yqv 1 vl) ac) (aa (yqv 4 vl) (aa (yqv 5 vl) ae))))) ae))))))))),?_⟩
 rw [show aM _ [V.ref p,r,x]=[some (.ref p),some r,some x,none,none,none] from rfl]
 cases hv with
 | @deed q0 dd hf hq=>exact absurd hok id
 | @whl q0 a1 n xs1 rows f1 hq ha1 h1=>exact absurd hok id
 | @ifs q0 a1 c1 n xs1 ys1 ones others f1 g1 hq ha1 hc1 h1 h2=>simp only [Stm.deep,Stm.many] at hd hm;obtain ⟨xs0,hbl0,_⟩:=hP.bs;have na1:a1≠bl:=fun z=>nbf (by rw [<- z];simp);have nc1:c1≠bl:=fun z=>nbf (by rw [<- z];simp);have nf1:bl∉f1:=fun z=>nbf (by simp [z]);have ng1:bl∉g1:=fun z=>nbf (by simp [z]);obtain ⟨dx,ob⟩:=hP.ob;rw [FZ.bK] at q;dsimp only at q;simp_arith [hZ,fA];intro a0 ha0;have t0:=Same.upd (o:=.lst []) ha0;have nab0:a0≠bl:=(ao hbl0 ha0).symm;refine bL (t0 _ _ ob) rfl ⟨N,bl,B,b,hP.same t0,hb.same t0,(by omega),fun H1 sx1 hP1=>?_⟩;have gw:=FZ.aW b B;generalize FZ.aV b B=w0 at *;have ea0:H1 a0=some (.lst []):=sx1 _ _ af nab0;have sx01:=(SameX.of (p:=bl) t0).trans sx1;intro e0 he0 q1 hq1;obtain ⟨sb,hbb⟩:=vp (K:=K) (ed:=.go w0.1) (ds:=[]) ea0 nab0 (hP.nw _ ha0) .nil he0 hq1;have hPG:=hP1.same sb;have sxG:=sx01.trans (SameX.of (p:=bl) sb);rw [show dk (.go w0.1)=[V.str "go",V.int w0.1] from rfl] at sb hbb hPG sxG;generalize upd (upd H1 e0 _) q1 _=G at sb hbb hPG sxG ⊢;obtain ⟨dxG,obG⟩:=hPG.ob;obtain ⟨xsG,hblG,_⟩:=hPG.bs;refine bL obG rfl (bL obG rfl ⟨_,_,(SameX.tsL2 sxG hbl0).seqT hq,rfl,?_⟩);simp_arith [fA];have lo1:=FZ.cA ones ⟨[],.go w0.1⟩ w0.2;refine ⟨N,bl,w0.2,⟨[],.go w0.1⟩,xs1,ones,f1,hPG,hbb,sxG _ _ ha1 na1,mw h1 sxG hbl0 nf1,na1,nf1,(by omega),(by omega),cc _,fun y2 H3 s3 hP3 hb3 l3=>?_⟩;generalize FZ.aP ones ⟨[],.go w0.1⟩ w0.2=o at *;have gw2:=FZ.aW o.1 o.2;refine ⟨N,bl,_,_,hP3,hb3,(by omega),fun H4 s4 hP4=>?_⟩;generalize FZ.aV o.1 o.2=wo at *;have sxG4:=s3.trans s4;have sx4:=sxG.trans sxG4;obtain ⟨dx4,ob4⟩:=hP4.ob;obtain ⟨xs4,hbl4,_⟩:=hP4.bs;refine bL ob4 rfl (bL ob4 rfl ⟨_,_,(SameX.tsL2 sx4 hbl0).seqT hq,rfl,?_⟩);simp_arith [fA];have lo2:=FZ.cA others ⟨[],.go w0.1⟩ wo.2;refine ⟨N,bl,wo.2,⟨[],.go w0.1⟩,ys1,others,g1,hP4,hbb.sx sxG4 hblG,sx4 _ _ hc1 nc1,mw h2 sx4 hbl0 ng1,nc1,ng1,(by omega),(by omega),cc _,fun y5 H5 s5 hP5 hb5 l5=>?_⟩;generalize FZ.aP others ⟨[],.go w0.1⟩ wo.2=o2 at *;refine ⟨N,bl,_,_,hP5,hb5,(by omega),fun H6 s6 hP6=>?_⟩;generalize FZ.aV o2.1 o2.2=wp at *;have sx6:=sx4.trans (s5.trans s6);obtain ⟨xs6,hbl6,_⟩:=hP6.bs;intro a7 ha7;have t7:=Same.upd (o:=.lst []) ha7;refine ⟨_,_,(SameX.tsL2 sx6 hbl0 |>.trans t7.ts).seqT hq,rfl,fun e7 he7 q7 hq7=>?_⟩;obtain ⟨sm,hb7⟩:=fQ (K:=K) (ed:=.choose n wo.1 wp.1) (ds:=[]) hbl6 (hP6.nw _ ha7) ha7 .nil he7 hq7;exact q _ _ (sx6.trans (SameX.of sm)) (hP6.same sm) hb7 (cc _)
theorem Au(T:Txt K mg t)(d:Nat)(G_5:FnOk P w K mg base CX0 (3 * d+4) t.f_5 t.e_5 ["self","rows","block"] (i5 K t.C_Parting d)):FnOk P w K mg base CX0 (3 * d+5) t.f_8 t.e_8 ["self","row","block"] (dz K t.C_Parting (d+1) DF):=by
 have G_4:=@qj P w K mg base t T;have G_2:=@rX P w K mg base t T;refine T.d_8.F.ok sc_8 ∅ ?_;rintro cdv A outer s H vs Q E hr ⟨p,r,x,rfl,N,bl,B,b,st,f,hP,hb,hv,hok,nbf,hd,hm,h8,q⟩;refine ⟨_,
   (XSs.h
   (ai
    (ax (i:=3) sc_8.nd rfl ll (aX T.c_Parting.cl T.d_4 G_4 hr.m (yqv 0 vl) (aa (yqv 2 vl) ae)))
   (ai
    (ax (i:=4) sc_8.nd rfl ll (jX T.c_Parting.cl T.d_2 G_2 hr.m (yqv 0 vl)))
   (ai
    (ax (i:=5) sc_8.nd rfl ll (aX T.c_Parting.cl T.d_4 G_4 hr.m (yqv 0 vl) (aa (aX T.c_Parting.cl T.d_5 G_5 hr.m (yqv 0 vl) (aa (ak au (yqv 1 vl) ac) (aa (aN (aa (aQ ae) (aa (aN (aa aE (aa (yqv 4 vl) ae))) ae))) ae))) ae)))
   (ai
    (g6 (aN (aa (aQ ae) (aa (aN (aa aE (aa (ak au (yqv 1 vl) ac) (aa (yqv 5 vl) (aa (yqv 3 vl) ae))))) ae))) (mD (cH (yqv 0 vl) rfl) (yqv 4 vl) jP))
   (aj
    (aq (aN (aa (aQ ae) (aa (aN (aa aE (aa (yqv 4 vl) ae))) ae)))))))))),?_⟩
 rw [show aM _ [V.ref p,r,x]=[some (.ref p),some r,some x,none,none,none] from rfl]
 cases hv with
 | @deed q0 dd hf hq=>exact absurd hok id
 | @ifs q0 a1 c1 n xs1 ys1 ones others f1 g1 hq ha1 hc1 h1 h2=>exact absurd hok id
 | @whl q0 a1 n xs1 rows f1 hq ha1 h1=>
  simp only [Stm.deep,Stm.many] at hd hm;obtain ⟨xs0,hbl0,_⟩:=hP.bs;have na1:a1≠bl:=fun z=>nbf (by rw [<- z];simp);have nf1:bl∉f1:=fun z=>nbf (by simp [z]);obtain ⟨dx,ob⟩:=hP.ob;rw [FZ.bK] at q;dsimp only at q;simp_arith [hZ,fA,mh];refine bL ob rfl ⟨N,bl,B,b,hP,hb,(by omega),fun H1 sx1 hP1=>?_⟩;have gw:=FZ.aW b B;generalize FZ.aV b B=w0 at *;obtain ⟨dx1,ob1⟩:=hP1.ob;refine bL ob1 rfl ?_;refine ⟨N,bl,w0.2,hP1,(by omega),fun H2 sx2 hP2=>?_⟩;have sx02:=sx1.trans sx2;obtain ⟨dx2,ob2⟩:=hP2.ob;obtain ⟨xs2,hbl2,_⟩:=hP2.bs;refine bL ob2 rfl (bL ob2 rfl ⟨_,_,(SameX.tsL2 sx02 hbl0).seqT hq,rfl,fun a3 ha3 e3 he3 q3 hq3=>?_⟩);obtain ⟨sm,hb3⟩:=fQ (K:=K) (ed:=.go w0.2.length) (ds:=[]) hbl2 (hP2.nw _ ha3) ha3 .nil he3 hq3;rw [show dk (.go w0.2.length)=[V.str "go",V.int w0.2.length] from rfl] at sm hb3;have hP3:=hP2.same sm;have sx03:=sx02.trans (SameX.of (p:=bl) sm);simp_arith [fA];have lo:=FZ.cA rows ⟨[],.go w0.2.length⟩ (w0.2++[⟨[],.stop⟩]);have go:=FZ.bo rows ⟨[],.go w0.2.length⟩ (w0.2++[⟨[],.stop⟩]);rw [zq3,cy] at lo go;refine ⟨N,bl,w0.2++[(⟨[],.stop⟩:FZ.Blk)],⟨[],.go w0.2.length⟩,xs1,rows,f1,hP3,hb3,sx03 _ _ ha1 na1,mw h1 sx03 hbl0 nf1,na1,nf1,(by omega),(by rw [zq3,cy];omega),cc _,fun y4 H4 s4 hP4 hb4 l4=>?_⟩;generalize FZ.aP rows ⟨[],.go w0.2.length⟩ (w0.2++[⟨[],.stop⟩])=o at *;have gw2:=FZ.aW o.1 o.2;refine ⟨N,bl,_,_,hP4,hb4,(by omega),fun H5 s5 hP5=>?_⟩;generalize FZ.aV o.1 o.2=wo at *;have sx05:=sx03.trans (s4.trans s5);intro a6 ha6;have t6:=Same.upd (o:=.lst []) ha6;refine ⟨_,_,(SameX.tsL2 sx05 hbl0 |>.trans t6.ts).seqT hq,rfl,fun e6 he6 q6 hq6=>?_⟩;obtain ⟨xs5,hbl5,_⟩:=hP5.bs;obtain ⟨sm6,hb6⟩:=fQ (K:=K) (ed:=.choose n wo.1 w0.1) (ds:=[]) hbl5 (hP5.nw _ ha6) ha6 .nil he6 hq6;rw [show dk (.choose n wo.1 w0.1)=[V.str "choose",V.str n,V.int wo.1,V.int w0.1] from rfl] at sm6 hb6;have hP6:=hP5.same sm6;have sx06:=sx05.trans (SameX.of (p:=bl) sm6);generalize upd (upd (upd H5 a6 _) e6 _) q6 _=G at sm6 hb6 hP6 sx06 ⊢;obtain ⟨dx6,ob6⟩:=hP6.ob;obtain ⟨xs6,hbl6,hxs6⟩:=hP6.bs;have lx6:=hxs6.length;refine iV ob6 T.c_Parting.cl T.n_Parting_blocks rfl ?_;have sx67:SameX bl G (upd G bl (.lst (xs6.set w0.2.length (.ref q6)))):=SameX.upd;refine ⟨bl,xs6,_,w0.2.length,rfl,rfl,hbl6,FL.lY (by omega),?_⟩;have hP7:PartAt K t.C_Parting N (upd G bl (.lst (xs6.set w0.2.length (.ref q6)))) p bl (wo.2.set w0.2.length ⟨[],.choose n wo.1 w0.1⟩):=
   ⟨⟨dx6,sx67 _ _ ob6 hP6.ne⟩,fun c hc=>hP6.nw c (d6 hc),_,af,FL.Paired.put (hb6.sx sx67 hbl6) _ (FL.Paired.imp hxs6 fun y _ c _ h=>h.sx sx67 hbl6)⟩
  have sx07:=sx06.trans sx67;generalize upd G bl _=G2 at hP7 sx07 ⊢;intro a8 ha8 e8 he8 q8 hq8;obtain ⟨xs7,hbl7,_⟩:=hP7.bs;obtain ⟨sm8,hb8⟩:=fQ (K:=K) (ed:=.go w0.2.length) (ds:=[]) hbl7 (hP7.nw _ ha8) ha8 .nil he8 hq8;exact q _ _ (sx07.trans (SameX.of sm8)) (hP7.same sm8) hb8 (cc _)
theorem xB(T:Txt K mg t)(d:Nat)(G_7:FnOk P w K mg base CX0 (3 * d+5) t.f_7 t.e_7 ["self","row","block"] (dz K t.C_Parting (d+1) DE)) (G_8:FnOk P w K mg base CX0 (3 * d+5) t.f_8 t.e_8 ["self","row","block"] (dz K t.C_Parting (d+1) DF)):FnOk P w K mg base CX0 (3 * (d+1)+3) t.f_6 t.e_6 ["self","row","block"] (dz K t.C_Parting (d+1) fun _=>True):=by
 have G_4:=@qj P w K mg base t T;refine T.d_6.F.ok Gz ∅ ?_;rintro cdv A outer s H vs Q E hr ⟨p,r,x,rfl,N,bl,B,b,st,f,hP,hb,hv,hok,nbf,hd,hm,h8,q⟩;obtain ⟨dx,ob⟩:=hP.ob;obtain ⟨xs0,hbl0,_⟩:=hP.bs;refine ⟨_,
   (XSs.h
   (ai
    (aF (ar aT (ak au (yqv 1 vl) ac) aE (aA _))
     (aj
      (aq (aX T.c_Parting.cl T.d_7 G_7 hr.m (yqv 0 vl) (aa (yqv 1 vl) (aa (yqv 2 vl) ae)))))
     aB)
   (ai
    (aF (ar aT (ak au (yqv 1 vl) ac) aE (aA _))
     (aj
      (aq (aX T.c_Parting.cl T.d_8 G_8 hr.m (yqv 0 vl) (aa (yqv 1 vl) (aa (yqv 2 vl) ae)))))
     aB)
   (ai
    (aF (ar aT (aw ay gl T.z_len PySem.boot_len (aa (ak au (yqv 2 vl) ac) ae)) (yk (v:=.int 8) gl T.g_MOST_DEEDS ⟨_,rfl⟩) (aA _))
     (aj
      (aq (aN (aa (aQ (aa (yqv 1 vl) ae)) (aa (aN (aa aE (aa (aX T.c_Parting.cl T.d_4 G_4 hr.m (yqv 0 vl) (aa (yqv 2 vl) ae)) ae))) ae)))))
     aB)
   (aj
    (aq (aN (aa (am gE (aQ (aa (yqv 1 vl) ae)) (ak au (yqv 2 vl) ac)) (aa (ak au (yqv 2 vl) ac) ae))))))))),?_⟩
 rw [show aM _ [V.ref p,r,x]=[some (.ref p),some r,some x] from rfl];have hv0:=hv
 cases hv with
 | @ifs q0 a1 c1 n xs1 ys1 ones others f1 g1 hq ha1 hc1 h1 h2=>
  simp_arith [eX,hZ];refine ⟨_,_,hq,rfl,?_⟩;simp_arith [eX,hZ];refine aH (fun _=>bL ob rfl ⟨N,bl,B,b,_,_,hP,hb,hv0,trivial,nbf,hd,hm,h8,q⟩) (fun z=>absurd trivial z)
 | @whl q0 a1 n xs1 rows f1 hq ha1 h1=>
  simp_arith [eX,hZ];refine ⟨_,_,hq,rfl,?_⟩;simp_arith [eX,hZ];refine aH (fun z=>absurd z (by decide +kernel)) (fun _=>⟨_,_,hq,rfl,?_⟩);simp_arith [eX,hZ];refine aH (fun _=>bL ob rfl ⟨N,bl,B,b,_,_,hP,hb,hv0,trivial,nbf,hd,hm,h8,q⟩) (fun z=>absurd trivial z)
 | @deed q0 dd hf hq=>
  simp_arith [eX,hZ];refine nJ hf hq (by decide +kernel) (by decide +kernel) (by decide +kernel) ⟨_,rfl,?_⟩;rw [if_neg zq7];refine nJ hf hq (by decide +kernel) (by decide +kernel) (by decide +kernel) ⟨_,rfl,?_⟩;rw [if_neg zq7];obtain ⟨qb,ab,eb,vs,rfl,b1,b2,b3,b4,b5,b6⟩:=id hb;have lv:=b3.length;rw [FZ.bK] at q;simp only [Stm.many] at hm;simp_arith [eX,hZ];refine ⟨_,_,SqT.of b1,rfl,ab,vs,rfl,.inl (SqL.of b2),?_⟩
  by_cases c8:b.ds.length=8
  ·rw [if_pos c8] at q;rw [if_pos (by rw [lv,c8];rfl)];intro a1 ha1;have t1:=Same.upd (o:=.lst [V.ref q0]) ha1;have n1:a1≠bl:=(ao hbl0 ha1).symm;refine bL (t1 _ _ ob) rfl ⟨N,bl,B,b,hP.same t1,hb.same t1,(by omega),fun H2 s2 hP2=>?_⟩;have sx2:=(SameX.of (p:=bl) t1).trans s2;intro e3 he3 q3 hq3;obtain ⟨sm,hb3⟩:=vp (K:=K) (ed:=.go (FZ.aV b B).1) (ds:=[dd]) (s2 _ _ af n1) n1 (hP.nw _ ha1) (.cons ⟨q0,rfl,(SameX.tsL2 sx2 hbl0).seqT hq,hf⟩ .nil) he3 hq3;exact q _ _ (sx2.trans (SameX.of sm)) (hP2.same sm) hb3 (by simp)
  ·rw [if_neg c8] at q;rw [if_neg (by rw [lv];simp;omega)];intro a1 ha1;have t1:=Same.upd (o:=.lst [V.ref q0]) ha1;have n1:ab≠a1:=ao b2 ha1;refine ⟨_,_,SqT.of (t1 _ _ b1),rfl,a1,ab,_,_,rfl,rfl,af,t1 _ _ b2,by rw [sizeLine_eq,cy];omega,fun a2 ha2=>?_⟩;have t2:=Same.upd (o:=.lst ([V.ref q0]++vs)) ha2;have t12:=t1.trans t2;refine ⟨_,_,SqT.of (t12 _ _ b1),rfl,fun q3 hq3=>?_⟩;have t3:=Same.upd (o:=.tup [V.ref a2,V.ref eb]) hq3;have t13:=t12.trans t3;have n2:a2≠bl:=(ao (t1 _ _ hbl0) ha2).symm;refine q _ _ (SameX.of t13) (hP.same t13) ⟨q3,a2,eb,_,rfl,af,t3 _ _ af,?_,t13 _ _ b4,n2,hP.nw _ (t1.free ha2)⟩ (by rw [dB];omega);exact .cons ⟨q0,rfl,t13.ts.seqT hq,hf⟩ (FL.Paired.imp b3 fun y _ c _ z=>z.ts t13.ts)
noncomputable def pb(C:Addr):Sp:=fun vs H Q _=>∃(p:Addr)(dx:Addr),vs=[.ref p]/\H p=some (.ins C dx [])/\∀bl,H bl=none->Q .non (upd (upd H bl (.lst [])) p (.ins C dx [("blocks",.ref bl)]))
noncomputable def kx(K:W.Frag)(C:Addr)(d:Nat)(p:Addr)(H:Hp)(Q:VK):Prop:=∃(wd:Int)(ins oth:List Str)(ss:List Stm)(a b r:Addr)(ys:List V)(g:List Addr),ProgAt K C H p wd ins oth ss a b r ys g/\bY ss<d/\3 * bc ss<3900/\
 ∀bl xs H',Same H H'->H bl=none->H' bl=some (.lst xs)->Paired (BlkV K (fun c=>H c=none) H' bl) xs (FZ.aO ss)->Q (.ref bl) H'
noncomputable def kW(K:W.Frag)(C:Addr)(d:Nat):Sp:=fun vs H Q _=>∃p:Addr,vs=[.ref p]/\kx K C d p H Q
theorem xb{C p:Addr}{d:Nat}{H:Hp}{Q:VK}{E:XK}:kW K C d [.ref p] H Q E=kx K C d p H Q:=propext ⟨by rintro ⟨_,e,q⟩;cases e;exact q,fun q=>⟨_,rfl,q⟩⟩
theorem Ac{C p:Addr}{H:Hp}{Q:VK}{E:XK}:pb C [.ref p] H Q E=∃dx,H p=some (.ins C dx [])/\∀bl,H bl=none->Q .non (upd (upd H bl (.lst [])) p (.ins C dx [("blocks",.ref bl)])):=propext ⟨by rintro ⟨_,dx,e,q⟩;cases e;exact ⟨dx,q⟩,fun ⟨dx,q⟩=>⟨_,dx,rfl,q⟩⟩
theorem wC(T:Txt K mg t):FnOk P w K mg base CX0 1 t.f_1 t.e_1 ["self"] (pb t.C_Parting):=by
 refine T.d_1.F.ok Gv ∅ ?_;rintro cdv A outer s H vs Q E hr ⟨p,dx,rfl,hp,q⟩;refine ⟨_,
   (XSs.h
   (aj
    (dQ (yqv 0 vl) (aQ ae) rfl))),?_⟩
 rw [show aM _ [V.ref p]=[some (.ref p)] from rfl];simp_arith [];intro bl hbl;have np:p≠bl:=ao hp hbl;refine nT (by rw [av np];exact hp) T.c_Parting.cl T.n_Parting_blocks (by simp) ?_;rw [eD (by rfl),yX];exact q bl hbl
theorem jB(T:Txt K mg t):∀d,FnOk P w K mg base CX0 (3 * d+3) t.f_6 t.e_6 ["self","row","block"] (dz K t.C_Parting d fun _=>True)/\FnOk P w K mg base CX0 (3 * d+4) t.f_5 t.e_5 ["self","rows","block"] (i5 K t.C_Parting d)
 |0=>by
  have h0:FnOk P w K mg base CX0 (3 * 0+3) t.f_6 t.e_6 ["self","row","block"] (dz K t.C_Parting 0 fun _=>True):=⟨fun vs H Q E h=>by obtain ⟨_,_,_,_,_,_,_,_,_,_,_,_,_,_,_,h,_⟩:=h;omega,fun _ _ _ _ _ _ _ _ _ _ _ _ _ h=>by obtain ⟨_,_,_,_,_,_,_,_,_,_,_,_,_,_,_,h,_⟩:=h;omega⟩
  exact ⟨h0,kR T 0 h0⟩
 |d+1=>by have h1:=xB T d (zm T d (jB T d).2) (Au T d (jB T d).2);exact ⟨h1,kR T (d+1) h1⟩
theorem uq(T:Txt K mg t)(d:Nat):FnOk P w K mg base CX0 (3 * d+5) t.f_0 t.e_0 ["program"] (kW K t.C_Program d):=by
 have G_1:=@wC P w K mg base t T;have G_2:=@rX P w K mg base t T;have G_5:=(@jB P w K mg base t T d).2;refine T.d_0.F.ok sc_0 ∅ ?_;rintro cdv A outer s H vs Q E hr ⟨p,rfl,wd,ins,oth,ss,a,b,r,ys,g,hP,hd,hm,q⟩;refine ⟨_,
   (XSs.h
   (ai
    (ax (i:=1) sc_0.nd rfl ll (qQ T.c_Parting T.d_1 G_1 hr.m gl))
   (ai
    (ax (i:=2) sc_0.nd rfl ll (jX T.c_Parting.cl T.d_2 G_2 hr.m (yqv 1 vl)))
   (ai
    (g6 (aX T.c_Parting.cl T.d_5 G_5 hr.m (yqv 1 vl) (aa (cH (yqv 0 vl) rfl) (aa (aN (aa (aQ ae) (aa (aN (aa aE ae)) ae))) ae))) (mD (cH (yqv 1 vl) rfl) (yqv 2 vl) jP))
   (aj
    (aq (cH (yqv 1 vl) rfl))))))),?_⟩
 rw [show aM _ [V.ref p]=[some (.ref p),none,none] from rfl];simp_arith [mh,fA];intro x dx hx hdx hne;simp_arith [Ac,mh,fA];refine ⟨dx,af,fun bl hbl=>?_⟩;have hbl0:H bl=none:=d6 (d6 hbl);have nxb:x≠bl:=ao af hbl;have e2:upd (upd (upd (upd H dx (.own x)) x (.ins t.C_Parting dx [])) bl (.lst [])) x (.ins t.C_Parting dx [("blocks",.ref bl)]) bl=some (.lst []):=by rw [av nxb.symm];exact af
 have hQ:PartAt K t.C_Parting (fun c=>H c=none) (upd (upd (upd (upd H dx (.own x)) x (.ins t.C_Parting dx [])) bl (.lst [])) x (.ins t.C_Parting dx [("blocks",.ref bl)])) x bl []:=
  ⟨⟨dx,af⟩,fun c hc=>d6 (d6 (d6 (d6 hc))),[],e2,.nil⟩
 have s2:Same H (upd (upd (upd (upd H dx (.own x)) x (.ins t.C_Parting dx [])) bl (.lst [])) x (.ins t.C_Parting dx [("blocks",.ref bl)])):=(((Same.upd hdx).updM hx).updM hbl0).updM hx;generalize upd (upd (upd (upd H dx (.own x)) x (.ins t.C_Parting dx [])) bl (.lst [])) x (.ins t.C_Parting dx [("blocks",.ref bl)])=H2 at *;obtain ⟨dx2,ob2⟩:=hQ.ob;refine bL ob2 rfl ⟨_,bl,[],hQ,by decide,fun H3 sx3 hP3=>?_⟩;have n0:∀c o,H c=some o->c≠bl:=fun c o e=>ao e hbl0;have s3:Same H H3:=fun c o e=>sx3 c o (s2 _ _ e) (n0 c o e);obtain ⟨dx3,ob3⟩:=hP3.ob;obtain ⟨dp,obp⟩:=hP.ob;refine bL ob3 rfl ?_;refine iV (s3 _ _ obp) T.c_Program.cl T.n_Program_rows rfl ?_;simp_arith [mh,fA];intro a4 ha4 e4 he4 q4 hq4;obtain ⟨xs3,hbl3,_⟩:=hP3.bs;obtain ⟨sm,hb4⟩:=fQ (K:=K) (N:=fun c=>H c=none) (ed:=.stop) (ds:=[]) hbl3 (hP3.nw _ ha4) ha4 .nil he4 hq4;rw [show dk .stop=[V.str "stop"] from rfl] at sm hb4;have hP4:=hP3.same sm;have s4:=s3.trans sm;generalize upd (upd (upd H3 a4 _) e4 _) q4 _=G at sm hb4 hP4 s4 ⊢;have nf:bl∉g:=fun z=>by obtain ⟨zs,hz⟩:=hP.st.tracked bl z;rw [hbl0] at hz;cases hz
 refine ⟨_,bl,_,_,ys,ss,g,hP4,hb4,s4 _ _ hP.rs,hP.st.same s4,n0 _ _ hP.rs,nf,hd,by simp;omega,by simp,fun y H5 sx5 hP5 hb5 _=>?_⟩;rw [yX] at hP5 hb5;have eB:FZ.aO ss=(FZ.aP ss ⟨[],.stop⟩ [⟨[],.stop⟩]).2.set 0 (FZ.aP ss ⟨[],.stop⟩ [⟨[],.stop⟩]).1:=rfl;have ho:=FZ.bo ss ⟨[],.stop⟩ [⟨[],.stop⟩];generalize FZ.aP ss ⟨[],.stop⟩ [⟨[],.stop⟩]=o at *;have s5:Same H H5:=fun c o e=>sx5 c o (s4 _ _ e) (n0 c o e);obtain ⟨dx5,ob5⟩:=hP5.ob;obtain ⟨xs5,hbl5,hxs5⟩:=hP5.bs;have lx5:=hxs5.length;rw [cy] at ho;refine iV ob5 T.c_Parting.cl T.n_Parting_blocks rfl ?_;refine ⟨bl,xs5,_,0,rfl,rfl,hbl5,FL.lY (k:=0) (by omega),?_⟩;have sx6:SameX bl H5 (upd H5 bl (.lst (xs5.set 0 y))):=SameX.upd;refine iV (sx6 _ _ ob5 hP5.ne) T.c_Parting.cl T.n_Parting_blocks rfl ?_;refine q bl _ _ (fun c o e=>sx6 c o (s5 _ _ e) (n0 c o e)) hbl0 af ?_;rw [eB];exact FL.Paired.put (hb5.sx sx6 hbl5) _ (FL.Paired.imp hxs5 fun y _ c _ h=>h.sx sx6 hbl5)
variable {E:XK} {H:Hp} {Q:VK} {a:Addr}
noncomputable def vj(K:W.Frag)(o:Opd)(a:Addr)(top:Int)(H:Hp)(Q:VK):Prop:=∃(ns:List Str)(wd:Int),top=1 * 2 ^ wd.toNat/\SqL K H a (ns.map V.str)/\Opd.good ns wd o/\Q (.bl true) H
noncomputable def xI(K:W.Frag):Sp:=fun vs H Q _=>∃(o:Opd)(a:Addr)(top:Int),vs=[o.v,.ref a,.int top]/\vj K o a top H Q
noncomputable def mV(K:W.Frag)(q:Addr)(a:Addr)(top:Int)(H:Hp)(Q:VK):Prop:=∃(ns:List Str)(wd:Int)(d:Deed),top=1 * 2 ^ wd.toNat/\SqL K H a (ns.map V.str)/\SqT K H q d.vs/\d.fine/\Deed.good ns wd d/\∀H',Same H H'->Q (.bl true) H'
noncomputable def oS(K:W.Frag):Sp:=fun vs H Q _=>∃(q:Addr)(a:Addr)(top:Int),vs=[.ref q,.ref a,.int top]/\mV K q a top H Q
noncomputable def qY(K:W.Frag)(q:Addr)(a:Addr)(m:Int)(H:Hp)(Q:VK):Prop:=∃(ns:List Str)(n:Nat)(e:FZ.Ed),m=n/\SqL K H a (ns.map V.str)/\SqT K H q (dk e)/\(∀i∈e.tg,i<n)/\(∀n i j,e=.choose n i j->n∈ns)/\∀H',Same H H'->Q (.bl true) H'
noncomputable def sF(K:W.Frag):Sp:=fun vs H Q _=>∃(q:Addr)(a:Addr)(m:Int),vs=[.ref q,.ref a,.int m]/\qY K q a m H Q
theorem lW{o:FB.Opd}(h:Q (.bl (iu o.v)) H):x6 K [o.v,.ty "str"] H Q:=by
 cases o with
 |box n=>exact ⟨_,_,_,rfl,by decide +kernel,.str,h⟩
 |word i=>exact ⟨_,_,_,rfl,by decide +kernel,.int,h⟩
theorem oC{o:Opd}{top:Int}:xI K [o.v,.ref a,.int top] H Q E=vj K o a top H Q:=
 propext ⟨by
  rintro ⟨o',_,_,e,q⟩;have e2:o=o':=by
   injection e with e1 _
   cases o<;>cases o'<;>first | (injection e1 with e1;rw [e1]) | cases e1
  subst e2;injection e with _ e
  cases e
  exact q,fun q=>⟨o,a,top,rfl,q⟩⟩
theorem su{q:Addr}{top:Int}:oS K [.ref q,.ref a,.int top] H Q E=mV K q a top H Q:=propext ⟨by rintro ⟨_,_,_,e,q⟩;cases e;exact q,fun q=>⟨_,_,_,rfl,q⟩⟩
theorem xh{q:Addr}{m:Int}:sF K [.ref q,.ref a,.int m] H Q E=qY K q a m H Q:=propext ⟨by rintro ⟨_,_,_,e,q⟩;cases e;exact q,fun q=>⟨_,_,_,rfl,q⟩⟩
theorem gU{n:Str}{ns:List Str}(h:n∈ns):inV (.str n) (ns.map V.str)=true:=by unfold inV;rw [yJ,zq78];exact ⟨n,h,by simp [eqV]⟩
theorem BP(T:Txt K mg t):FnOk P w K mg base CX0 2 t.f_43 t.e_43 ["_law_found","_law_names_here","_law_top"] (xI K):=by
 have G_27:=@oy P w K mg base t T;refine T.d_43.F.ok Ft ∅ ?_;rintro cdv A outer s H vs Q E hr ⟨o,a,top,rfl,ns,wd,rfl,ha,ho,q⟩;refine ⟨_,
   (XSs.h
   (ai
    (aF (bi (aw bN gl T.z_isinstance boot_isinstance (aa (yqv 0 vl) (aa (bS (v:=.ty "str") gl T.z_str boot_str rfl) ae))))
     (aj
      (aq (aR cz (yqv 0 vl) (yqv 1 vl) rfl)))
     aB)
   (aj
    (aq (cq (ap T.d_27 G_27 hr.m (aa (yqv 0 vl) ae) gl) (cq (aR ym ac (yqv 0 vl) (aA _)) (cZ (aR dX (yqv 0 vl) (yqv 2 vl) (aA _))))))))),?_⟩
 rw [show aM _ [o.v,V.ref a,V.int (1 * 2 ^ wd.toNat)]=[some o.v,some (.ref a),some (.int (1 * 2 ^ wd.toNat))] from rfl];simp_arith [];refine lW ⟨_,rfl,?_⟩
 cases o with
 |box n=>
  rw [if_pos (by rfl)];refine ⟨_,.inl ha,rfl,by simp [bz],?_⟩;have hi:inV (Opd.box n).v (ns.map V.str)=true:=gU ho;rw [hi];exact q
 |word i=>
  have ho':0<=i/\i<2 ^ wd.toNat:=ho;rw [show iu (Opd.word i).v=false from rfl,if_neg zq7,show (Opd.word i).v=.int i from rfl];simp_arith [iy];rw [if_pos trivial,if_pos (by simpa using ho'.1)];have e:decide (i<1 * 2 ^ wd.toNat)=true:=by simpa using ho'.2
  rw [e];exact q
theorem lX{p:Addr}{xs:List V}(hp:SqT K H p xs)(h:Q (.bl true) H):x6 K [.ref p,.ty "tuple"] H Q:=⟨_,_,_,rfl,by decide +kernel,.tup hp,h⟩
theorem rQ{p:Addr}{xs:List V}(hp:SqL K H p xs)(h:Q (.bl true) H):x6 K [.ref p,.ty "list"] H Q:=⟨_,_,_,rfl,by decide +kernel,.lst hp,h⟩
theorem j6{n:Str}(h:Q (.bl true) H):x6 K [.str n,.ty "str"] H Q:=⟨_,_,_,rfl,by decide +kernel,.str,h⟩
theorem tQ(d:Deed):∃f x l,d.vs=.str f::x::l:=by
 cases d with
 |tell a=>exact ⟨_,_,_,rfl⟩
 |copy n a=>exact ⟨_,_,_,rfl⟩
 |op f n a c=>exact ⟨_,_,_,rfl⟩
theorem tS{ns:List Str}{wd:Int}{d:Deed}(h:Deed.good ns wd d):(∃o,d=.tell o)\/∃(f n:Str)(os:List Opd),d.vs=.str f::.str n::os.map Opd.v/\¬f="tell"/\n∈ns/\(∀o∈os,Opd.good ns wd o)/\((f="copy"/\os.length=1)\/(¬f="copy"/\f∈opsL/\os.length=2)):=by
 cases d with
 |tell a=>exact .inl ⟨a,rfl⟩
 |copy n a=>exact .inr ⟨_,n,[a],rfl,by decide +kernel,h.1,fun o ho=>by rw [zq2.mp ho];exact h.2,.inl ⟨rfl,rfl⟩⟩
 |op f n a c=>
  obtain ⟨h1,h2,h3,h4⟩:=h;have hne:¬f="tell"/\¬f="copy":=by refine ⟨?_,?_⟩<;>(rintro rfl;revert h1;decide +kernel)
  refine .inr ⟨f,n,[a,c],rfl,hne.1,h2,fun o ho=>?_,.inr ⟨hne.2,h1,rfl⟩⟩;rcases zq6.mp ho with z | z
  ·rw [z];exact h3
  ·rw [zq2.mp z];exact h4
theorem wn(T:Txt K mg t):FnOk P w K mg base CX0 3 t.f_44 t.e_44 ["_law_found","_law_names_here","_law_top"] (oS K):=by
 have G_43:=@BP P w K mg base t T;refine T.d_44.F.ok sc_44 ∅ ?_;rintro cdv A outer s H vs Q E hr ⟨p,a,top,rfl,ns,wd,d,rfl,ha,hp,hf,hd,q⟩;refine ⟨_,
   (XSs.h
   (bD
    (aF (bU (cj (bR (bi (aw bN gl T.z_isinstance boot_isinstance (aa (yqv 0 vl) (aa (bS (v:=.ty "tuple") gl T.z_tuple boot_tuple rfl) ae))))) (cj (ar dX (aw ay gl T.z_len PySem.boot_len (aa (yqv 0 vl) ae)) ac (aA _)) (cB (bR (bi (aw bN gl T.z_isinstance boot_isinstance (aa (ak au (yqv 0 vl) ac) (aa (bS (v:=.ty "str") gl T.z_str boot_str rfl) ae)))))))))
     (aj
      (aq c6))
     aB)
   (ai
    (aF (ar aT (ak au (yqv 0 vl) ac) aE (aA _))
     (aj
      (aq (cq (aR aT (aw ay gl T.z_len PySem.boot_len (aa (yqv 0 vl) ae)) ac (aA _)) (cZ (ap T.d_43 G_43 hr.m (aa (ak au (yqv 0 vl) ac) (aa (yqv 1 vc) (aa (yqv 2 vc) ae))) gl)))))
     aB)
   (bD
    (aF (ar aT (ak au (yqv 0 vl) ac) aE (aA _))
     (aj
      (aF (ar iT (aw ay gl T.z_len PySem.boot_len (aa (yqv 0 vl) ae)) ac (aA _))
       (aj
        (aq c6))
       aB))
     (aj
      (aF (bU (cj (ar dm (ak au (yqv 0 vl) ac) (aQ (cW (by rfl))) rfl) (cB (ar iT (aw ay gl T.z_len PySem.boot_len (aa (yqv 0 vl) ae)) ac (aA _)))))
       (aj
        (aq c6))
       aB)))
   (ai
    (cQ (i:=3) sc_44.nd rfl ll rfl (by kernel_rfl) (tns:=["_law_operand_here"]) (cns:=["_law_names_here","_law_top"]) (ci:=[1,2]) rfl (CompSc.of (by kernel_rfl)) (mE (bq mq (yqv 0 vl) (bh ac) c7)) (fun _=>(aC (i:=1) (show List.Nodup [(".0":Str),("_law_operand_here":Str),("_law_names_here":Str),("_law_top":Str)] by decide +kernel) rfl ll (Or.inr (by kernel_rfl)))) (fun _=>(dP (bR (bi (ap T.d_43 G_43 hr.m (aa (yqv 1 vl) (aa (yqv 2 vc) (aa (yqv 3 vc) ae))) gl))))) (fun _=>(yqv 1 vl)))
   (aj
    (aq (cq (aw bN gl T.z_isinstance boot_isinstance (aa (ak au (yqv 0 vl) ac) (aa (bS (v:=.ty "str") gl T.z_str boot_str rfl) ae))) (cq (aR cz (ak au (yqv 0 vl) ac) (yqv 1 vc) rfl) (cZ (aR aT (aw ay gl T.z_len PySem.boot_len (aa (yqv 3 vl) ae)) ac (aA _)))))))))))),?_⟩
 rw [show aM _ [V.ref p,V.ref a,V.int (1 * 2 ^ wd.toNat)]=[some (.ref p),some (.ref a),some (.int (1 * 2 ^ wd.toNat)),none] from rfl];simp_arith [];refine ⟨fun σ H'=>H'=H/\σ=[some (.ref p),some (.ref a),some (.int (1 * 2 ^ wd.toNat)),none],?_,?_⟩
 ·obtain ⟨f,x,l,hd⟩:=tQ d;rw [hd] at hp;refine lX hp ⟨_,rfl,?_⟩;rw [if_neg (by decide)];refine ⟨_,.inr hp,?_⟩;rw [if_neg (by simp;omega)];refine ⟨_,_,hp,ba (j:=0) rfl,j6 ⟨_,rfl,?_⟩⟩;rw [if_neg (by decide)];exact ⟨rfl,rfl⟩
 rintro σ H1 ⟨rfl,rfl⟩;simp_arith [oC];rcases tS hd with ⟨o,rfl⟩ | ⟨f,n,os,ed,f1,hn,hos,hk⟩
 ·refine ⟨_,_,hp,rfl,?_⟩;simp_arith [oC];rw [if_pos (by decide)];refine ⟨_,.inr hp,?_⟩;rw [if_pos (by rfl)];refine ⟨_,_,hp,rfl,?_⟩;rw [oC];exact ⟨ns,wd,rfl,ha,hd,q _ (Same.refl _)⟩
 ·rw [ed] at hp;refine ⟨_,_,hp,ba (j:=0) rfl,?_⟩;simp_arith [oC];rw [if_neg (by simpa using f1)];refine ⟨fun σ H'=>Same H1 H'/\σ=[some (.ref p),some (.ref a),some (.int (1 * 2 ^ wd.toNat)),none],?_,?_⟩
  ·refine ⟨_,_,hp,ba (j:=0) rfl,?_⟩;simp_arith [];rcases hk with ⟨k1,k2⟩ | ⟨k1,k2,k3⟩
   ·rw [if_pos (by simpa using k1)];refine ⟨_,.inr hp,?_⟩;rw [if_neg (by simp [k2])];exact Same.refl _
   ·rw [if_neg (by simpa using k1)];refine ⟨_,_,hp,ba (j:=0) rfl,fun p1 hp1=>?_⟩;have t1:=Same.upd (o:=.lst [V.str "plus",V.str "less",V.str "and",V.str "or",V.str "xor",V.str "below",V.str "same"]) hp1;refine ⟨_,.inl (SqL.of af),rfl,rfl,?_⟩;have hi:inV (.str f) [V.str "plus",V.str "less",V.str "and",V.str "or",V.str "xor",V.str "below",V.str "same"]=true:=gU (ns:=opsL) k2;rw [hi,if_neg (by decide)];refine ⟨_,.inr (t1.seqT hp),?_⟩;rw [if_neg (by simp [k3])];exact t1
  rintro σ H2 ⟨s2,rfl⟩;simp_arith [];have l2:1<=os.length/\os.length<=2:=by rcases hk with ⟨_,k⟩ | ⟨_,_,k⟩<;>omega
  have hc:dU (V.str f::V.str n::os.map Opd.v) (some 2) none=os.map Opd.v:=by rw [il (by decide)];rfl
  refine ⟨_,s2.seqT hp,by simp [HT.sIx],fun p1 hp1=>?_⟩;rw [hc];have t1:=Same.upd (o:=.tup (os.map Opd.v)) hp1;have s3:=s2.trans t1;refine ⟨⟨_,SqT.of af⟩,fun acc hacc bk=>?_⟩;refine jm (fun _=>false) id (by rw [sizeLine_eq,zq1];omega) (SqT.of af) hacc (fun x hm H4 Q' s4 h=>?_) (fun _ _ _ _ _ z=>by cases z) ?_
  ·obtain ⟨o,ho,rfl⟩:=zq20.mp hm;simp_arith [oC];exact ⟨ns,wd,rfl,(s3.trans s4).seq ha,hos o ho,_,rfl,h⟩
  ·rw [show List.map id (List.filter (fun _:V=>false) (os.map Opd.v))=[] by simp];have t5:=Same.upd (o:=.lst []) hacc;have s5:=s3.trans t5;refine ⟨_,_,s5.seqT hp,ba (j:=1) rfl,j6 ⟨_,rfl,?_⟩⟩;rw [if_pos rfl];refine ⟨_,_,s5.seqT hp,ba (j:=1) rfl,?_⟩;refine ⟨_,.inl (s5.seq ha),rfl,by simp [bz],?_⟩;have hi:inV (.str n) (ns.map V.str)=true:=gU hn;rw [hi,if_pos rfl];exact ⟨_,.inl (SqL.of af),q _ s5⟩
theorem zz(T:Txt K mg t):FnOk P w K mg base CX0 2 t.f_45 t.e_45 ["_law_found","_law_names_here","_law_many"] (sF K):=by
 have G_27:=@oy P w K mg base t T;refine T.d_45.F.ok Fu ∅ ?_;rintro cdv A outer s H vs Q E hr ⟨p,a,m,rfl,ns,n,e,rfl,ha,hp,ht,hn,q⟩;refine ⟨_,
   (XSs.h
   (bD
    (aF (bU (cj (bR (bi (aw bN gl T.z_isinstance boot_isinstance (aa (yqv 0 vl) (aa (bS (v:=.ty "tuple") gl T.z_tuple boot_tuple rfl) ae))))) (cj (ar aT (aw ay gl T.z_len PySem.boot_len (aa (yqv 0 vl) ae)) ac (aA _)) (cB (bR (bi (aw bN gl T.z_isinstance boot_isinstance (aa (ak au (yqv 0 vl) ac) (aa (bS (v:=.ty "str") gl T.z_str boot_str rfl) ae)))))))))
     (aj
      (aq c6))
     aB)
   (ai
    (aF (ar aT (ak au (yqv 0 vl) ac) aE (aA _))
     (aj
      (aq (aR aT (aw ay gl T.z_len PySem.boot_len (aa (yqv 0 vl) ae)) ac (aA _))))
     aB)
   (ai
    (aF (ar aT (ak au (yqv 0 vl) ac) aE (aA _))
     (aj
      (aq (cq (aR aT (aw ay gl T.z_len PySem.boot_len (aa (yqv 0 vl) ae)) ac (aA _)) (cq (ap T.d_27 G_27 hr.m (aa (ak au (yqv 0 vl) ac) ae) gl) (cq (aR ym ac (ak au (yqv 0 vl) ac) (aA _)) (cZ (aR dX (ak au (yqv 0 vl) ac) (yqv 2 vc) (aA _))))))))
     aB)
   (ai
    (aF (bU (cj (ar iT (ak au (yqv 0 vl) ac) aE (aA _)) (cj (ar iT (aw ay gl T.z_len PySem.boot_len (aa (yqv 0 vl) ae)) ac (aA _)) (cj (bR (bi (aw bN gl T.z_isinstance boot_isinstance (aa (ak au (yqv 0 vl) ac) (aa (bS (v:=.ty "str") gl T.z_str boot_str rfl) ae))))) (cB (ar dm (ak au (yqv 0 vl) ac) (yqv 1 vl) rfl))))))
     (aj
      (aq c6))
     aB)
   (aj
    (aq (aR aT (aw ay gl T.z_len PySem.boot_len (aa (bu (tns:=["_law_k"]) (cns:=["_law_many"]) (ci:=[2]) rfl (CompSc.of (by kernel_rfl)) (mE (bq mq (yqv 0 vl) (bh ac) c7)) (fun _=>(aC (i:=1) (show List.Nodup [(".0":Str),("_law_k":Str),("_law_many":Str)] by decide +kernel) rfl ll (Or.inr (by kernel_rfl)))) (fun _=>(dP (bU (cj (bR (bi (ap T.d_27 G_27 hr.m (aa (yqv 1 vl) ae) gl))) (cj (ar dX (yqv 1 vl) ac (aA _)) (cB (ar jY (yqv 1 vl) (yqv 2 vc) (aA _)))))))) (fun _=>(yqv 1 vl))) ae)) ac (aA _))))))))),?_⟩
 rw [show aM _ [V.ref p,V.ref a,V.int n]=[some (.ref p),some (.ref a),some (.int n)] from rfl];simp_arith [];refine ⟨fun σ H'=>H'=H/\σ=[some (.ref p),some (.ref a),some (.int n)],?_,?_⟩
 ·obtain ⟨f,l,hd⟩:∃f l,dk e=.str f::l:=by cases e<;>exact ⟨_,_,rfl⟩
  rw [hd] at hp;refine lX hp ⟨_,rfl,?_⟩;rw [if_neg (by decide)];refine ⟨_,.inr hp,?_⟩;rw [if_neg (by simp;omega)];refine ⟨_,_,hp,ba (j:=0) rfl,j6 ⟨_,rfl,?_⟩⟩;rw [if_neg (by decide)];exact ⟨rfl,rfl⟩
 rintro σ H1 ⟨rfl,rfl⟩;simp_arith []
 cases e with
 |stop=>
  refine ⟨_,_,hp,rfl,?_⟩;simp_arith [];rw [if_pos (by decide)];exact ⟨_,.inr hp,q _ (Same.refl _)⟩
 |go i=>
  have hi:i<n:=ht i (by simp [FZ.Ed.tg]);refine ⟨_,_,hp,rfl,?_⟩;simp_arith [];rw [if_neg (by decide +kernel)];refine ⟨_,_,hp,rfl,?_⟩;simp_arith [];rw [if_pos (by decide)];refine ⟨_,.inr hp,?_⟩;rw [if_pos (by rfl)];refine ⟨_,_,hp,rfl,?_⟩;simp_arith [iy];rw [if_pos trivial];refine ⟨_,_,hp,rfl,?_⟩;simp_arith [];rw [if_pos (by simp)];refine ⟨_,_,hp,rfl,?_⟩;simp_arith [];have e:decide ((i:Int)<n)=true:=by simpa using hi
  rw [e];exact q _ (Same.refl _)
 |choose m i j=>
  have hi:i<n:=ht i (by simp [FZ.Ed.tg]);have hj:j<n:=ht j (by simp [FZ.Ed.tg]);have hm:=hn m i j rfl;refine ⟨_,_,hp,rfl,?_⟩;simp_arith [];rw [if_neg (by decide +kernel)];refine ⟨_,_,hp,rfl,?_⟩;simp_arith [];rw [if_neg (by decide +kernel)];refine ⟨_,_,hp,rfl,?_⟩;simp_arith [];rw [if_neg (by decide)];refine ⟨_,.inr hp,?_⟩;rw [if_neg (by simp [dk])];refine ⟨_,_,hp,rfl,j6 ⟨_,rfl,?_⟩⟩;rw [if_neg (by decide)];refine ⟨_,_,hp,rfl,_,.inl ha,rfl,by simp [bz],?_⟩;have hi2:inV (.str m) (ns.map V.str)=true:=gU hm;rw [hi2,if_neg (by decide)];have hc:dU (dk (.choose m i j)) (some 2) none=[.int i,.int j]:=by rw [il (by decide)];rfl
  refine ⟨_,hp,by simp [HT.sIx,dk],fun p1 hp1=>?_⟩;rw [hc];have t1:=Same.upd (o:=.tup [V.int i,V.int j]) hp1;refine ⟨⟨_,SqT.of af⟩,fun acc hacc bk=>?_⟩;refine jm (fun _=>false) id (by rw [sizeLine_eq];simp) (SqT.of af) hacc (fun x hx H4 Q' s4 h=>?_) (fun _ _ _ _ _ z=>by cases z) ?_
  ·obtain ⟨k,hk,rfl⟩:∃k:Nat,k<n/\x=.int k:=by
    rcases zq6.mp hx with z | z
    ·exact ⟨i,hi,z⟩
    ·exact ⟨j,hj,zq2.mp z⟩
   simp_arith [iy];rw [if_neg (by simp),decide_eq_false (by omega)];exact h
  ·rw [show List.map id (List.filter (fun _:V=>false) [V.int i,V.int j])=[] by simp];have t5:=Same.upd (o:=.lst []) hacc;exact ⟨_,.inl (SqL.of af),q _ (t1.trans t5)⟩
structure DrN(K:W.Frag)(H:Hp)(q:Addr)(wd:Int)(ins oth:List Str)(pr:Addr):Prop where
 ex:∃pi po,SqT K H q [.int wd,.ref pi,.ref po,.ref pr]/\H pi=some (.lst (ins.map V.str))/\H po=some (.lst (oth.map V.str))
 few:(ins++oth).length<=8
 w1:1<=wd
 w8:wd<=8
noncomputable def qZ(K:W.Frag)(bl:Addr)(q:Addr)(H:Hp)(Q:VK):Prop:=∃(N:Addr->Prop)(xs:List V)(B:List FZ.Blk)(wd:Int)(ins oth:List Str)(pr:Addr),H bl=some (.lst xs)/\Paired (BlkV K N H bl) xs B/\FZ.gI (ins++oth) wd B.length B/\0<B.length/\B.length<=5000/\DrN K H q wd ins oth pr/\∀H',Same H H'->Q (.bl true) H'
noncomputable def sG(K:W.Frag):Sp:=fun vs H Q _=>∃(bl:Addr)(q:Addr),vs=[.ref bl,.ref q]/\qZ K bl q H Q
theorem Cv{bl q:Addr}{H:Hp}{Q:VK}{E:XK}:sG K [.ref bl,.ref q] H Q E=qZ K bl q H Q:=propext ⟨by rintro ⟨_,_,e,q⟩;cases e;exact q,fun q=>⟨_,_,rfl,q⟩⟩
theorem zA(T:Txt K mg t):FnOk P w K mg base CX0 4 t.f_46 t.e_46 ["_law_found","_law_drawn_here"] (sG K):=by
 have G_44:=@wn P w K mg base t T;have G_45:=@zz P w K mg base t T;refine T.d_46.F.ok sc_46 ∅ ?_;rintro cdv A outer s H vs Q E hr ⟨bl,p,rfl,N,xs,B,wd,ins,oth,pr,hbl,hxs,hG,b0,b1,hD,q⟩;refine ⟨_,
   (XSs.h
   (ai
    (ax (i:=2) sc_46.nd rfl ll (am gE (ak au (yqv 1 vl) ac) (ak au (yqv 1 vl) ac)))
   (bD
    (aF (bU (cj (bR (bi (aw bN gl T.z_isinstance boot_isinstance (aa (yqv 0 vl) (aa (bS (v:=.ty "list") gl T.z_list boot_list rfl) ae))))) (cB (ar aT (aw ay gl T.z_len PySem.boot_len (aa (yqv 0 vl) ae)) ac (aA _)))))
     (aj
      (aq c6))
     aB)
   (ai
    (bF PassesOwn.never rfl (aZ (yqv 0 vl)) (aC (i:=3) sc_46.nd rfl ll)
     (bD
      (aF (bU (cj (bR (bi (aw bN gl T.z_isinstance boot_isinstance (aa (yqv 3 vl) (aa (bS (v:=.ty "tuple") gl T.z_tuple boot_tuple rfl) ae))))) (cj (ar iT (aw ay gl T.z_len PySem.boot_len (aa (yqv 3 vl) ae)) ac (aA _)) (cB (bR (bi (aw bN gl T.z_isinstance boot_isinstance (aa (ak au (yqv 3 vl) ac) (aa (bS (v:=.ty "list") gl T.z_list boot_list rfl) ae)))))))))
       (aj
        (aq c6))
       aB)
     (bD
      (bF PassesOwn.never rfl (aZ (ak au (yqv 3 vl) ac)) (aC (i:=4) sc_46.nd rfl ll)
       (aj
        (aF (bR (bi (ap T.d_44 G_44 hr.m (aa (yqv 4 vl) (aa (yqv 2 vl) (aa (am f7 ac (ak au (yqv 1 vl) ac)) ae))) gl)))
         (aj
          (aq c6))
         aB)))
     (aj
      (aF (bR (bi (ap T.d_45 G_45 hr.m (aa (ak au (yqv 3 vl) ac) (aa (yqv 2 vl) (aa (aw ay gl T.z_len PySem.boot_len (aa (yqv 0 vl) ae)) ae))) gl)))
       (aj
        (aq c6))
       aB)))))
   (aj
    (aq c6)))))),?_⟩
 rw [show aM _ [V.ref bl,V.ref p]=[some (.ref bl),some (.ref p),none,none,none] from rfl];simp_arith [];obtain ⟨pi,po,hq,hi,ho⟩:=hD.ex;have hfew:=hD.few;rw [zq3] at hfew;refine ⟨_,_,hq,rfl,_,_,hq,rfl,pi,po,_,_,rfl,rfl,hi,ho,by rw [zq1,zq1,sizeLine_eq];omega,fun pn hpn=>?_⟩;have t1:=Same.upd (o:=.lst (ins.map V.str++oth.map V.str)) hpn;have en:upd H pn (.lst (ins.map V.str++oth.map V.str)) pn=some (.lst ((ins++oth).map V.str)):=by rw [af,cD]
 generalize upd H pn _=H1 at t1 en ⊢;have lx:=hxs.length;refine ⟨fun σ H'=>H'=H1/\σ=[some (.ref bl),some (.ref p),some (.ref pn),none,none],?_,?_⟩
 ·refine rQ (SqL.of (t1 _ _ hbl)) ⟨_,rfl,?_⟩;rw [if_neg (by decide)];refine ⟨_,.inl (SqL.of (t1 _ _ hbl)),?_⟩;rw [if_neg (by simp;intro z;rw [z] at lx;simp at lx;omega)];exact ⟨rfl,rfl⟩
 rintro σ H2 ⟨rfl,rfl⟩;simp_arith [];refine ⟨⟨_,SqL.of (t1 _ _ hbl)⟩,?_⟩;refine cY (xs:=xs) (fun i σ H'=>Same H2 H'/\∃o3 o4,σ=[some (.ref bl),some (.ref p),some (.ref pn),o3,o4]) ⟨Same.refl _,_,_,rfl⟩ (fun i σ H' _ h=>SqL.of (h.1 _ _ (t1 _ _ hbl))) ?_ ?_
 ·rintro i x σ H3 hx ⟨s3,o3,o4,rfl⟩;obtain ⟨b,hb,hbv⟩:=Paired.get hxs hx;have s03:=t1.trans s3;have hg:=hG b (zq8 hb);obtain ⟨qb,ab,eb,vs,rfl,v1,v2,v3,v4,v5,v6⟩:=hbv.same s03;simp_arith [];refine ⟨fun σ H'=>H'=H3/\σ=[some (.ref bl),some (.ref p),some (.ref pn),some (.ref qb),o4],?_,?_⟩
  ·refine lX (SqT.of v1) ⟨_,rfl,?_⟩;rw [if_neg (by decide)];refine ⟨_,.inr (SqT.of v1),?_⟩;rw [if_neg (by simp)];refine ⟨_,_,SqT.of v1,rfl,rQ (SqL.of v2) ⟨_,rfl,?_⟩⟩;rw [if_neg (by decide)];exact ⟨rfl,rfl⟩
  rintro σ H4 ⟨rfl,rfl⟩;simp_arith [];refine ⟨fun σ H'=>Same H4 H'/\∃o4,σ=[some (.ref bl),some (.ref p),some (.ref pn),some (.ref qb),o4],?_,?_⟩
  ·refine ⟨_,_,SqT.of v1,rfl,_,rfl,⟨_,SqL.of v2⟩,?_⟩;refine cY (xs:=vs) (fun i σ H'=>Same H4 H'/\∃o4,σ=[some (.ref bl),some (.ref p),some (.ref pn),some (.ref qb),o4]) ⟨Same.refl _,_,rfl⟩ (fun i σ H' _ h=>SqL.of (h.1 _ _ v2)) ?_ ?_
   ·rintro j y σ H5 hy ⟨s5,o4,rfl⟩;obtain ⟨d,hd,q0,rfl,hq0,hf⟩:=Paired.get v3 hy;have s05:=s03.trans s5;simp_arith [su];refine ⟨_,_,s05.seqT hq,rfl,?_⟩;have hw1:=hD.w1;have hw8:=hD.w8;simp_arith [su];refine ⟨⟨by omega,by omega,by decide⟩,?_⟩;refine ⟨ins++oth,wd,d,rfl,SqL.of (s5 _ _ (s3 _ _ en)),s5.seqT hq0,hf,hg.gd d (zq8 hd),fun H6 s6=>⟨_,rfl,?_⟩⟩;rw [if_neg (by decide)];exact ⟨s5.trans s6,_,rfl⟩
   ·rintro σ H5 ⟨s5,o4,rfl⟩;exact ⟨s5,_,rfl⟩
  rintro σ H5 ⟨s5,o4,rfl⟩;have s05:=s03.trans s5;simp_arith [xh];refine ⟨_,_,SqT.of (s5 _ _ v1),rfl,xs,.inl (SqL.of (s05 _ _ hbl)),?_⟩;rw [xh];refine ⟨ins++oth,B.length,b.ed,by rw [lx],SqL.of (s5 _ _ (s3 _ _ en)),SqT.of (s5 _ _ v4),hg.tg,hg.nm,fun H6 s6=>⟨_,rfl,?_⟩⟩;rw [if_neg (by decide)];exact ⟨s3.trans (s5.trans s6),_,_,rfl⟩
 ·rintro σ H3 ⟨s3,o3,o4,rfl⟩;simp_arith [];exact q _ (t1.trans s3)
variable {H:Hp} {a:Addr}
theorem rK{o:FB.Opd}:List.map id (List.filter iu [o.v])=o.reads.map V.str:=by cases o<;>rfl
theorem vB{o p:FB.Opd}:List.map id (List.filter iu [o.v,p.v])=(o.reads++p.reads).map V.str:=by cases o<;>cases p<;>rfl
theorem ql{f:Str}(h:f∈FB.opsL):¬f="tell":=by
 rintro rfl
 revert h
 decide +kernel
theorem ix0{d:FB.Deed}{Z:V->Hp->Prop}(f:d.fine)(hS:SqT K H a d.vs)(h:Z (.bl d.tells) H):∃xs v,SqT K H a xs/\atI xs 0=some v/\rEq v (.str "tell") H Z:=by
 cases d with
 |tell o=>exact ⟨_,_,hS,rfl,rfl,h⟩
 |copy n o=>exact ⟨_,_,hS,rfl,rfl,h⟩
 |op g n o p=>refine ⟨_,_,hS,rfl,rfl,?_⟩;have e:decide (V.str g=V.str "tell")=false:=decide_eq_false (fun z=>ql f (V.str.inj z));rw [e];exact h
theorem G3{d:FB.Deed}{Z:V->Hp->Prop}(f:d.fine)(hS:SqT K H a d.vs)(h:Z (.bl (!d.tells)) H):∃xs v,SqT K H a xs/\atI xs 0=some v/\rNe v (.str "tell") H Z:=by
 obtain ⟨xs,v,h1,h2,h3,h4⟩:=ix0 (Z:=fun x H'=>∃b,x=.bl b/\Z (.bl (!b)) H') f hS ⟨_,rfl,h⟩;obtain ⟨b,e,h4⟩:=h4
 cases e
 exact ⟨xs,v,h1,h2,h3,h4⟩
noncomputable def wr(d:FB.Deed):Str:=d.writes.headD ""
theorem ix1{d:FB.Deed}{Z:V->Prop}(f:d.tells=false)(hS:SqT K H a d.vs)(h:Z (.str (wr d))):∃xs v,SqT K H a xs/\atI xs 1=some v/\Z v:=by
 cases d with
 |tell o=>cases f
 |copy n o=>exact ⟨_,_,hS,rfl,h⟩
 |op g n o p=>exact ⟨_,_,hS,rfl,h⟩
theorem FJ{d:FB.Deed}(f:d.tells=true):d.writes=[]:=by
 cases d with
 |tell o=>rfl
 |copy n o=>cases f
 |op g n o p=>cases f
noncomputable def wH:FB.Deed->List FB.Opd
 | .tell a=>[a]
 | .copy _ a=>[a]
 | .op _ _ a b=>[a,b]
noncomputable def wrV(d:FB.Deed):V:=match d.writes with | []=>.non | n::_=>.str n
noncomputable def sP(K:W.Frag):Sp:=fun vs H Q _=>∃(a:Addr)(d:FB.Deed),vs=[.ref a]/\SqT K H a d.vs/\d.fine/\∀p,H p=none->Q (.ref p) (upd H p (.tup ((wH d).map FB.Opd.v)))
noncomputable def jS(K:W.Frag):Sp:=fun vs H Q _=>∃(a:Addr)(d:FB.Deed),vs=[.ref a]/\SqT K H a d.vs/\d.fine/\Q (wrV d) H
theorem wI{d:FB.Deed}:(wH d).length<=2:=by cases d<;>simp [wH]
theorem zG(T:Txt K mg t):FnOk P w K mg base CX0 1 t.f_12 t.e_12 ["deed"] (sP K):=by
 refine T.d_12.F.ok Ff ∅ ?_;rintro cdv A outer s H vs Q E hr ⟨a,d,rfl,hS,hf,q⟩;refine ⟨_,
   (XSs.h
   (aj
    (aq (iG (ar aT (ak au (yqv 0 vl) ac) aE (aA _)) (bq mq (yqv 0 vl) (bh ac) c7) (bq mq (yqv 0 vl) (bh ac) c7))))),?_⟩
 rw [show aM _ [V.ref a]=[some (.ref a)] from rfl];simp_arith [];refine ix0 hf hS ⟨_,rfl,?_⟩
 cases d with
 |tell o=>exact ⟨_,hS,jA (k:=1) (show ¬HT.sIx 2 0 (some 1)=0 by decide),q⟩
 |copy n o=>exact ⟨_,hS,jA (k:=2) (show ¬HT.sIx 3 0 (some 2)=0 by decide),q⟩
 |op f n o o2=>exact ⟨_,hS,jA (k:=2) (show ¬HT.sIx 4 0 (some 2)=0 by decide),q⟩
theorem CW{a:Addr}{H:Hp}{Q:VK}{E:XK}:sP K [.ref a] H Q E=∃d:FB.Deed,SqT K H a d.vs/\d.fine/\∀p,H p=none->Q (.ref p) (upd H p (.tup ((wH d).map FB.Opd.v))):=propext ⟨by rintro ⟨_,d,e,q⟩;cases e;exact ⟨d,q⟩,by rintro ⟨d,q⟩;exact ⟨a,d,rfl,q⟩⟩
theorem jC(T:Txt K mg t):FnOk P w K mg base CX0 1 t.f_14 t.e_14 ["deed"] (jS K):=by
 refine T.d_14.F.ok Fh ∅ ?_;rintro cdv A outer s H vs Q E hr ⟨a,d,rfl,hS,hf,q⟩;refine ⟨_,
   (XSs.h
   (aj
    (aq (iG (ar aT (ak au (yqv 0 vl) ac) aE (aA _)) fY (ak au (yqv 0 vl) ac))))),?_⟩
 rw [show aM _ [V.ref a]=[some (.ref a)] from rfl];simp_arith [];refine ix0 hf hS ⟨_,rfl,?_⟩
 cases d with
 |tell o=>exact q
 |copy n o=>exact ⟨_,_,hS,rfl,q⟩
 |op f n o o2=>exact ⟨_,_,hS,rfl,q⟩
theorem fT{a:Addr}{H:Hp}{Q:VK}{E:XK}:jS K [.ref a] H Q E=∃d:FB.Deed,SqT K H a d.vs/\d.fine/\Q (wrV d) H:=propext ⟨by rintro ⟨_,d,e,q⟩;cases e;exact ⟨d,q⟩,by rintro ⟨d,q⟩;exact ⟨a,d,rfl,q⟩⟩
noncomputable def aL(ds:List FB.Deed)(j k:Nat):Option Int:=match ds[j]?,ds[k]? with
 |some d,some e=>FB.iW d e
 |_,_=>none
noncomputable def xJ(K:W.Frag):Sp:=fun vs H Q _=>∃(a:Addr)(xs:List V)(ds:List FB.Deed)(j k:Nat)(d e:FB.Deed),vs=[.ref a,.int j,.int k]/\SqL K H a xs/\DeedsV K H xs ds/\j<k/\ds[j]?=some d/\ds[k]?=some e/\∀H',Same H H'->Q (FB.md (FB.iW d e)) H'
noncomputable def sQ(K:W.Frag):Sp:=fun vs H Q _=>∃(a:Addr)(d:FB.Deed),vs=[.ref a]/\SqT K H a d.vs/\d.fine/\∀p H',Same H H'->H p=none->H' p=some (.lst (d.reads.map V.str))->Q (.ref p) H'
theorem qm{d:FB.Deed}:List.map id (List.filter iu ((wH d).map FB.Opd.v))=d.reads.map V.str:=by
 cases d with
 |tell o=>exact rK
 |copy n o=>exact rK
 |op f n o o2=>exact vB
theorem zH(T:Txt K mg t):FnOk P w K mg base CX0 2 t.f_13 t.e_13 ["deed"] (sQ K):=by
 have G_12:=@zG P w K mg base t T;refine T.d_13.F.ok Fg ∅ ?_;rintro cdv A outer s H vs Q E hr ⟨a,d,rfl,hS,hf,q⟩;refine ⟨_,
   (XSs.h
   (aj
    (aq (bu (tns:=["part"]) (cns:=[]) (ci:=[]) rfl (CompSc.of (by kernel_rfl)) (mE (ap T.d_12 G_12 hr.m (aa (yqv 0 vl) ae) gl)) (fun _=>(aC (i:=1) (show List.Nodup [(".0":Str),("part":Str)] by decide +kernel) rfl ll (Or.inr (by kernel_rfl)))) (fun _=>(dP (bi (aw bN gl T.z_isinstance boot_isinstance (aa (yqv 1 vl) (aa (bS (v:=.ty "str") gl T.z_str boot_str rfl) ae)))))) (fun _=>(yqv 1 vl)))))),?_⟩
 rw [show aM _ [V.ref a]=[some (.ref a)] from rfl];simp_arith [CW];refine ⟨d,hS,hf,fun p hp=>⟨⟨_,SqT.of af⟩,fun acc hacc bk=>?_⟩⟩;refine jm iu id (by rw [sizeLine_eq,zq1];have:=wI (d:=d);omega) (SqT.of af) hacc (fun x hm H3 Q' s3 h=>?_) (fun x hm H3 Q' s3 _ h=>?_) ?_
 ·obtain ⟨o,_,rfl⟩:=zq20.mp hm;simp_arith [];exact lW ⟨_,rfl,h⟩
 ·simp_arith [];exact h
 ·rw [qm];exact q acc _ ((Same.upd hp).trans (Same.upd hacc)) ((Same.upd hp).free hacc) af
theorem xq{a:Addr}{H:Hp}{Q:VK}{E:XK}:sQ K [.ref a] H Q E=∃d:FB.Deed,SqT K H a d.vs/\d.fine/\∀p H',Same H H'->H p=none->H' p=some (.lst (d.reads.map V.str))->Q (.ref p) H':=propext ⟨by rintro ⟨_,d,e,q⟩;cases e;exact ⟨d,q⟩,by rintro ⟨d,q⟩;exact ⟨a,d,rfl,q⟩⟩
theorem vL{d:FB.Deed}{ns:List Str}:inV (wrV d) (ns.map V.str)=decide (∃n∈d.writes,n∈ns):=by
 have hn:∀ns:List Str,inV .non (ns.map V.str)=false:=fun ns=>by
  induction ns with
  |nil=>rfl
  |cons m ns ih=>unfold inV at ih ⊢;rw [cM,pN,ih];rfl
 cases d with
 |tell o=>show inV .non _=_;rw [hn];simp [FB.Deed.writes]
 |copy n o=>show inV (.str n) _=_;rw [fO];simp [FB.Deed.writes]
 |op f n o o2=>show inV (.str n) _=_;rw [fO];simp [FB.Deed.writes]
theorem BQ(T:Txt K mg t):FnOk P w K mg base CX0 10 t.f_17 t.e_17 ["deeds","j","k"] (xJ K):=by
 have G_13:=@zH P w K mg base t T;have G_14:=@jC P w K mg base t T;refine T.d_17.F.ok sc_17 ∅ ?_;rintro cdv A outer s H vs Q E hr ⟨a,xs,ds,j,k,d,e,rfl,hS,hds,hjk,hd,he,q⟩;refine ⟨_,
   (XSs.h
   (ai
    (ax (i:=3) sc_17.nd rfl ll (ak aS (yqv 0 vl) (yqv 1 vl)))
   (ai
    (ax (i:=4) sc_17.nd rfl ll (ak aS (yqv 0 vl) (yqv 2 vl)))
   (ai
    (aF (bU (dR (ar aT (ak au (yqv 3 vl) ac) aE (aA _)) (d7 (ar aT (ak au (yqv 4 vl) ac) aE (aA _)))))
     (aj
      (aq ac))
     aB)
   (ai
    (ax (i:=5) sc_17.nd rfl ll (ap T.d_14 G_14 hr.m (aa (yqv 3 vl) ae) gl))
   (ai
    (aF (bU (dR (ar j7 (yqv 5 vl) fY (aA _)) (d7 (bU (cj (ar cz (yqv 5 vl) (ap T.d_13 G_13 hr.m (aa (yqv 4 vl) ae) gl) rfl) (cB (ar aT (yqv 5 vl) (ap T.d_14 G_14 hr.m (aa (yqv 4 vl) ae) gl) (aA _))))))))
     (aj
      (aq ac))
     aB)
   (aj
    (aq (iG (ar cz (ap T.d_14 G_14 hr.m (aa (yqv 4 vl) ae) gl) (ap T.d_13 G_13 hr.m (aa (yqv 3 vl) ae) gl) rfl) ac fY))))))))),?_⟩
 rw [show aM _ [V.ref a,V.int j,V.int k]=[some (.ref a),some (.int j),some (.int k),none,none,none] from rfl];simp_arith [xq,fT];obtain ⟨x,hx,fd,qx,rfl,hqx⟩:=Paired.getR hds hd;obtain ⟨y,hy,fe,qy,rfl,hqy⟩:=Paired.getR hds he;refine ⟨_,_,hS,ba hx,_,_,hS,ba hy,?_⟩;simp_arith [xq,fT];have fl:∀d:FB.Deed,bz (wrV d)=true:=fun d=>by cases d<;>rfl
 have nw:∀d:FB.Deed,(!decide (wrV d=V.non))=!d.tells:=fun d=>by cases d<;>rfl
 have last:∀H1,Same H H1->¬(d.tells=true/\e.tells=true)->¬(∃n∈d.writes,n∈e.reads\/n∈e.writes)->∃d0:FB.Deed,SqT K H1 qy d0.vs/\d0.fine/\∃d1:FB.Deed,SqT K H1 qx d1.vs/\d1.fine/\
   ∀p H2,Same H1 H2->H1 p=none->H2 p=some (.lst (d1.reads.map V.str))->∃xs,(SqL K H2 p xs\/SqT K H2 p xs)/\bz (wrV d0)=true/\xs.all bz=true/\if inV (wrV d0) xs=true then Q (.int 0) H2 else Q .non H2:=by
  intro H1 s1 h1 h2;refine ⟨e,s1.seqT hqy,fe,d,s1.seqT hqx,fd,fun p H2 s2 hp hl=>⟨_,.inl (SqL.of hl),fl e,ip,?_⟩⟩;rw [vL];unfold FB.iW at q;rw [if_neg h1,if_neg h2] at q;refine aH (fun h=>?_) (fun h=>?_)
  ·rw [if_pos h] at q;exact q _ (s1.trans s2)
  ·rw [if_neg h] at q;exact q _ (s1.trans s2)
 have wrm:∀(d e:FB.Deed),d.tells=false->(wrV d=wrV e↔∃n∈d.writes,n∈e.writes):=fun d e h=>by cases d<;>cases e<;>simp [wrV,FB.Deed.writes,FB.Deed.tells] at h ⊢
 refine ix0 fd hqx ⟨_,rfl,gW (fun e1=>ix0 fe hqy ⟨_,rfl,gW (fun e2=>?_) (fun e2=>?_)⟩) (fun e1=>?_)⟩
 ·unfold FB.iW at q;rw [if_pos ⟨e1,e2⟩] at q;exact q H (Same.refl H)
 ·have nt:¬(d.tells=true/\e.tells=true):=fun z=>by rw [e2] at z;exact zq7 z.2
  refine ⟨d,hqx,fd,?_⟩;rw [nw,e1];refine last H (Same.refl H) nt ?_;rw [FJ e1];simp
 ·have nt:¬(d.tells=true/\e.tells=true):=fun z=>by rw [e1] at z;exact zq7 z.1
  refine ⟨d,hqx,fd,?_⟩;rw [nw,e1];refine ⟨e,hqy,fe,fun p H2 s2 hp hl=>⟨_,.inl (SqL.of hl),fl d,ip,?_⟩⟩;rw [vL];refine aH (fun h=>?_) (fun h=>⟨e,s2.seqT hqy,fe,?_⟩)
  ·unfold FB.iW at q;obtain ⟨n,h1,h2⟩:=h;rw [if_neg nt,if_pos ⟨n,h1,.inl h2⟩] at q;exact q _ s2
  refine ⟨by cases d<;>cases e<;>rfl,_,rfl,aH (fun h2=>?_) (fun h2=>?_)⟩
  ·unfold FB.iW at q;obtain ⟨n,h3,h4⟩:=(wrm d e e1).mp h2;rw [if_neg nt,if_pos ⟨n,h3,.inr h4⟩] at q;exact q _ s2
  ·refine last H2 s2 nt ?_;rintro ⟨n,h3,h4 | h4⟩
   ·exact h ⟨n,h3,h4⟩
   ·exact h2 ((wrm d e e1).mpr ⟨n,h3,h4⟩)
noncomputable def cU:FB.Deed->Nat
 | .op f _ _ _=>if f∈(["plus","less"]:List Str) then 0 else if f∈(["below","same"]:List Str) then 1 else if f∈(["and","or","xor"]:List Str) then 2 else 3
 |_=>3
noncomputable def sS(K:W.Frag):Sp:=fun vs H Q _=>∃(a:Addr)(d:FB.Deed),vs=[.ref a]/\SqT K H a d.vs/\∀H',Same H H'->Q (.int (cU d)) H'
theorem zJ(T:Txt K mg t):FnOk P w K mg base CX0 1 t.f_49 t.e_49 ["_law_deed_here"] (sS K):=by
 refine T.d_49.F.ok Fw ∅ ?_;rintro cdv A outer s H vs Q E hr ⟨a,d,rfl,hS,q⟩;refine ⟨_,
   (XSs.h
   (ai
    (aF (ar cz (ak au (yqv 0 vl) ac) (aQ (cW (by rfl))) rfl)
     (aj
      (aq ac))
     aB)
   (ai
    (aF (ar cz (ak au (yqv 0 vl) ac) (aQ (cW (by rfl))) rfl)
     (aj
      (aq ac))
     aB)
   (ai
    (aF (ar cz (ak au (yqv 0 vl) ac) (aQ (cW (by rfl))) rfl)
     (aj
      (aq ac))
     aB)
   (aj
    (aq ac)))))),?_⟩
 rw [show aM _ [V.ref a]=[some (.ref a)] from rfl];obtain ⟨f,hf,he⟩:∃f:Str,atI d.vs 0=some (.str f)/\cU d=if f∈(["plus","less"]:List Str) then 0 else if f∈(["below","same"]:List Str) then 1 else if f∈(["and","or","xor"]:List Str) then 2 else 3:=by
  cases d with
  |tell o=>exact ⟨"tell",rfl,by rw [if_neg (by decide +kernel),if_neg (by decide +kernel),if_neg (by decide +kernel)];rfl⟩
  |copy n o=>exact ⟨"copy",rfl,by rw [if_neg (by decide +kernel),if_neg (by decide +kernel),if_neg (by decide +kernel)];rfl⟩
  |op f n o o2=>exact ⟨f,rfl,rfl⟩
 rw [he] at q;simp_arith [];refine ⟨_,_,hS,hf,fun p hp=>⟨_,.inl (SqL.of af),rfl,rfl,?_⟩⟩;rw [show inV (.str f) [V.str "plus",V.str "less"]=decide (f∈(["plus","less"]:List Str)) from fO (ns:=["plus","less"])];refine aH (fun h=>by rw [if_pos h] at q;exact q _ (Same.upd hp)) (fun h=>?_);rw [if_neg h] at q;refine ⟨_,_,(Same.upd hp).seqT hS,hf,fun p2 hp2=>⟨_,.inl (SqL.of af),rfl,rfl,?_⟩⟩;rw [show inV (.str f) [V.str "below",V.str "same"]=decide (f∈(["below","same"]:List Str)) from fO (ns:=["below","same"])];have s2:=(Same.upd hp).trans (Same.upd (o:=.lst [V.str "below",V.str "same"]) hp2);refine aH (fun h=>by rw [if_pos h] at q;exact q _ s2) (fun h=>?_);rw [if_neg h] at q;refine ⟨_,_,s2.seqT hS,hf,fun p3 hp3=>⟨_,.inl (SqL.of af),rfl,rfl,?_⟩⟩;rw [show inV (.str f) [V.str "and",V.str "or",V.str "xor"]=decide (f∈(["and","or","xor"]:List Str)) from fO (ns:=["and","or","xor"])];have s3:=s2.trans (Same.upd (o:=.lst [V.str "and",V.str "or",V.str "xor"]) hp3);exact aH (fun h=>by rw [if_pos h] at q;exact q _ s3) (fun h=>by rw [if_neg h] at q;exact q _ s3)
theorem qw{a:Addr}{H:Hp}{Q:VK}{E:XK}:sS K [.ref a] H Q E=∃d:FB.Deed,SqT K H a d.vs/\∀H',Same H H'->Q (.int (cU d)) H':=propext ⟨by rintro ⟨_,d,e,q⟩;cases e;exact ⟨d,q⟩,by rintro ⟨d,q⟩;exact ⟨a,d,rfl,q⟩⟩
noncomputable def sV(d:FB.Deed):V:=if cU d<3 then .int (cU d) else .non
noncomputable def Dv(ds:List FB.Deed)(p:Int):FB.Deed:=ds.getD p.toNat (.tell (.word 0))
theorem xH{d:FB.Deed}(h:d.fine):∃f:Str,atI d.vs 0=some (.str f)/\(bA kvs_SORTS (.inr f)).getD .non=sV d:=by
 cases d with
 |tell o=>exact ⟨"tell",rfl,by kernel_rfl⟩
 |copy n o=>exact ⟨"copy",rfl,by kernel_rfl⟩
 |op f n o o2=>refine ⟨f,rfl,?_⟩;have h:f∈FB.opsL:=h;simp only [FB.opsL,List.mem_cons,List.not_mem_nil,or_false] at h;rcases h with rfl | rfl | rfl | rfl | rfl | rfl | rfl<;>kernel_rfl
theorem Dy{d:FB.Deed}{s:Nat}(h:s<3):eqV (sV d) (.int s)=decide (cU d=s):=by
 unfold sV
 split
 ·rw [FL.rJ,mH,decide_eq_true_iff,decide_eq_true_iff];omega
 ·rw [decide_eq_false (by omega)];rfl
noncomputable def kZ(K:W.Frag):Sp:=fun vs H Q _=>∃(a:Addr)(d:FB.Deed),vs=[.ref a]/\SqT K H a d.vs/\d.fine/\Q (sV d) H
theorem uv(T:Txt K mg t)(hw:t.pr=w.params):FnOk P w K mg base CX0 1 t.f_15 t.e_15 ["deed"] (kZ K):=by
 refine T.d_15.F.ok Fi ∅ ?_;rintro cdv A outer s H vs Q E hr ⟨a,d,rfl,hS,hf,q⟩;refine ⟨_,
   (XSs.h
   (aj
    (aq (uX hw T.k_SORTS T.g_SORTS gl (ak au (yqv 0 vl) ac) ⟨rfl,rfl,rfl,rfl⟩)))),?_⟩
 rw [show aM _ [V.ref a]=[some (.ref a)] from rfl];simp_arith [];obtain ⟨f,hf0,hv⟩:=xH hf;refine ⟨_,_,hS,hf0,.inr f,rfl,?_⟩;rw [hv];exact q
theorem jK{a:Addr}{H:Hp}{Q:VK}{E:XK}:kZ K [.ref a] H Q E=∃d:FB.Deed,SqT K H a d.vs/\d.fine/\Q (sV d) H:=propext ⟨by rintro ⟨_,d,e,q⟩;cases e;exact ⟨d,q⟩,by rintro ⟨d,q⟩;exact ⟨a,d,rfl,q⟩⟩
variable {H:Hp} {Q:VK} {a p:Addr} {i:Nat}
noncomputable def nl(ps:List Nat):List V:=ps.map fun p:Nat=>V.int p
noncomputable def soN(ds:List FB.Deed)(p:Nat):Nat:=cU (ds.getD p (.tell (.word 0)))
noncomputable def uN(us:List Int)(s:Nat):Int:=us.getD s 0
theorem jv{j:Nat}:∀{ps:List Nat},inV (.int j) (nl ps)=decide (j∈ps)
 | []=>rfl
 |p::ps=>by have ih:=jv (j:=j) (ps:=ps);unfold inV nl at ih ⊢;rw [cM,pN,ih,FL.rJ,mH];simp only [Bool.or_eq_true,decide_eq_true_eq,List.mem_cons];exact ⟨fun h=>h.imp (fun e=>by omega) id,fun h=>h.imp (fun e=>by omega) id⟩
theorem fM:∀{ps:List Nat},(nl ps).all bz=true
 | []=>rfl
 |p::ps=>by have ih:=fM (ps:=ps);unfold nl at ih ⊢;rw [cM,qR,ih];rfl
theorem DI{ps:List Nat}{p:Nat}(h:ps[i]?=some p):(nl ps)[i]?=some (V.int p):=by unfold nl;rw [bM,h];rfl
theorem eU{ps:List Nat}:(nl ps).length=ps.length:=by unfold nl;rw [zq1]
theorem xF{ds:List FB.Deed}{p:Nat}(h:p<ds.length):(ds.map sV)[p]?=some (sV (ds.getD p (.tell (.word 0)))):=by rw [bM,zq4 h,eN,zq4 h];rfl
theorem Bt{ds:List FB.Deed}{bt:List Nat}{s:Nat}(h:s<3):zg (.int s) (bt.map fun p=>sV (ds.getD p (.tell (.word 0))))=GD.fk (soN ds) bt s:=by unfold zg GD.fk;rw [List.countP_map];apply List.countP_congr;intro p _;show eqV (sV (ds.getD p (.tell (.word 0)))) (.int s)=true↔_;rw [Dy h];rfl
theorem zj{d:FB.Deed}:bz (sV d)=true:=by unfold sV;split<;>rfl
noncomputable def DG(b so gp:Addr):List (Str×V):=[("units",.ref b),("sorts",.ref so),("gaps",.ref gp)]
structure LayerH(K:W.Frag)(C:Addr)(H:Hp)(p:Addr)(ds:List FB.Deed)(us:List Int):Prop where
 ob:∃(dx b so gp:Addr)(qs:List Addr),H p=some (.ins C dx (DG b so gp))/\SqT K H b (us.map V.int)/\H so=some (.lst (ds.map sV))/\H gp=some (.lst (qs.map V.ref))/\qs.length=ds.length/\∀(k:Nat)q,qs[k]?=some q->H q=some (.lst ((List.range k).map fun j=>FB.md (aL ds j k)))
 h8:ds.length<=8
 h3:us.length=3
 hp:∀u∈us,0<u/\u<=3
theorem LayerH.same{K:W.Frag}{C:Addr}{H':Hp}{ds:List FB.Deed}{us:List Int}(s:Same H H')(h:LayerH K C H p ds us):LayerH K C H' p ds us:=
 ⟨let ⟨dx,b,so,gp,qs,e1,e2,e3,e4,e5,e6⟩:=h.ob;⟨dx,b,so,gp,qs,s _ _ e1,s.seqT e2,s _ _ e3,s _ _ e4,e5,fun k q hk=>s _ _ (e6 k q hk)⟩,h.h8,h.h3,h.hp⟩
theorem LayerH.pos{K:W.Frag}{C:Addr}{ds:List FB.Deed}{us:List Int}(h:LayerH K C H p ds us):∀s,s<3->0<uN us s:=fun s hs=>by have hl:=h.h3;unfold uN;rw [eN,zq4 (by omega)];exact (h.hp _ (ko _)).1
noncomputable def rc(K:W.Frag)(C:Addr)(p d b:Addr)(i:Int)(H:Hp)(Q:VK):Prop:=∃(ds:List FB.Deed)(us:List Int)(dn bt:List Nat)(pl:Nat),i=pl/\LayerH K C H p ds us/\SqT K H d (nl dn)/\SqL K H b (nl bt)/\pl<ds.length/\(∀q∈bt,q<ds.length)/\bt.length<=8/\∀H',Same H H'->Q (.bl (GD.bJ (aL ds) (soN ds) (uN us) dn bt pl)) H'
noncomputable def sH(K:W.Frag)(C:Addr):Sp:=fun vs H Q _=>∃(p d b:Addr)(i:Int),vs=[.ref p,.ref d,.ref b,.int i]/\rc K C p d b i H Q
theorem jI{C d b:Addr}{i:Int}{E:XK}:sH K C [.ref p,.ref d,.ref b,.int i] H Q E=rc K C p d b i H Q:=propext ⟨by rintro ⟨_,_,_,_,e,q⟩;cases e;exact q,fun q=>⟨p,d,b,i,rfl,q⟩⟩
theorem jJ{i j:Int}{E:XK}:xJ K [.ref a,.int i,.int j] H Q E=∃(xs:List V)(ds:List FB.Deed)(m k:Nat),i=m/\j=k/\SqL K H a xs/\DeedsV K H xs ds/\m<k/\k<ds.length/\∀H',Same H H'->Q (FB.md (aL ds m k)) H':=propext ⟨by
  rintro ⟨_,xs,ds,m,k,d,e,ev,h1,h2,h3,h4,h5,q⟩
  cases ev
  refine ⟨xs,ds,m,k,rfl,rfl,h1,h2,h3,(zq10.mp h5).1,?_⟩;unfold aL;rw [h4,h5];exact q,by
  rintro ⟨xs,ds,m,k,rfl,rfl,h1,h2,h3,h4,q⟩;obtain ⟨d,hd⟩:∃d,ds[m]?=some d:=⟨_,zq4 (by omega)⟩
  obtain ⟨e,he⟩:∃e,ds[k]?=some e:=⟨_,zq4 h4⟩
  refine ⟨a,xs,ds,m,k,d,e,rfl,h1,h2,h3,hd,he,?_⟩;unfold aL at q;rw [hd,he] at q;exact q⟩
theorem ixL{xs:List V}{v:V}(h:SqL K H a xs)(hv:xs[i]?=some v)(q:Q v H):Cd K (.ref a) (.int i) H Q:=by simp_arith [];exact ⟨_,_,h,ba hv,q⟩
theorem ixT{xs:List V}{v:V}(h:SqT K H a xs)(hv:xs[i]?=some v)(q:Q v H):Ce K (.ref a) (.int i) H Q:=by simp_arith [];exact ⟨_,_,h,ba hv,q⟩
theorem rW(T:Txt K mg t):FnOk P w K mg base CX0 1 t.f_23 t.e_23 ["self","done","beat","place"] (sH K t.C_Layer):=by
 refine T.d_23.F.ok sc_23 ∅ ?_;rintro cdv A outer s H vs Q E hr ⟨p,d,b,i,rfl,ds,us,dn,bt,pl,rfl,L,hD,hB,hpl,hbt,hlb,q⟩;obtain ⟨dx,ub,sb,gb,qs,hob,hU,hSo,hGp,hql,hq⟩:=L.ob;have h3:=L.h3;refine ⟨_,
   (XSs.h
   (ai
    (ax (i:=4) sc_23.nd rfl ll (ak aS (cH (yqv 0 vc) rfl) (yqv 3 vl)))
   (bD
    (aF (bU (dR (ar j7 (yqv 4 vl) fY (aA _)) (d7 (ar aT (cx PySem.F.plainAttrs_list PySem.F.slot_list_count PySem.F.type_list_count vZ (bu (tns:=["other"]) (cns:=["self"]) (ci:=[0]) rfl (CompSc.of (by kernel_rfl)) (aZ (yqv 2 vl)) (fun _=>(aC (i:=1) (show List.Nodup [(".0":Str),("other":Str),("self":Str)] by decide +kernel) rfl ll (Or.inr (by kernel_rfl)))) (fun _=>cr) (fun _=>(ak aS (cH (yqv 2 vc) rfl) (yqv 1 vl)))) (aa (yqv 4 vl) ae)) (ak au (cH (yqv 0 vc) rfl) (yqv 4 vl)) (aA _)))))
     (aj
      (aq c6))
     aB)
   (ai
    (bF PassesOwn.never rfl (yj T.z_enumerate (aa (ak aS (cH (yqv 0 vc) rfl) (yqv 3 vl)) ae) gl) (fZ rfl (bv (aC (i:=5) sc_23.nd rfl ll) (bv (aC (i:=6) sc_23.nd rfl ll) eJ)))
     (ai
      (ax (i:=7) sc_23.nd rfl ll (Di (aR cz (yqv 5 vl) (yqv 1 vl) rfl) (cZ (cq (aR aT (yqv 6 vl) ac (aA _)) (cZ (aR cz (yqv 5 vl) (yqv 2 vl) rfl))))))
     (aj
      (aF (bU (dR (ar j7 (yqv 6 vl) fY (aA _)) (d7 (bR (bi (yqv 7 vl))))))
       (aj
        (aq c6))
       aB))))
   (aj
    (aq c6)))))),?_⟩
 rw [show aM _ [V.ref p,V.ref d,V.ref b,V.int pl]=[some (.ref p),some (.ref d),some (.ref b),some (.int pl),none,none,none,none] from rfl];simp_arith! [];refine iV hob T.c_Layer.cl T.n_Layer_sorts rfl (ixL (SqL.of hSo) (xF hpl) ?_);refine later ?_;simp_arith! [];refine ⟨fun σ H'=>Same H H'/\(soN ds pl<3->(GD.fk (soN ds) bt (soN ds pl):Int)≠uN us (soN ds pl))/\σ=[some (.ref p),some (.ref d),some (.ref b),some (.int pl),some (sV (ds.getD pl (.tell (.word 0)))),none,none,none],?_,?_⟩
 ·by_cases hs:soN ds pl<3
  ·have e:sV (ds.getD pl (.tell (.word 0)))=.int (soN ds pl):=if_pos hs;rw [e];simp_arith [];refine ⟨⟨_,hB⟩,fun acc hacc bk=>?_⟩;refine nB (fun _=>true) (fun x=>sV (Dv ds (match x with | .int i=>i | _=>0))) (by rw [eU,sizeLine_eq];omega) hB hacc (fun x _ H2 Q' s2 h=>h H2 (Same.refl _)) (fun x hx H2 Q' s2 _ h=>?_) fun H2 s2 hacc2=>?_
   ·obtain ⟨qp,hqm,rfl⟩:=zq20.mp hx;simp_arith [];exact iV (s2 _ _ hob) T.c_Layer.cl T.n_Layer_sorts rfl (ixL (SqL.of (s2 _ _ hSo)) (xF (hbt qp hqm)) (h H2 (Same.refl _)))
   ·rw [eQ] at hacc2;have el:List.map (fun x=>sV (Dv ds (match x with | .int i=>i | _=>0))) (nl bt)=bt.map fun p=>sV (ds.getD p (.tell (.word 0))):=by unfold nl;rw [fj];rfl
    rw [el] at hacc2;have hu:(us.map V.int)[soN ds pl]?=some (V.int (uN us (soN ds pl))):=by unfold uN;rw [bM,zq4 (by omega),eN,zq4 (by omega)];rfl
    refine ⟨.inl ⟨rfl,_,SqL.of hacc2⟩,_,SqL.of hacc2,rfl,?_,?_⟩
    ·rw [List.all_map,zq37];exact fun x _=>zj
    refine iV (s2 _ _ hob) T.c_Layer.cl T.n_Layer_units rfl (ixT (s2.seqT hU) hu ?_);rw [Bt hs];simp_arith [];refine aH (fun z=>?_) (fun z=>⟨s2,fun _=>z⟩);have hf:GD.bJ (aL ds) (soN ds) (uN us) dn bt pl=false:=by
     cases hf:GD.bJ (aL ds) (soN ds) (uN us) dn bt pl with
     |false=>rfl
     |true=>exact absurd z ((GD.fits_iff.mp hf).1 hs)
    rw [hf] at q;exact q H2 s2
  ·have e:sV (ds.getD pl (.tell (.word 0)))=.non:=if_neg hs;rw [e];simp_arith [];exact ⟨Same.refl H,fun z=>absurd z hs⟩
 ·rintro σ H1 ⟨s1,hc,rfl⟩;refine later ?_;obtain ⟨gq,hgq⟩:∃gq,qs[pl]?=some gq:=⟨_,zq4 (by omega)⟩
  have hG:=hq pl gq hgq;simp_arith [];refine iV (s1 _ _ hob) T.c_Layer.cl T.n_Layer_gaps rfl (ixL (SqL.of (s1 _ _ hGp)) (v:=.ref gq) (by rw [bM,hgq];rfl) ⟨gq,rfl,⟨_,SqL.of (s1 _ _ hG)⟩,?_⟩);refine zk (xs:=(List.range pl).map fun j=>FB.md (aL ds j pl)) (fun i σ H'=>Same H H'/\(∀j,j<i->GD.cR (aL ds) dn bt pl j=true)/\∃o5 o6 o7,σ=[some (.ref p),some (.ref d),some (.ref b),some (.int pl),some (sV (ds.getD pl (.tell (.word 0)))),o5,o6,o7]) ⟨s1,fun j hj=>absurd hj (by omega),_,_,_,rfl⟩ (fun i σ H' _ h=>SqL.of (h.1 _ _ hG)) ?_ ?_
  ·rintro i x σ H2 pp hx hpp ⟨s2,hah,o5,o6,o7,rfl⟩;have hi:i<pl:=by have:=(zq10.mp hx).1;rwa [zq1,g9] at this
   rw [bM,yK hi] at hx
   cases hx
   have s3:Same H (upd H2 pp (.tup [.int i,FB.md (aL ds i pl)])):=s2.updN hpp;simp_arith [];refine ⟨_,SqT.of af,rfl,?_⟩;have ih:GD.cR (aL ds) dn bt pl i=true->∀j,j<i+1->GD.cR (aL ds) dn bt pl j=true:=fun h j hj=>by
    by_cases e:j=i
    ·rw [e];exact h
    ·exact hah j (by omega)
   have no:GD.cR (aL ds) dn bt pl i=false->GD.bJ (aL ds) (soN ds) (uN us) dn bt pl=false:=fun h=>by
    cases hf:GD.bJ (aL ds) (soN ds) (uN us) dn bt pl with
    |false=>rfl
    |true=>have z:=(GD.fits_iff.mp hf).2 i hi;rw [h] at z;cases z
   unfold GD.cR at ih no
   cases hg:aL ds i pl with
   |none=>
    rw [hg] at ih s3;simp_arith [FB.md] at s3 ⊢;have ih':=ih rfl;refine ⟨_,.inr (s3.seqT hD),rfl,fM,?_⟩
    split
    ·split<;>exact ⟨s3,ih',_,_,_,rfl⟩
    ·refine ⟨rfl,_,rfl,?_⟩;rw [show decide (V.non=V.int 0)=false from rfl];simp only [decide_true,Bool.not_true,Bool.false_eq_true,if_false];exact ⟨s3,ih',_,_,_,rfl⟩
   |some l=>
    rw [hg] at ih no s3;simp_arith [FB.md] at s3 ⊢;dsimp only at ih no;refine ⟨_,.inr (s3.seqT hD),rfl,fM,?_⟩;rw [jv,show decide (V.int l=V.non)=false from rfl]
    by_cases h1:i∈dn
    ·rw [if_pos (decide_eq_true h1)]
     split<;>exact ⟨s3,ih (by simp [h1]),_,_,_,rfl⟩
    ·rw [if_neg (by simp [h1])]
     by_cases h2:l=0
     ·rw [if_pos (decide_eq_true h2)];refine ⟨_,.inl (s3.seq hB),rfl,fM,?_⟩;rw [jv]
      by_cases h3':i∈bt
      ·simp only [h3',decide_true,Bool.not_true,Bool.not_false,Bool.false_eq_true,if_false,if_true];exact ⟨s3,ih (by simp [h2,h3']),_,_,_,rfl⟩
      ·simp only [h3',decide_false,Bool.not_true,Bool.not_false,Bool.false_eq_true,if_false,if_true];rw [no (by simp [h1,h3'])] at q;exact q _ s3
     ·rw [if_neg (by simp [h2])];simp only [Bool.not_true,Bool.not_false,Bool.false_eq_true,if_false,if_true];rw [no (by simp [h1,h2])] at q;exact q _ s3
  ·rintro σ H2 ⟨s2,hah,o5,o6,o7,rfl⟩;rw [zq1,g9] at hah;have hf:GD.bJ (aL ds) (soN ds) (uN us) dn bt pl=true:=GD.fits_iff.mpr ⟨hc,hah⟩;rw [hf] at q;simp_arith [];exact q H2 s2
noncomputable def lG(K:W.Frag)(H:Hp)(a b:Addr)(ds:List FB.Deed)(us:List Int):Prop:=∃xs,SqL K H a xs/\DeedsV K H xs ds/\ds.length<=8/\SqT K H b (us.map V.int)/\us.length=3/\∀u∈us,0<u/\u<=3
variable {H:Hp}
noncomputable def LLN(H:Hp)(c:Addr)(bts:List (List Nat)):Prop:=∃ps:List Addr,H c=some (.lst (ps.map V.ref))/\Paired (fun p (b:List Nat)=>H p=some (.lst (nl b))) ps bts
theorem LLN.same{H':Hp}{c:Addr}{bts:List (List Nat)}(s:Same H H')(h:LLN H c bts):LLN H' c bts:=
 let ⟨ps,e,r⟩:=h;⟨ps,s _ _ e,Paired.mapP r fun _ _ z=>s _ _ z⟩
theorem BO{mo r:Addr}{rs:List Addr}{b:List Nat}(h1:H mo=some (.lst (rs.map V.ref)))(h2:H r=some (.lst (nl b)))(hr:r∈rs):r≠mo:=by
 rintro rfl;rw [h1] at h2;have e:rs.map V.ref=nl b:=HO.lst.inj (Option.some.inj h2)
 cases rs with
 |nil=>cases hr
 |cons x xs=>
  cases b with
  |nil=>cases e
  |cons y ys=>
   unfold nl at e;rw [cM,cM] at e
   cases (List.cons.inj e).1
theorem sh{H:Hp}{mo:Addr}{rs:List Addr}{o:HO}(h:H mo=some (.lst (rs.map V.ref))):∀{rs':List Addr} {bs:List (List Nat)},Paired (fun r (b:List Nat)=>H r=some (.lst (nl b))) rs' bs->(∀r∈rs',r∈rs)->Paired (fun r (b:List Nat)=>upd H mo o r=some (.lst (nl b))) rs' bs
 |_,_,.nil,_=>.nil
 |_,_,.cons z t,hm=>.cons (by rw [av (BO h z (hm _ (by simp)))];exact z) (sh h t fun r hr=>hm r (zq5 _ hr))
theorem wX{H:Hp}{mo:Addr}{rs:List Addr}{bs:List (List Nat)}{r:Addr}{b:List Nat}(h:H mo=some (.lst (rs.map V.ref)))(hp:Paired (fun r (b:List Nat)=>H r=some (.lst (nl b))) rs bs)(hr:H r=some (.lst (nl b)))(ne:r≠mo):
  Paired (fun q (b:List Nat)=>upd H mo (.lst (rs.map V.ref++[.ref r])) q=some (.lst (nl b))) (rs++[r]) (bs++[b]):=Paired.snoc (sh h hp fun _ h=>h) (by rw [av ne];exact hr)
theorem zw{bt:List Nat}{p:Nat}:nl bt++[V.int p]=nl (bt++[p]):=by unfold nl;rw [cD];rfl
noncomputable def rq(K:W.Frag)(C:Addr)(p d b m:Addr)(H:Hp)(Q:VK):Prop:=∃(ds:List FB.Deed)(us:List Int)(dn bt ms:List Nat),LayerH K C H p ds us/\SqT K H d (nl dn)/\SqL K H b (nl bt)/\SqL K H m (nl ms)/\(∀q∈bt,q<ds.length)/\bt.length<=8/\(∀q∈ms,q<ds.length)/\ms.length<=8/\∀H',Same H H'->Q (.bl (GD.roomB (aL ds) (soN ds) (uN us) dn bt ms)) H'
noncomputable def sR(K:W.Frag)(C:Addr):Sp:=fun vs H Q _=>∃(p d b m:Addr),vs=[.ref p,.ref d,.ref b,.ref m]/\rq K C p d b m H Q
noncomputable def mX(K:W.Frag)(C:Addr)(p d c:Addr)(i:Int)(H:Hp)(Q:VK):Prop:=∃(ds:List FB.Deed)(us:List Int)(dn:List Nat)(bts:List (List Nat)) (pl:Nat),i=pl/\LayerH K C H p ds us/\SqT K H d (nl dn)/\LLN H c bts/\pl<ds.length/\(∀b∈bts,(∀q∈b,q<ds.length)/\b.length<=7)/\bts.length<=1000/\
 ∀c' H',Same H H'->LLN H' c' (GD.bE (aL ds) (soN ds) (uN us) dn bts pl)->Q (.ref c') H'
noncomputable def oU(K:W.Frag)(C:Addr):Sp:=fun vs H Q _=>∃(p d c:Addr)(i:Int),vs=[.ref p,.ref d,.ref c,.int i]/\mX K C p d c i H Q
theorem qu{C p d b m:Addr}{Q:VK}{E:XK}:sR K C [.ref p,.ref d,.ref b,.ref m] H Q E=rq K C p d b m H Q:=propext ⟨by rintro ⟨_,_,_,_,e,q⟩;cases e;exact q,fun q=>⟨p,d,b,m,rfl,q⟩⟩
theorem sv{C p d c:Addr}{i:Int}{Q:VK}{E:XK}:oU K C [.ref p,.ref d,.ref c,.int i] H Q E=mX K C p d c i H Q:=propext ⟨by rintro ⟨_,_,_,_,e,q⟩;cases e;exact q,fun q=>⟨p,d,c,i,rfl,q⟩⟩
noncomputable def fRm(f:Nat->Bool):V->V
 | .int i=>.bl (f i.toNat)
 |_=>.non
theorem zI(T:Txt K mg t):FnOk P w K mg base CX0 2 t.f_22 t.e_22 ["self","done","beat","missing"] (sR K t.C_Layer):=by
 have G_23:=@rW P w K mg base t T;refine T.d_22.F.ok Fl ∅ ?_;rintro cdv A outer s H vs Q E hr ⟨p,d,b,m,rfl,ds,us,dn,bt,ms,L,hD,hB,hM,hbt,hlb,hms,hlm,q⟩;refine ⟨_,
   (XSs.h
   (aj
    (aq (aw (nv rfl) gl T.z_any boot_any (aa (bu (tns:=["place"]) (cns:=["self","done","beat"]) (ci:=[0,1,2]) rfl (CompSc.of (by kernel_rfl)) (aZ (yqv 3 vl)) (fun _=>(aC (i:=1) (show List.Nodup [(".0":Str),("place":Str),("self":Str),("done":Str),("beat":Str)] by decide +kernel) rfl ll (Or.inr (by kernel_rfl)))) (fun _=>cr) (fun _=>(cq (aR dm (yqv 1 vl) (yqv 4 vc) rfl) (cZ (aX T.c_Layer.cl T.d_23 G_23 hr.m (yqv 2 vc) (aa (yqv 3 vc) (aa (yqv 4 vc) (aa (yqv 1 vl) ae)))))))) ae))))),?_⟩
 rw [show aM _ [V.ref p,V.ref d,V.ref b,V.ref m]=[some (.ref p),some (.ref d),some (.ref b),some (.ref m)] from rfl];simp_arith [jI];refine ⟨⟨_,hM⟩,fun acc hacc bk=>?_⟩;refine nB (fun _=>true) (fRm fun q=>!decide (q∈bt)&&GD.bJ (aL ds) (soN ds) (uN us) dn bt q) (by rw [eU,sizeLine_eq];omega) hM hacc (fun x _ H2 Q' s2 h=>h H2 (Same.refl _)) (fun x hx H2 Q' s2 _ h=>?_) fun H2 s2 hacc2=>?_
 ·obtain ⟨qp,hqm,rfl⟩:=zq20.mp hx;simp_arith [jI];refine ⟨_,.inl (s2.seq hB),rfl,fM,?_⟩;rw [jv];have h':∀H',Same H2 H'->Q' (.bl (!decide (qp∈bt)&&GD.bJ (aL ds) (soN ds) (uN us) dn bt qp)) H':=h;obtain ⟨dx,ub,sb,gb,qs,hob,_⟩:=(L.same s2).ob;refine vN (fun hn=>?_) (fun hn=>?_)
  ·rw [decide_eq_false hn,Bool.not_false,qS] at h';exact bL hob rfl ⟨ds,us,dn,bt,qp,rfl,L.same s2,s2.seqT hD,s2.seq hB,hms qp hqm,hbt,hlb,h'⟩
  ·rw [decide_eq_true hn,Bool.not_true,uZ] at h';exact h' H2 (Same.refl _)
 rw [eQ] at hacc2;refine ⟨ms.map fun q=>!decide (q∈bt)&&GD.bJ (aL ds) (soN ds) (uN us) dn bt q,SqL.of ?_,?_⟩
 ·rw [hacc2];unfold nl;rw [fj,fj];rfl
 ·have z:=q H2 s2;unfold GD.roomB at z;rw [yJ];exact z
theorem wt(T:Txt K mg t):FnOk P w K mg base CX0 2 t.f_21 t.e_21 ["self","done","beats","place"] (oU K t.C_Layer):=by
 have G_23:=@rW P w K mg base t T;refine T.d_21.F.ok sc_21 ∅ ?_;rintro cdv A outer s H vs Q E hr ⟨p,d,c,i,rfl,ds,us,dn,bts,pl,rfl,L,hD,hC,hpl,hb,hl,q⟩;obtain ⟨ps,hc,hps⟩:=hC;have lps:=hps.length;refine ⟨_,
   (XSs.h
   (ai
    (ax (i:=4) sc_21.nd rfl ll (aQ ae))
   (ai
    (bF PassesOwn.never rfl (aZ (yqv 2 vl)) (aC (i:=5) sc_21.nd rfl ll)
     (ai
      (ax (i:=6) sc_21.nd rfl ll (aX T.c_Layer.cl T.d_23 G_23 hr.m (yqv 0 vl) (aa (yqv 1 vl) (aa (yqv 5 vl) (aa (yqv 3 vl) ae)))))
     (bD
      (aF (bi (yqv 6 vl))
       (aj
        (bB (cx PySem.F.plainAttrs_list PySem.F.slot_list_append PySem.F.type_list_append bj (yqv 4 vl) (aa (am gE (yqv 5 vl) (aQ (aa (yqv 3 vl) ae))) ae))))
       aB)
     (aj
      (aF (bU (cj (bR (bi (yqv 6 vl))) (cB (ar j7 (ak aS (cH (yqv 0 vl) rfl) (yqv 3 vl)) fY (aA _)))))
       (aj
        (bB (cx PySem.F.plainAttrs_list PySem.F.slot_list_append PySem.F.type_list_append bj (yqv 4 vl) (aa (yqv 5 vl) ae))))
       aB)))))
   (aj
    (aq (yqv 4 vl)))))),?_⟩
 rw [show aM _ [V.ref p,V.ref d,V.ref c,V.int pl]=[some (.ref p),some (.ref d),some (.ref c),some (.int pl),none,none,none] from rfl];simp_arith [jI];intro mo hmo;refine ⟨⟨_,SqL.of (Same.upd hmo _ _ hc)⟩,?_⟩;refine cY (xs:=ps.map V.ref) (fun i σ H'=>Same H H'/\∃(rs:List Addr)(o5 o6:Option V),σ=[some (.ref p),some (.ref d),some (.ref c),some (.int pl),some (.ref mo),o5,o6]/\H' mo=some (.lst (rs.map V.ref))/\Paired (fun p (b:List Nat)=>H' p=some (.lst (nl b))) rs (GD.bE (aL ds) (soN ds) (uN us) dn (bts.take i) pl)) ⟨Same.upd hmo,[],none,none,rfl,af,.nil⟩ (fun i σ H' _ h=>SqL.of (h.1 _ _ hc)) ?_ ?_
 ·rintro i x σ H1 hx ⟨s1,rs,o5,o6,rfl,hm1,hrs⟩;rw [bM] at hx;obtain ⟨bp,hbp,rfl⟩:=zq35.mp hx;obtain ⟨bt,hbt,hpb⟩:=Paired.get hps hbp;obtain ⟨hi,ei⟩:=zq10.mp hbt;obtain ⟨b1,b2⟩:=hb bt (zq8 hbt);simp_arith only [jI];obtain ⟨dx,ub,sb,gb,qs,hob,hU,hSo,hGp,hql,hq⟩:=(L.same s1).ob;refine bL hob rfl ⟨ds,us,dn,bt,pl,rfl,L.same s1,s1.seqT hD,SqL.of (s1 _ _ hpb),hpl,b1,by omega,fun H2 s2=>?_⟩;refine later ?_;simp_arith! [jI];have s3:=s1.trans s2;have hr2:Paired (fun p (b:List Nat)=>H2 p=some (.lst (nl b))) rs (GD.bE (aL ds) (soN ds) (uN us) dn (bts.take i) pl):=Paired.mapP hrs fun _ _ z=>s2 _ _ z;have e4:GD.bE (aL ds) (soN ds) (uN us) dn (bts.take (i+1)) pl=GD.bE (aL ds) (soN ds) (uN us) dn (bts.take i) pl++GD.gh (aL ds) (soN ds) (uN us) dn bt pl:=by unfold GD.bE;rw [dG hi,ei,List.flatMap_append,List.flatMap_singleton]
  rw [e4];have lr:=hrs.length;have lg:=GD.ir (G:=aL ds) (so:=soN ds) (U:=uN us) (dn:=dn) (bts.take i) pl;rw [d9] at lg;refine ⟨fun σ H'=>Same H H'/\∃rs:List Addr,σ=[some (.ref p),some (.ref d),some (.ref c),some (.int pl),some (.ref mo),some (.ref bp),some (.bl (GD.bJ (aL ds) (soN ds) (uN us) dn bt pl))]/\H' mo=some (.lst (rs.map V.ref))/\Paired (fun p (b:List Nat)=>H' p=some (.lst (nl b))) rs (GD.bE (aL ds) (soN ds) (uN us) dn (bts.take i) pl++(if GD.bJ (aL ds) (soN ds) (uN us) dn bt pl=true then [bt++[pl]] else [])),?_,?_⟩
  ·cases hf:GD.bJ (aL ds) (soN ds) (uN us) dn bt pl with
   |true=>
    simp_arith [if_true];refine ⟨.inl ⟨rfl,_,SqL.of (s2 _ _ hm1)⟩,fun p3 hp3=>⟨nl bt,[V.int pl],Same.upd hp3 _ _ (s2 _ _ (s1 _ _ hpb)),af,by rw [eU,sizeLine_eq,cy];omega,fun p4 hp4=>?_⟩⟩;have s5:=(Same.upd (o:=.lst [V.int pl]) hp3).trans (Same.upd (o:=.lst (nl bt++[V.int pl])) hp4);have m5:=s5 _ _ (s2 _ _ hm1);refine ⟨rs.map V.ref,m5,by rw [zq1,sizeLine_eq];omega,(s3.trans s5).updM hmo,rs++[p4],by rw [af,cD];rfl,?_⟩;exact wX m5 (Paired.mapP hr2 fun _ _ z=>s5 _ _ z) (by rw [af,zw]) (ao (Same.upd hp3 _ _ (s2 _ _ hm1)) hp4).symm
   |false=>simp_arith [Bool.false_eq_true,if_false,List.append_nil];exact ⟨s3,rs,s2 _ _ hm1,hr2⟩
  ·rintro σ H3 ⟨s4,rs2,rfl,hm3,hr3⟩;refine later ?_;have lr3:=hr3.length;rw [zq3] at lr3;have l1:(if GD.bJ (aL ds) (soN ds) (uN us) dn bt pl=true then [bt++[pl]] else []).length<=1:=by split<;>simp
   have app:∀v6:V,(GD.bJ (aL ds) (soN ds) (uN us) dn bt pl=false\/soN ds pl<3)->tyV K "list" (V.ref mo) H3/\∃xs,H3 mo=some (.lst xs)/\xs.length<sizeLine/\Same H (upd H3 mo (.lst (xs++[V.ref bp])))/\∃(rs:List Addr)(o5 o6:Option V),
     [some (V.ref p),some (V.ref d),some (V.ref c),some (V.int ↑pl),some (V.ref mo),some (V.ref bp),some v6]=[some (V.ref p),some (V.ref d),some (V.ref c),some (V.int ↑pl),some (V.ref mo),o5,o6]/\upd H3 mo (.lst (xs++[V.ref bp])) mo=some (.lst (rs.map V.ref))/\
      Paired (fun p (b:List Nat)=>upd H3 mo (.lst (xs++[V.ref bp])) p=some (.lst (nl b))) rs (GD.bE (aL ds) (soN ds) (uN us) dn (bts.take i) pl++GD.gh (aL ds) (soN ds) (uN us) dn bt pl):=fun v6 hor=>by
    refine ⟨.inl ⟨rfl,_,SqL.of hm3⟩,_,hm3,by rw [zq1,sizeLine_eq];omega,s4.updM hmo,rs2++[bp],_,_,rfl,by rw [af,cD];rfl,?_⟩;unfold GD.gh;rw [if_pos hor,<- kq];exact wX hm3 hr3 (s4 _ _ hpb) (ao hpb hmo)
   simp_arith []
   cases hf:GD.bJ (aL ds) (soN ds) (uN us) dn bt pl with
   |false=>
    simp only [Bool.not_false,if_true];exact app _ (.inl hf)
   |true=>
    simp only [Bool.not_true,Bool.false_eq_true,if_false];obtain ⟨dx,ub,sb,gb,qs,hob,hU,hSo,hGp,hql,hq⟩:=(L.same s4).ob;refine iV hob T.c_Layer.cl T.n_Layer_sorts rfl (ixL (SqL.of hSo) (xF hpl) ?_)
    by_cases hs:soN ds pl<3
    ·rw [show sV (ds.getD pl (.tell (.word 0)))=.int (soN ds pl) from if_pos hs,show decide (V.int (soN ds pl)=V.non)=false from rfl];simp only [Bool.not_false,if_true];exact app _ (.inr hs)
    ·rw [show sV (ds.getD pl (.tell (.word 0)))=.non from if_neg hs];simp only [decide_true,Bool.not_true,Bool.false_eq_true,if_false];refine ⟨s4,rs2,_,_,rfl,hm3,?_⟩;unfold GD.gh;rw [if_neg (show ¬(GD.bJ (aL ds) (soN ds) (uN us) dn bt pl=false\/soN ds pl<3) by rw [hf];simp [hs]),gH];exact hr3
 ·rintro σ H1 ⟨s1,rs,o5,o6,rfl,hm1,hrs⟩;simp_arith [];rw [zq1,lps,dZ] at hrs;exact q mo H1 s1 ⟨rs,hm1,hrs⟩
noncomputable def rf(K:W.Frag)(C:Addr)(p d:Addr)(H:Hp)(Q:VK):Prop:=∃(ds:List FB.Deed)(us:List Int)(dn:List Nat),LayerH K C H p ds us/\SqT K H d (nl dn)/\∀c H',Same H H'->LLN H' c (GD.bZ (aL ds) (soN ds) (uN us) ds.length dn)->Q (.ref c) H'
noncomputable def sI(K:W.Frag)(C:Addr):Sp:=fun vs H Q _=>∃(p d:Addr),vs=[.ref p,.ref d]/\rf K C p d H Q
noncomputable def mY(K:W.Frag)(C:Addr)(p a b:Addr)(H:Hp)(Q:VK):Prop:=∃(H0:Hp)(dx:Addr)(ds:List FB.Deed)(us:List Int),Same H0 H/\H0 p=none/\H p=some (.ins C dx [])/\lG K H0 a b ds us/\∀H',Same H0 H'->LayerH K C H' p ds us->Q .non H'
noncomputable def oW(K:W.Frag)(C:Addr):Sp:=fun vs H Q _=>∃(p a b:Addr),vs=[.ref p,.ref a,.ref b]/\mY K C p a b H Q
theorem qt{C p d:Addr}{H:Hp}{Q:VK}{E:XK}:sI K C [.ref p,.ref d] H Q E=rf K C p d H Q:=propext ⟨by rintro ⟨_,_,e,q⟩;cases e;exact q,fun q=>⟨p,d,rfl,q⟩⟩
theorem Aa{C p a b:Addr}{H:Hp}{Q:VK}{E:XK}:oW K C [.ref p,.ref a,.ref b] H Q E=mY K C p a b H Q:=propext ⟨by rintro ⟨_,_,_,e,q⟩;cases e;exact q,fun q=>⟨p,a,b,rfl,q⟩⟩
theorem fR{f:Str}{v:V}:∀{fs:List (Str×V)},(fs.map (·.1)).contains f=false->dq f v fs=fs++[(f,v)]
 | [],_=>rfl
 | (g,x)::r,h=>by
  rw [cM,List.contains_cons,Bool.or_eq_false_iff] at h;have n:¬g=f:=fun z=>by subst z;simp at h
  rw [show dq f v ((g,x)::r)=(if g=f then (g,v)::r else (g,x)::dq f v r) from rfl,if_neg n,fR h.2];rfl
theorem rN{ds:List FB.Deed}{us:List Int}{dn:List Nat}:∀(ms:List Nat)(bts:List (List Nat)) (m:Nat),(∀q∈ms,q<ds.length)->(∀b∈bts,(∀q∈b,q<ds.length)/\b.length<=m)->∀b∈ms.foldl (GD.bE (aL ds) (soN ds) (uN us) dn) bts,(∀q∈b,q<ds.length)/\b.length<=m+ms.length
 | [],_,_,_,h=>h
 |p::ms,bts,m,h1,h2=>fun b hb=>by
  have z:=rN ms (GD.bE (aL ds) (soN ds) (uN us) dn bts p) (m+1) (fun q hq=>h1 q (zq5 _ hq)) (fun c hc=>by
   obtain ⟨b',hb',hc⟩:=zq100.mp hc;obtain ⟨g1,g2⟩:=h2 b' hb';rcases GD.oe hc with ⟨_,rfl⟩ | rfl
   ·refine ⟨fun q hq=>?_,by rw [zq3,cy];omega⟩;rcases zq16.mp hq with hq | hq
    ·exact g1 q hq
    ·rw [zq2.mp hq];exact h1 p (by simp)
   ·exact ⟨g1,by omega⟩) b hb
  exact ⟨z.1,by rw [dB];omega⟩
theorem og{n:Nat}{dn:List Nat}:(GD.ck n dn).length<=n:=by have:=AI (fun p=>!decide (p∈dn)) (List.range n);rwa [g9] at this
theorem zB(T:Txt K mg t):FnOk P w K mg base CX0 3 t.f_20 t.e_20 ["self","done"] (sI K t.C_Layer):=by
 have G_22:=@zI P w K mg base t T;have G_21:=@wt P w K mg base t T;refine T.d_20.F.ok sc_20 ∅ ?_;rintro cdv A outer s H vs Q E hr ⟨p,d,rfl,ds,us,dn,L,hD,q⟩;have h8:=L.h8;obtain ⟨dx,ub,sb,gb,qs,hob,hU,hSo,hGp,hql,hq⟩:=L.ob;refine ⟨_,
   (XSs.h
   (ai
    (ax (i:=3) sc_20.nd rfl lc (bu (tns:=["place"]) (cns:=["done"]) (ci:=[1]) rfl (CompSc.of (by kernel_rfl)) (bV gl T.z_range (aa (aw ay gl T.z_len PySem.boot_len (aa (cH (yqv 0 vc) rfl) ae)) ae)) (fun _=>(aC (i:=1) (show List.Nodup [(".0":Str),("place":Str),("done":Str)] by decide +kernel) rfl ll (Or.inr (by kernel_rfl)))) (fun _=>(dP (ar dm (yqv 1 vl) (yqv 2 vc) rfl))) (fun _=>(yqv 1 vl))))
   (ai
    (ax (i:=4) sc_20.nd rfl ll (aQ (aa (aQ ae) ae)))
   (ai
    (bF PassesOwn.never rfl (aZ (yqv 3 vc)) (aC (i:=2) sc_20.nd rfl ll)
     (aj
      (ax (i:=4) sc_20.nd rfl ll (aX T.c_Layer.cl T.d_21 G_21 hr.m (yqv 0 vc) (aa (yqv 1 vc) (aa (yqv 4 vl) (aa (yqv 2 vl) ae)))))))
   (aj
    (aq (bu (tns:=["beat"]) (cns:=["self","done","missing"]) (ci:=[0,1,3]) rfl (CompSc.of (by kernel_rfl)) (aZ (yqv 4 vl)) (fun _=>(aC (i:=1) (show List.Nodup [(".0":Str),("beat":Str),("self":Str),("done":Str),("missing":Str)] by decide +kernel) rfl ll (Or.inr (by kernel_rfl)))) (fun _=>(dP (bR (bi (aX T.c_Layer.cl T.d_22 G_22 hr.m (yqv 2 vc) (aa (yqv 3 vc) (aa (yqv 1 vl) (aa (yqv 4 vc) ae)))))))) (fun _=>(yqv 1 vl))))))))),?_⟩
 rw [show aM _ [V.ref p,V.ref d]=[some (.ref p),some (.ref d),none,none,none] from rfl];simp_arith [qu,sv];refine iV hob T.c_Layer.cl T.n_Layer_sorts rfl ?_;refine ⟨sb,_,rfl,.inl (SqL.of hSo),by rw [zq1];omega,by rw [zq1];omega,fun acc hacc bk=>?_⟩;rw [zq1,dF];refine jp (fun q=>!decide (q∈dn)) (fun q=>V.int q) (by rw [sizeLine_eq];omega) hacc (fun i hi H2 Q' s2 h=>?_) (fun i hi H2 Q' s2 _ h=>?_) fun H2 s2 hm=>?_
 ·simp_arith [];refine ⟨_,.inr (s2.seqT hD),rfl,fM,?_⟩;rw [jv];exact h H2 (Same.refl _)
 ·simp_arith [];exact h H2 (Same.refl _)
 replace hm:H2 acc=some (.lst (nl (GD.ck ds.length dn))):=hm;have hml:=og (n:=ds.length) (dn:=dn);have hmm:∀q∈GD.ck ds.length dn,q<ds.length:=fun q hq=>(GD.miss_iff.mp hq).1;have hfull:GD.bZ (aL ds) (soN ds) (uN us) ds.length dn=((GD.ck ds.length dn).foldl (GD.bE (aL ds) (soN ds) (uN us) dn) [[]]).filter fun b=>!GD.roomB (aL ds) (soN ds) (uN us) dn b (GD.ck ds.length dn):=rfl;rw [hfull] at q;generalize GD.ck ds.length dn=ms at hm hml hmm q;have hbs:∀i,i<=ms.length->∀b∈(ms.take i).foldl (GD.bE (aL ds) (soN ds) (uN us) dn) [[]],(∀q∈b,q<ds.length)/\b.length<=i:=fun i hi b hb=>by have z:=rN (us:=us) (dn:=dn) (ms.take i) [[]] 0 (fun q hq=>hmm q (tw hq)) (fun b hb=>by rw [zq2.mp hb];exact ⟨fun q hq=>(by cases hq),zq0 _⟩) b hb;rw [d9] at z;exact ⟨z.1,by omega⟩
 have hbl:∀i,i<=ms.length->((ms.take i).foldl (GD.bE (aL ds) (soN ds) (uN us) dn) [[]]).length<=256:=fun i hi=>by have z:=GD.ju (G:=aL ds) (so:=soN ds) (U:=uN us) (dn:=dn) (ms.take i) [[]];rw [d9,cy,Nat.mul_one] at z;exact cL z (cL (yB (by decide) (show min i ms.length<=8 by omega)) (by decide))
 intro p2 hp2 p3 hp3;have s3:=(Same.upd (o:=.lst []) hp2).trans (Same.upd (o:=.lst [V.ref p2]) hp3);refine ⟨⟨_,SqL.of (s3 _ _ hm)⟩,?_⟩;refine cY (xs:=nl ms) (fun i σ H'=>Same H H'/\H' acc=some (.lst (nl ms))/\∃(o2:Option V)(c:Addr),σ=[some (.ref p),some (.ref d),o2,some (.ref acc),some (.ref c)]/\LLN H' c ((ms.take i).foldl (GD.bE (aL ds) (soN ds) (uN us) dn) [[]])) ⟨s2.trans s3,s3 _ _ hm,_,p3,rfl,[p2],af,.cons ?_ .nil⟩ (fun i σ H' _ h=>SqL.of h.2.1) ?_ ?_
 ·rw [av (ao af hp3)];exact af
 ·rintro i x σ H3 hx ⟨s4,hm3,o2,c,rfl,hl⟩;unfold nl at hx;rw [bM] at hx;obtain ⟨pl,hpl,rfl⟩:=zq35.mp hx;obtain ⟨hi,ei⟩:=zq10.mp hpl;simp_arith [sv];refine bL (s4 _ _ hob) rfl ⟨ds,us,dn,_,pl,rfl,L.same s4,s4.seqT hD,hl,hmm pl (zq8 hpl),fun b hb=>⟨(hbs i (by omega) b hb).1,by have:=(hbs i (by omega) b hb).2;omega⟩,by have:=hbl i (by omega);omega,fun c' H4 s5 hl4=>⟨s4.trans s5,s5 _ _ hm3,_,c',rfl,?_⟩⟩;rw [dG hi,ei,qW];exact hl4
 ·rintro σ H3 ⟨s4,hm3,o2,c,rfl,ps,hc,hps⟩;rw [eU] at hps;have hbs':=hbs ms.length (zq0 _);have hbl':=hbl ms.length (zq0 _);rw [dZ] at hps hbs' hbl';generalize ms.foldl (GD.bE (aL ds) (soN ds) (uN us) dn) [[]]=bts at hps hbs' hbl' q;have lps:=hps.length;simp_arith [qu];refine ⟨⟨_,SqL.of hc⟩,fun acc2 hacc2 bk2=>?_⟩;refine dh (xs:=ps.map V.ref) (fun i ys H'=>Same H3 H'/\∃rs:List Addr,ys=rs.map V.ref/\H' acc2=some (.lst ys)/\rs.length<=i/\Paired (fun r (b:List Nat)=>H3 r=some (.lst (nl b))) rs ((bts.take i).filter fun b=>!GD.roomB (aL ds) (soN ds) (uN us) dn b ms)) ⟨Same.upd hacc2,[],rfl,af,zq0 _,.nil⟩ (fun i ys H' _ h=>SqL.of (h.1 _ _ hc)) ?_ ?_
  ·rintro i x ys H' os hx ho ⟨sm,rs,rfl,e1,lrs,hrs⟩;rw [bM] at hx;obtain ⟨bp,hbp,rfl⟩:=zq35.mp hx;obtain ⟨bt,hbt,hpb⟩:=Paired.get hps hbp;obtain ⟨hi,ei⟩:=zq10.mp hbt;obtain ⟨b1,b2⟩:=hbs' bt (zq8 hbt)
   match os,ho with
   | [o],_=>
    simp_arith [qu];have s5:=s4.trans sm;refine ⟨⟨[some (.ref bp)],rfl,rfl⟩,bL (s5 _ _ hob) rfl ⟨ds,us,dn,bt,ms,L.same s5,s5.seqT hD,SqL.of (sm _ _ hpb),SqL.of (sm _ _ hm3),b1,by omega,hmm,by omega,fun H5 s6=>⟨_,rfl,?_⟩⟩⟩;have s7:=sm.trans s6;rw [dG hi,ei,yT]
    cases hroom:GD.roomB (aL ds) (soN ds) (uN us) dn bt ms with
    |false=>
     simp only [Bool.not_false,if_true];refine ⟨s6 _ _ e1,by rw [zq1,sizeLine_eq];omega,s7.updM hacc2,rs++[bp],by rw [cD];rfl,af,by rw [zq3,cy];omega,?_⟩;rw [List.filter_cons_of_pos (by rw [hroom];rfl),List.filter_nil];exact Paired.snoc hrs hpb
    |true=>simp only [Bool.not_true,Bool.false_eq_true,if_false];refine ⟨s7,rs,rfl,s6 _ _ e1,by omega,?_⟩;rw [List.filter_cons_of_neg (by rw [hroom];simp),List.filter_nil,gH];exact hrs
  ·rintro ys H' ⟨sm,rs,rfl,e1,lrs,hrs⟩;rw [zq1,lps,dZ] at hrs;exact q acc2 H' (s4.trans sm) ⟨rs,e1,Paired.mapP hrs fun _ _ z=>sm _ _ z⟩
theorem ww(T:Txt K mg t)(hw:t.pr=w.params):FnOk P w K mg base CX0 11 t.f_19 t.e_19 ["self","deeds","units"] (oW K t.C_Layer):=by
 have G_15:=uv (P:=P) (base:=base) T hw;have G_17:=@BQ P w K mg base t T;refine T.d_19.F.ok Fk ∅ ?_;rintro cdv A outer s H vs Q E hr ⟨p,a,b,rfl,H0,dx,ds,us,s0,hp0,hp,hI,q⟩;obtain ⟨xs,hS,hds,h8,hU,h3,hpos⟩:=hI;have lx:=hds.length;refine ⟨_,
   (XSs.h
   (ai
    (dQ (yqv 0 vl) (yqv 2 vl) rfl)
   (ai
    (dQ (yqv 0 vl) (bu (tns:=["deed"]) (cns:=[]) (ci:=[]) rfl (CompSc.of (by kernel_rfl)) (aZ (yqv 1 vc)) (fun _=>(aC (i:=1) (show List.Nodup [(".0":Str),("deed":Str)] by decide +kernel) rfl ll (Or.inr (by kernel_rfl)))) (fun _=>cr) (fun _=>(ap T.d_15 G_15 hr.m (aa (yqv 1 vl) ae) gl))) rfl)
   (aj
    (dQ (yqv 0 vl) (uU (z0:="k") (tns:=["k"]) (cns:=["deeds"]) (ci:=[1]) rfl (CompScZ.of (by kernel_rfl) (fun _ _=>rfl) (fun _=>rfl)) (bV gl T.z_range (aa (aw ay gl T.z_len PySem.boot_len (aa (yqv 1 vc) ae)) ae)) (fun _=>(aC (i:=1) (show List.Nodup [(".0":Str),("k":Str),("deeds":Str)] by decide +kernel) rfl lc (Or.inl rfl))) (fun _=>cr) (fun _=>(bu (tns:=["j"]) (cns:=["k","deeds"]) (ci:=[1,2]) rfl (CompSc.of (by kernel_rfl)) (bV gl T.z_range (aa (yqv 1 vc) ae)) (fun _=>(aC (i:=1) (show List.Nodup [(".0":Str),("j":Str),("k":Str),("deeds":Str)] by decide +kernel) rfl ll (Or.inr (by kernel_rfl)))) (fun _=>cr) (fun _=>(ap T.d_17 G_17 hr.m (aa (yqv 3 vc) (aa (yqv 1 vl) (aa (yqv 2 vc) ae))) gl))))) rfl))))),?_⟩
 rw [show aM _ [V.ref p,V.ref a,V.ref b]=[some (.ref p),some (.ref a),some (.ref b)] from rfl];simp_arith! [jK,jJ];refine nT hp T.c_Layer.cl T.n_Layer_units (by simp) ?_;rw [fR (by rfl),yX];have s1:=s0.updM (o:=.ins t.C_Layer dx [("units",V.ref b)]) hp0;have e1:upd H p (.ins t.C_Layer dx [("units",V.ref b)]) p=some (.ins t.C_Layer dx [("units",V.ref b)]):=af;generalize upd H p (.ins t.C_Layer dx [("units",V.ref b)])=H1 at s1 e1 ⊢;refine later ?_;simp_arith! [jK,jJ];refine ⟨⟨_,s1.seq hS⟩,fun acc hacc bk=>?_⟩;refine dh (xs:=xs) (fun i ys H'=>Same H1 H'/\H' acc=some (.lst ys)/\ys=(ds.take i).map sV) ⟨Same.upd hacc,af,by simp⟩ (fun i ys H' _ h=>(s1.trans h.1).seq hS) ?_ ?_
 ·rintro i x ys H' os hx ho ⟨sm,e2,rfl⟩;obtain ⟨d,hd,fd,qx,rfl,hqx⟩:=Paired.get (hds.ts (s1.trans sm).ts) hx;obtain ⟨hi,ei⟩:=zq10.mp hd
  match os,ho with
  | [o],_=>simp_arith [jK];refine ⟨⟨[some (.ref qx)],rfl,rfl⟩,d,hqx,fd,e2,by rw [zq1,d9,sizeLine_eq];omega,sm.updM hacc,af,?_⟩;rw [dG hi,ei,cD];rfl
 ·rintro ys H2 ⟨s2,e2,rfl⟩;rw [lx,dZ] at e2;have fa:=s1.free hacc;refine nT (s2 _ _ e1) T.c_Layer.cl T.n_Layer_sorts (by simp) ?_;rw [fR (by kernel_rfl)];have npa:acc≠p:=(ao e1 hacc).symm;have s3:=(s1.trans s2).updM (o:=.ins t.C_Layer dx ([(("units":Str),V.ref b)]++[(("sorts":Str),V.ref acc)])) hp0;have e3:upd H2 p (.ins t.C_Layer dx ([(("units":Str),V.ref b)]++[(("sorts":Str),V.ref acc)])) p=some (.ins t.C_Layer dx ([(("units":Str),V.ref b)]++[(("sorts":Str),V.ref acc)])):=af;have g3:upd H2 p (.ins t.C_Layer dx ([(("units":Str),V.ref b)]++[(("sorts":Str),V.ref acc)])) acc=some (.lst (ds.map sV)):=by rw [av npa];exact e2
  generalize upd H2 p (.ins t.C_Layer dx ([(("units":Str),V.ref b)]++[(("sorts":Str),V.ref acc)]))=H3 at s3 e3 g3 ⊢;refine later ?_;simp_arith! [jJ];refine ⟨xs,.inl (s3.seq hS),by omega,by omega,fun ac2 hac2 bk2=>?_⟩;rw [dF,lx];refine jo (fun k ys H'=>Same H3 H'/\∃qs:List Addr,ys=qs.map V.ref/\H' ac2=some (.lst ys)/\qs.length=k/\∀(j:Nat)q,qs[j]?=some q->q≠ac2/\H' q=some (.lst ((List.range j).map fun i=>FB.md (aL ds i j)))) ⟨Same.upd hac2,[],rfl,af,rfl,fun j q h=>by simp at h⟩ ?_ ?_
  ·rintro k ys H' os hk ho ⟨sm,qs,rfl,e4,lq,hqs⟩;rw [show (0:Int)+(k:Int)=(k:Int) by omega]
   match os,ho with
   | [o],_=>
    simp_arith [jJ];refine ⟨⟨[some (.int k)],rfl,rfl⟩,by omega,by omega,fun ac3 hac3 bk3=>?_⟩;rw [dF];refine jp (fun _=>true) (fun j=>FB.md (aL ds j k)) (by rw [sizeLine_eq];omega) hac3 (fun j hj H4 Q' s4 h=>h H4 (Same.refl _)) (fun j hj H4 Q' s4 _ h=>?_) fun H4 s4 e5=>?_
    ·simp_arith [jJ];have s5:=(s3.trans sm).trans s4;exact ⟨xs,ds,j,k,rfl,rfl,s5.seq hS,hds.ts s5.ts,hj,by omega,h⟩
    ·rw [List.filter_eq_self.mpr (fun _ _=>rfl)] at e5;refine ⟨s4 _ _ e4,by rw [zq1,sizeLine_eq];omega,(sm.trans s4).updM hac2,qs++[ac3],by rw [cD];rfl,af,by rw [zq3,cy];omega,fun j q hj=>?_⟩;have n3:ac3≠ac2:=(ao e4 hac3).symm
     by_cases hlt:j<qs.length
     ·rw [j3 hlt] at hj;obtain ⟨z1,z2⟩:=hqs j q hj;exact ⟨z1,by rw [av z1];exact s4 _ _ z2⟩
     ·have hjl:=(zq10.mp hj).1;rw [zq3,cy] at hjl;obtain rfl:j=qs.length:=by omega
      rw [iJ (zq0 _),mJ] at hj
      cases hj
      refine ⟨n3,?_⟩;rw [av n3,lq];exact e5
  ·rintro ys H4 ⟨s4,qs,rfl,e4,lq,hqs⟩;refine nT (s4 _ _ e3) T.c_Layer.cl T.n_Layer_gaps (by simp) ?_;rw [fR (by kernel_rfl)];have nac:ac2≠p:=(ao e3 hac2).symm;have s5:=(s3.trans s4).updM (o:=.ins t.C_Layer dx ([(("units":Str),V.ref b)]++[(("sorts":Str),V.ref acc)]++[(("gaps":Str),V.ref ac2)])) hp0;refine q _ s5 ⟨⟨dx,b,acc,ac2,qs,af,s5.seqT hU,?_,?_,lq,fun k qq hk=>?_⟩,h8,h3,hpos⟩
   ·rw [av npa];exact s4 _ _ g3
   ·rw [av nac];exact e4
   ·obtain ⟨z1,z2⟩:=hqs k qq hk;rw [av (df z2 (s4 _ _ e3) (by intro z;cases z))];exact z2
variable {H H':Hp}
noncomputable def LSt(H H':Hp):Prop:=∀b xs,H b=some (.lst xs)->H' b=some (.lst xs)
theorem LSt.of(s:Same H H'):LSt H H':=fun b xs e=>s _ _ e
theorem LSt.trans{H1 H2:Hp}(a:LSt H H1)(b:LSt H1 H2):LSt H H2:=fun c xs e=>b _ _ (a _ _ e)
theorem LSt.upd{l:Addr}{o u:HO}(e:H l=some u)(hn:∀xs,u≠.lst xs):LSt H (upd H l o):=fun b xs eb=>by rw [av (df eb e (fun z=>hn xs z.symm))];exact eb
theorem LLN.lst{c:Addr}{bts:List (List Nat)}(s:LSt H H')(h:LLN H c bts):LLN H' c bts:=
 let ⟨ps,e,r⟩:=h;⟨ps,s _ _ e,Paired.mapP r fun _ _ z=>s _ _ z⟩
noncomputable def km(ps:List Nat):List Key:=ps.map fun p:Nat=>(Sum.inl (p:Int):Key)
theorem rS{ps:List Nat}:(km ps).map kV=nl ps:=by unfold km nl;rw [fj];rfl
theorem vS:∀{a b:List Nat},km a=km b->a=b
 | [],[],_=>rfl
 | [],_::_,h=>by cases h
 |_::_,[],h=>by cases h
 |x::a,y::b,h=>by unfold km at h;rw [cM,cM,List.cons.injEq] at h;have e:(x:Int)=(y:Int):=Sum.inl.inj h.1;rw [vS (a:=a) (b:=b) h.2,show x=y by omega]
noncomputable def WsV(H:Hp)(kvs:List (List Key×V))(ws:List (List Nat×List (List Nat))):Prop:=Paired (fun (kv:List Key×V) (w:List Nat×List (List Nat))=>kv.1=km w.1/\∃c,kv.2=.ref c/\LLN H c w.2) kvs ws
theorem WsV.lst{kvs:List (List Key×V)}{ws:List (List Nat×List (List Nat))}(s:LSt H H')(h:WsV H kvs ws):WsV H' kvs ws:=Paired.mapP h fun _ _ ⟨z1,c,z2,z3⟩=>⟨z1,c,z2,z3.lst s⟩
theorem WsV.val{kvs:List (List Key×V)}{ws:List (List Nat×List (List Nat))}(h:WsV H kvs ws)(k:List Nat):(k∉ws.map (·.1)/\bA kvs (km k)=none)\/∃w∈ws,w.1=k/\∃c,bA kvs (km k)=some (.ref c)/\LLN H c w.2:=by
 unfold WsV at h
 induction h with
 |nil=>exact .inl ⟨by simp,rfl⟩
 | @cons kv w kvs ws hd tl ih=>
  obtain ⟨e1,c,e2,hl⟩:=hd
  by_cases e:w.1=k
  ·refine .inr ⟨w,by simp,e,c,?_,hl⟩;rw [bQ (by rw [e1,e]),e2]
  ·have ne:¬kv.1=km k:=fun z=>e (vS (e1.symm.trans z));rcases ih with ⟨h1,h2⟩ | ⟨w',hw',h1,c',h2,h3⟩
   ·refine .inl ⟨?_,by rw [bI ne];exact h2⟩;rw [cM,zq6];exact fun z=>z.elim (fun z=>e z.symm) h1
   ·exact .inr ⟨w',zq5 _ hw',h1,c',by rw [bI ne];exact h2,h3⟩
theorem WsV.put{kvs:List (List Key×V)}{ws:List (List Nat×List (List Nat))}(h:WsV H kvs ws){k:List Nat}{c:Addr}{bss:List (List Nat)}(hc:LLN H c bss):WsV H (kvs++[(km k,.ref c)]) (ws++[(k,bss)]):=Paired.snoc h ⟨rfl,c,rfl,hc⟩
structure RoundH(H1 H:Hp)(wa lo:Addr)(o:Obj)(kvs:List (List Key×V))(ws acc:List (List Nat×List (List Nat))):Prop where
 same:Same H1 H
 fr:H1 lo=none
 old:H wa=some (.frz o (.dT kvs))
 wsv:WsV H kvs ws
 now:∃kv2,H lo=some (.dT kv2)/\WsV H kv2 acc
theorem RoundH.mv{H1:Hp}{wa lo:Addr}{o:Obj}{kvs:List (List Key×V)}{ws acc:List (List Nat×List (List Nat))}(h:RoundH H1 H wa lo o kvs ws acc)(s:Same H H'):RoundH H1 H' wa lo o kvs ws acc:=
 ⟨h.same.trans s,h.fr,s _ _ h.old,h.wsv.lst (LSt.of s),let ⟨kv2,e,r⟩:=h.now;⟨kv2,s _ _ e,r.lst (LSt.of s)⟩⟩
theorem RoundH.put{H1 H:Hp}{wa lo:Addr}{o:Obj}{kvs kv2:List (List Key×V)}{ws acc:List (List Nat×List (List Nat))}{k:List Nat}{c:Addr}{bss:List (List Nat)}(h:RoundH H1 H wa lo o kvs ws acc)(e:H lo=some (.dT kv2))(r:WsV H kv2 acc)(hk:k∉acc.map (·.1))(hc:LLN H c bss):
  RoundH H1 (upd H lo (.dT (kv2++[(km k,.ref c)]))) wa lo o kvs ws (GD.i0 acc k bss):=by
 have ls:LSt H (upd H lo (.dT (kv2++[(km k,.ref c)]))):=LSt.upd e (by intro xs z;cases z);refine ⟨h.same.updM h.fr,h.fr,?_,h.wsv.lst ls,kv2++[(km k,.ref c)],af,?_⟩
 ·rw [av (df h.old e (by intro z;cases z))];exact h.old
 ·unfold GD.i0;rw [if_neg hk];exact (r.put hc).lst ls
noncomputable def oV(K:W.Frag):Sp:=fun vs H Q _=>∃(a b:Addr)(ds:List FB.Deed)(us:List Int),vs=[.ref a,.ref b]/\lG K H a b ds us/\∀c r bss H',Same H H'->LLN H' c bss->(List.range ds.length,bss)∈GD.ce (aL ds) (soN ds) (uN us) ds.length r->(∀k,k<r->List.range ds.length∉(GD.ce (aL ds) (soN ds) (uN us) ds.length k).map (·.1))->Q (.ref c) H'
theorem xf{ty td:TE}{σ:L2.St}{H:Hp}{Q:VK}:sW ty td σ H Q=ty σ H fun y H1=>td σ H1 fun x H2=>∃a o,x=.ref a/\DGet H2 a y o/\Q (.bl (!o.isSome)) H2:=rfl
theorem wu(T:Txt K mg t)(hw:t.pr=w.params):FnOk P w K mg base CX0 14 t.f_18 t.e_18 ["deeds","units"] (oV K):=by
 have G_19:=ww (P:=P) (base:=base) T hw;have G_20:=@zB P w K mg base t T;refine T.d_18.F.ok sc_18 ∅ ?_;rintro cdv A outer s H vs Q E hr ⟨a,b,ds,us,rfl,hI,q⟩;have hu:=fh hr;refine ⟨_,
   (XSs.h
   (ai
    (ax (i:=2) sc_18.nd rfl ll (lF T.c_Layer T.d_19 G_19 hr.m (aa (yqv 0 vl) (aa (yqv 1 vl) ae)) gl))
   (ai
    (ax (i:=3) sc_18.nd rfl ll (qN rfl T.z_tuple T.z_range (aa (aw ay gl T.z_len PySem.boot_len (aa (yqv 0 vl) ae)) ae) gl gl))
   (ai
    (ax (i:=4) sc_18.nd rfl ll (qM hu (aN ae) (aQ ae)))
   (ai
    (iH PassesOwn.never (AB (qL hu (yqv 3 vl) (yqv 4 vl)))
     (ai
      (ax (i:=5) sc_18.nd rfl ll uW)
     (ai
      (bF PassesOwn.never rfl (qO (yqv 4 vl)) (fZ rfl (bv (aC (i:=6) sc_18.nd rfl ll) (bv (aC (i:=7) sc_18.nd rfl ll) eJ)))
       (aj
        (bF PassesOwn.never rfl (aZ (aX T.c_Layer.cl T.d_20 G_20 hr.m (yqv 2 vl) (aa (yqv 6 vl) ae))) (aC (i:=8) sc_18.nd rfl ll)
         (aj
          (bB (cx PySem.F.plainAttrs_dict PySem.F.slot_dict_setdefault PySem.F.type_dict_setdefault (kh hu) (yqv 5 vl) (aa (bw kf gl T.z_tuple boot_tuple (aa (aw nz gl T.z_sorted boot_sorted (aa (am gE (bw dg gl T.z_list boot_list (aa (yqv 6 vl) ae)) (yqv 8 vl)) ae)) ae)) (aa (am gE (yqv 7 vl) (aQ (aa (yqv 8 vl) ae))) ae))))))))
     (aj
      (ax (i:=4) sc_18.nd rfl ll (yqv 5 vl))))))
   (aj
    (aq (fI hu (yqv 4 vl) (yqv 3 vl) (fun _ _=>rfl))))))))),?_⟩
 rw [show aM _ [V.ref a,V.ref b]=[some (.ref a),some (.ref b),none,none,none,none,none,none,none] from rfl];simp_arith! [Aa,qt];intro ly dx hly hdx hne;refine ⟨ly,a,b,rfl,H,dx,ds,us,(Same.upd hdx).trans (Same.upd (by rw [av hne.symm];exact hly)),hly,af,hI,fun H1 s1 L1=>⟨rfl,?_⟩⟩;obtain ⟨xs,hS,hds,h8,hU,h3,hpos⟩:=hI;have lx:=hds.length;refine later ?_;simp_arith! [];refine ⟨xs,.inl (s1.seq hS),ds.length,by rw [lx],by omega,fun ev hev=>?_⟩;have s2:=s1.updN (o:=.tup ((List.range ds.length).map fun i:Nat=>V.int i)) hev;have L2:=L1.same (Same.upd (o:=.tup ((List.range ds.length).map fun i:Nat=>V.int i)) hev);have e2:upd H1 ev (.tup ((List.range ds.length).map fun i:Nat=>V.int i)) ev=some (.tup (nl (List.range ds.length))):=af;generalize upd H1 ev (.tup ((List.range ds.length).map fun i:Nat=>V.int i))=H2 at s2 L2 e2 ⊢;refine later ?_;simp_arith! [];intro wa hwa tp htp li hli;have eW:=((Same.upd (o:=.tup []) htp).trans (Same.upd (o:=.lst []) hli)) wa _ af;refine ⟨eW,tp,[],rfl,Same.upd hli _ _ af,?_⟩;have s3:Same H2 (upd (upd (upd (upd H2 wa (.dT [])) tp (.tup [])) li (.lst [])) wa (.dT [([],.ref li)])):=((Same.upd hwa).trans ((Same.upd htp).trans (Same.upd hli))).updM hwa;have e3:upd (upd (upd (upd H2 wa (.dT [])) tp (.tup [])) li (.lst [])) wa (.dT [([],.ref li)]) wa=some (.dT [([],.ref li)]):=af;have w3:WsV (upd (upd (upd (upd H2 wa (.dT [])) tp (.tup [])) li (.lst [])) wa (.dT [([],.ref li)])) [([],.ref li)] (GD.ce (aL ds) (soN ds) (uN us) ds.length 0):=
  .cons ⟨rfl,li,rfl,[],by rw [av (ao (Same.upd htp _ _ af) hli).symm];exact af,.nil⟩ .nil
 generalize upd (upd (upd (upd H2 wa (.dT [])) tp (.tup [])) li (.lst [])) wa (.dT [([],.ref li)])=H3 at s3 e3 w3 ⊢;refine later ?_;simp_arith! [];have hpos2:=L2.pos;obtain ⟨n,hn⟩:∃n,n=ds.length:=⟨_,rfl⟩
 rw [<- hn] at e2 w3 q h8;obtain ⟨dx2,ub,sb,gb,qs,hob,_⟩:=L2.ob;refine ⟨fun m σ H'=>∃(r:Nat)(wa:Addr)(kvs:List (List Key×V)) (o5 o6 o7 o8:Option V),m=n-r/\σ=[some (.ref a),some (.ref b),some (.ref ly),some (.ref ev),some (.ref wa),o5,o6,o7,o8]/\Same H2 H'/\H2 wa=none/\H' wa=some (.dT kvs)/\WsV H' kvs (GD.ce (aL ds) (soN ds) (uN us) n r)/\∀k,k<r->List.range n∉(GD.ce (aL ds) (soN ds) (uN us) n k).map (·.1),
  ⟨_,0,wa,_,none,none,none,none,rfl,rfl,s3,hwa,e3,w3,fun k hk=>absurd hk (by omega)⟩,?_⟩
 rintro m σ H4 ⟨r,wb,kvs,o5,o6,o7,o8,rfl,rfl,s4,hwb,e4,w4,hno⟩;simp_arith! [xf];refine ⟨wb,_,rfl,DGet.t (k:=km (List.range n)) e4 (by rw [rS];exact s4 _ _ e2),?_⟩;rcases w4.val (List.range n) with ⟨hk,hv⟩ | ⟨w',hw',hk',c,hv,hl⟩
 ·rw [hv,if_pos (show (!(none:Option V).isSome)=true from rfl)];have hlt:r<n:=GD.As hpos2 fun k hk2=>by
   by_cases e:k=r
   ·rw [e];exact hk
   ·exact hno k (by omega)
  refine ⟨fun σ H'=>∃(wa:Addr)(kvs:List (List Key×V)) (o5 o6 o7 o8:Option V),σ=[some (.ref a),some (.ref b),some (.ref ly),some (.ref ev),some (.ref wa),o5,o6,o7,o8]/\Same H2 H'/\H2 wa=none/\H' wa=some (.dT kvs)/\WsV H' kvs (GD.ce (aL ds) (soN ds) (uN us) n (r+1)),?_,?_⟩
  ·rintro σ' H' ⟨wc,kv2,p5,p6,p7,p8,rfl,z1,z2,z3,z4⟩;refine ⟨n-(r+1),by omega,r+1,wc,kv2,p5,p6,p7,p8,rfl,rfl,z1,z2,z3,z4,fun k hk2=>?_⟩
   by_cases e:k=r
   ·rw [e];exact hk
   ·exact hno k (by omega)
  intro lo hlo;refine later ?_;simp_arith! [];have sl:=Same.upd (o:=.dT []) hlo;refine ⟨wb,kvs,rfl,sl _ _ e4,fun o=>?_⟩;have nlw:lo≠wb:=(ao e4 hlo).symm;have R0:RoundH H2 (upd (upd H4 lo (.dT [])) wb (.frz o (.dT kvs))) wb lo o kvs (GD.ce (aL ds) (soN ds) (uN us) n r) []:=
   ⟨(s4.trans sl).updM hwb,s4.free hlo,af,w4.lst ((LSt.of sl).trans (LSt.upd (sl _ _ e4) (by intro xs z;cases z))),[],by rw [av nlw];exact af,.nil⟩
  generalize upd (upd H4 lo (.dT [])) wb (.frz o (.dT kvs))=H6 at R0 ⊢;have lw:=w4.length;have wok:=GD.i9 (G:=aL ds) (so:=soN ds) (U:=uN us) (n:=n) r;have hstep:GD.ce (aL ds) (soN ds) (uN us) n (r+1)=(GD.ce (aL ds) (soN ds) (uN us) n r).foldl (fun acc w=>GD.dH n acc w (GD.bZ (aL ds) (soN ds) (uN us) n w.1)) []:=rfl;rw [hstep];generalize GD.ce (aL ds) (soN ds) (uN us) n r=ws at lw wok R0 ⊢;refine vF (fun i σ H'=>RoundH H2 H' wb lo o kvs ws ((ws.take i).foldl (fun acc w=>GD.dH n acc w (GD.bZ (aL ds) (soN ds) (uN us) n w.1)) [])/\∃o6 o7 o8,σ=[some (.ref a),some (.ref b),some (.ref ly),some (.ref ev),some (.ref wb),some (.ref lo),o6,o7,o8]) ⟨R0,_,_,_,rfl⟩ (fun i σ H' _ h=>h.1.old) ?_ ?_
  ·rintro i k v bb σ H7 p hki hb hp ⟨R,o6,o7,o8,rfl⟩;obtain ⟨w,hwi,ek,c,ev2,hlc⟩:=Paired.get R.wsv hki;subst ev2;subst ek;obtain ⟨hi,ei⟩:=zq10.mp hwi;simp_arith! [qt];refine ⟨_,SqT.of af,rfl,?_⟩;have sp:=Same.upd (o:=.tup [.ref bb,.ref c]) hp;have R8:=R.mv sp;have hb8:=sp _ _ hb;have hlc8:=hlc.same sp;generalize upd H7 p (.tup [.ref bb,.ref c])=H8 at R8 hb8 hlc8 ⊢;rw [rS] at hb8;simp_arith! [qt];refine bL (R8.same _ _ hob) rfl ⟨ds,us,w.1,L2.same R8.same,SqT.of hb8,fun c2 H9 s9 hl9=>?_⟩;rw [<- hn] at hl9;obtain ⟨ps,hc2,hps⟩:=hl9;have lps:=hps.length;have R9:=R8.mv s9;have hl:=wok.lay w (zq8 hwi);obtain ⟨acc,hacc⟩:∃acc,acc=(ws.take i).foldl (fun acc w=>GD.dH n acc w (GD.bZ (aL ds) (soN ds) (uN us) n w.1)) []:=⟨_,rfl⟩
   have eacc:(ws.take (i+1)).foldl (fun acc w=>GD.dH n acc w (GD.bZ (aL ds) (soN ds) (uN us) n w.1)) []=GD.dH n acc w (GD.bZ (aL ds) (soN ds) (uN us) n w.1):=by rw [dG hi,ei,qW,hacc];rfl
   have aok:GD.WOk (aL ds) (soN ds) (uN us) n (r+1) acc:=by rw [hacc];exact GD.WOk.step _ _ (fun x hx=>wok.lay x (tw hx)) ⟨fun x hx=>(by cases hx),by simp⟩
   rw [eacc];rw [<- hacc] at R9;have hfine:∀b∈GD.bZ (aL ds) (soN ds) (uN us) n w.1,GD.Fine (aL ds) (soN ds) (uN us) w.1 (GD.ck n w.1) b/\b∈GD.bZ (aL ds) (soN ds) (uN us) n w.1:=fun b hb=>⟨GD.iq hpos2 hb,hb⟩
   generalize hbs:GD.bZ (aL ds) (soN ds) (uN us) n w.1=bs at hps hfine lps ⊢;refine ⟨c2,rfl,⟨_,SqL.of hc2⟩,?_⟩;refine cY (xs:=ps.map V.ref) (fun j σ H'=>RoundH H2 H' wb lo o kvs ws (GD.dH n acc w (bs.take j))/\LSt H9 H'/\H' bb=some (.tup (nl w.1))/\∃o8,σ=[some (.ref a),some (.ref b),some (.ref ly),some (.ref ev),some (.ref wb),some (.ref lo),some (.ref bb),some (.ref c),o8]) ⟨by simpa [GD.dH] using R9,fun _ _ e=>e,s9 _ _ hb8,_,rfl⟩ (fun j σ H' _ h=>SqL.of (h.2.1 _ _ hc2)) ?_ ?_
   ·rintro j x σ H10 hx ⟨R10,ls,hb10,o9,rfl⟩;rw [bM] at hx;obtain ⟨bp,hbp,rfl⟩:=zq35.mp hx;obtain ⟨bt,hbt,hpb⟩:=Paired.get hps hbp;obtain ⟨hj,ej⟩:=zq10.mp hbt;obtain ⟨hf,hff⟩:=hfine bt (zq8 hbt);simp_arith [];obtain ⟨kv2,elo,wlo⟩:=R10.now;have hcan:=hl.1.can;have hwl:w.1.length<=8:=by have:=hcan.len;omega
    have hbl:bt.length<=8:=by have:=hf.sub.length_le;have:=og (n:=n) (dn:=w.1);omega
    have aok':GD.WOk (aL ds) (soN ds) (uN us) n (r+1) (GD.dH n acc w (bs.take j)):=GD.WOk.add hl.1 hl.2 _ _ (fun b hb=>by rw [hbs];exact (hfine b (tw hb)).2) aok;have hkl:kv2.length<=256:=by rw [wlo.length];exact cL aok'.len (cL (yB (by decide) h8) (by decide))
    obtain ⟨cs,hcc,hcs⟩:=(hlc8.same s9).lst ls;have lcs:=hcs.length;have lr:=hl.2;refine ⟨.inr (.inr (.inl ⟨rfl,.inr ⟨kv2,elo⟩⟩)),nl w.1,.inr (SqT.of hb10),fun l1 hl1=>⟨nl w.1,nl bt,af,Same.upd hl1 _ _ (ls _ _ hpb),by rw [eU,eU,sizeLine_eq];omega,fun l2 hl2=>?_⟩⟩;have Sb:=(Same.upd (o:=.lst (nl w.1)) hl1).trans (Same.upd (o:=.lst (nl w.1++nl bt)) hl2);have eb:upd (upd H10 l1 (.lst (nl w.1))) l2 (.lst (nl w.1++nl bt)) l2=some (.lst (((w.1++bt).map fun p:Nat=>(p:Int)).map V.int)):=by rw [af,fj,cD];rfl
    generalize upd (upd H10 l1 (.lst (nl w.1))) l2 (.lst (nl w.1++nl bt))=Hb at Sb eb ⊢;refine ⟨_,SqL.of eb,by rw [zq1,zq3];omega,fun l3 ns' hl3 hperm hsort=>?_⟩;have ens:ns'=(GD.cT n w.1 bt).map fun p:Nat=>(p:Int):=List.Perm.eq_of_pairwise (fun x y _ _ h1 h2=>Int.le_antisymm h1 h2) hsort (List.pairwise_map.mpr ((GD.lO (n:=n) (dn:=w.1) (b:=bt)).sorted.imp fun h=>by omega)) (hperm.trans ((GD.jw hcan hf.sub).map _));subst ens;have Sc:=Sb.trans (Same.upd (o:=.lst (((GD.cT n w.1 bt).map fun p:Nat=>(p:Int)).map V.int)) hl3);have ec:upd Hb l3 (.lst (((GD.cT n w.1 bt).map fun p:Nat=>(p:Int)).map V.int)) l3=some (.lst (nl (GD.cT n w.1 bt))):=by rw [af,fj];rfl
    generalize upd Hb l3 (.lst (((GD.cT n w.1 bt).map fun p:Nat=>(p:Int)).map V.int))=Hc at Sc ec ⊢;refine ⟨_,.inl ⟨SqL.of ec,fun l4 hl4 l5 hl5=>⟨cs.map V.ref,[.ref bp],((Sc.trans (Same.upd hl4)).trans (Same.upd hl5)) _ _ hcc,af,by rw [zq1,cy,sizeLine_eq];omega,fun l6 hl6=>?_⟩⟩⟩;have Se:=(Same.upd (o:=.lst [V.ref bp]) hl5).trans (Same.upd (o:=.lst (cs.map V.ref++[.ref bp])) hl6);have Sf:=(Sc.trans (Same.upd (o:=.tup (nl (GD.cT n w.1 bt))) hl4)).trans Se;have e4':upd (upd (upd Hc l4 (.tup (nl (GD.cT n w.1 bt)))) l5 (.lst [V.ref bp])) l6 (.lst (cs.map V.ref++[.ref bp])) l4=some (.tup (nl (GD.cT n w.1 bt))):=Se _ _ af;have e6:LLN (upd (upd (upd Hc l4 (.tup (nl (GD.cT n w.1 bt)))) l5 (.lst [V.ref bp])) l6 (.lst (cs.map V.ref++[.ref bp]))) l6 (w.2++[bt]):=⟨cs++[bp],by rw [af,cD];rfl,Paired.snoc (Paired.mapP hcs fun _ _ z=>Sf _ _ z) (Sf _ _ (ls _ _ hpb))⟩
    generalize upd (upd (upd Hc l4 (.tup (nl (GD.cT n w.1 bt)))) l5 (.lst [V.ref bp])) l6 (.lst (cs.map V.ref++[.ref bp]))=Hf at Sf e4' e6 ⊢;have eadd:GD.dH n acc w (bs.take (j+1))=GD.i0 (GD.dH n acc w (bs.take j)) (GD.cT n w.1 bt) (w.2++[bt]):=by rw [dG hj,ej];unfold GD.dH;rw [qW];rfl
    rw [eadd];have R11:=R10.mv Sf;have wlo':=wlo.lst (LSt.of Sf);refine ⟨kv2,km (GD.cT n w.1 bt),Sf _ _ elo,by rw [rS];exact e4',by rw [sizeLine_eq];omega,fun y hy=>?_,fun hy=>?_⟩
    ·rcases wlo'.val (GD.cT n w.1 bt) with ⟨_,hv2⟩ | ⟨w2,hw2,hk2,_⟩
     ·rw [hy] at hv2;cases hv2
     ·unfold GD.i0;rw [if_pos (zq20.mpr ⟨w2,hw2,hk2⟩)];exact ⟨R11,ls.trans (LSt.of Sf),Sf _ _ hb10,_,rfl⟩
    ·rcases wlo'.val (GD.cT n w.1 bt) with ⟨hk2,_⟩ | ⟨_,_,_,_,hv2,_⟩
     ·refine ⟨R11.put (Sf _ _ elo) wlo' hk2 e6,(ls.trans (LSt.of Sf)).trans (LSt.upd (Sf _ _ elo) (by intro xs z;cases z)),?_,_,rfl⟩;rw [av (df (Sf _ _ hb10) (Sf _ _ elo) (by intro z;cases z))];exact Sf _ _ hb10
     ·rw [hy] at hv2;cases hv2
   ·rintro σ H10 ⟨R10,ls,hb10,o9,rfl⟩;rw [zq1,lps,dZ] at R10;exact ⟨R10,_,_,_,rfl⟩
  ·rintro σ H7 ⟨R,o6,o7,o8,rfl⟩;rw [lw,dZ] at R;refine later ?_;simp_arith [];obtain ⟨kv2,e7,w7⟩:=R.now;refine later ?_;simp_arith [];exact ⟨lo,kv2,_,_,_,_,rfl,R.same,R.fr,e7,w7⟩
 ·rw [hv];rw [if_neg (by simp)];refine later ?_;simp_arith [];refine ⟨wb,_,rfl,(by have z:=DGet.t (k:=km (List.range n)) e4 (by rw [rS];exact s4 _ _ e2);rw [hv] at z;exact z),?_⟩;exact q c r w'.2 H4 (s2.trans s4) hl (by rw [<- hk'];exact hw') hno
theorem mO{n:Nat}{w x:List Nat×List (List Nat)}:∀(bs:List (List Nat)) (acc:List (List Nat×List (List Nat))),x∈GD.dH n acc w bs->x∈acc\/∃b∈bs,x=(GD.cT n w.1 b,w.2++[b])
 | [],_,h=>.inl h
 |b::bs,acc,h=>by
  rcases mO bs _ h with h | ⟨c,hc,e⟩
  ·rcases GD.iB h with h | h
   ·exact .inl h
   ·exact .inr ⟨b,by simp,h⟩
  ·exact .inr ⟨c,zq5 _ hc,e⟩
theorem pz{n:Nat}{G:Nat->Nat->Option Int}{so:Nat->Nat}{U:Nat->Int}{x:List Nat×List (List Nat)}:∀(ws acc:List (List Nat×List (List Nat))),x∈ws.foldl (fun acc w=>GD.dH n acc w (GD.bZ G so U n w.1)) acc->x∈acc\/∃w∈ws,∃b∈GD.bZ G so U n w.1,x=(GD.cT n w.1 b,w.2++[b])
 | [],_,h=>.inl h
 |w::ws,acc,h=>by
  rcases pz ws _ h with h | ⟨v,hv,e⟩
  ·rcases mO _ _ h with h | ⟨b,hb,e⟩
   ·exact .inl h
   ·exact .inr ⟨w,by simp,b,hb,e⟩
  ·exact .inr ⟨v,zq5 _ hv,e⟩
structure gc(G:Nat->Nat->Option Int)(so:Nat->Nat)(U:Nat->Int)(bss:List (List Nat))(dn:List Nat):Prop where
 ne:∀b∈bss,b≠[]
 srt:∀b∈bss,b.Pairwise (· < ·)
 perm:bss.flatten.Perm dn
 load:∀b∈bss,∀s,s<3->(GD.fk so b s:Int)<=U s
 lean:∀(i:Nat)b k,bss[i]?=some b->k∈b->∀j,j<k->∀l,G j k=some l->∃(i':Nat)(b':List Nat),bss[i']?=some b'/\j∈b'/\(i':Int)+l<=i
theorem lC{n:Nat}{G:Nat->Nat->Option Int}{so:Nat->Nat}{U:Nat->Int}(hU:∀s,s<3->0<U s)(hG:∀j k l,G j k=some l->l<=1):∀r,(∀k,k<r->List.range n∉(GD.ce G so U n k).map (·.1))->∀w∈GD.ce G so U n r,gc G so U w.2 w.1
 |0,_,w,hw=>by
  rw [GD.ce,zq2] at hw;subst hw;exact ⟨fun b h=>(by cases h),fun b h=>(by cases h),.refl _,fun b h=>(by cases h),fun i b k h=>by simp at h⟩
 |r+1,hno,w,hw=>by
  rcases pz _ _ hw with h | ⟨v,hv,b,hb,rfl⟩
  ·cases h
  have ih:=lC hU hG r (fun k hk=>hno k (by omega)) v hv;have hcan:=((GD.i9 r).lay v hv).1.can;have hne:v.1≠List.range n:=fun e=>hno r (by omega) (zq20.mpr ⟨v,hv,e⟩);have fb:=GD.iq hU hb;refine ⟨fun c hc=>?_,fun c hc=>?_,?_,fun c hc=>?_,fun i c k hi hk j hj l hl=>?_⟩
  ·rcases zq16.mp hc with hc | hc
   ·exact ih.ne c hc
   ·rw [zq2.mp hc];exact GD.rL hU hb (hcan.miss hne)
  ·rcases zq16.mp hc with hc | hc
   ·exact ih.srt c hc
   ·rw [zq2.mp hc];exact List.Pairwise.sublist fb.sub GD.fz
  ·rw [List.flatten_append];simp only [List.flatten_cons,List.flatten_nil,List.append_nil];exact (ih.perm.append_right b).trans (GD.jw hcan fb.sub)
  ·rcases zq16.mp hc with hc | hc
   ·exact ih.load c hc
   ·rw [zq2.mp hc];exact fb.load
  ·by_cases hlt:i<v.2.length
   ·rw [j3 hlt] at hi;obtain ⟨i',b',h1,h2,h3⟩:=ih.lean i c k hi hk j hj l hl;have:=(zq10.mp h1).1;exact ⟨i',b',by rw [j3 this];exact h1,h2,h3⟩
   ·have hil:=(zq10.mp hi).1;rw [zq3,cy] at hil;obtain rfl:i=v.2.length:=by omega
    rw [iJ (zq0 _),mJ] at hi
    cases hi
    have z:=fb.lean k hk j hj;unfold GD.cR at z;rw [hl] at z;simp only [Bool.or_eq_true,Bool.and_eq_true,decide_eq_true_eq] at z;rcases z with z | ⟨z1,z2⟩
    ·obtain ⟨b',hb',hjb⟩:=zq81.mp (ih.perm.mem_iff.mpr z);obtain ⟨i',hi',e⟩:=List.mem_iff_getElem.mp hb';refine ⟨i',b',by rw [j3 hi',zq4 hi',e],hjb,?_⟩;have:=hG j k l hl;omega
    ·exact ⟨v.2.length,b,by rw [iJ (zq0 _),mJ];rfl,z2,by omega⟩
theorem BB{ds:List FB.Deed}{j k:Nat}{l:Int}(h:aL ds j k=some l):0<=l/\l<=1:=by
 unfold aL at h
 split at h
 ·unfold FB.iW at h
  split at h
  ·cases h;decide
  ·split at h
   ·cases h;decide
   ·split at h
    ·cases h;decide
    ·cases h
 ·cases h
variable {i:Nat} {us:List Int}
noncomputable def bW(ds:List FB.Deed)(p:Nat):FB.Deed:=ds.getD p (.tell (.word 0))
noncomputable def aJ(ds:List FB.Deed)(bss:List (List Nat)):List (List FB.Deed):=bss.map fun b=>b.map (bW ds)
noncomputable def wrB(ds:List FB.Deed)(n:Str):Bool:=ds.any fun d=>decide (wrV d=.str n)
noncomputable def ez(bs:List (List FB.Deed)):List FB.Deed:=bs.getLastD []
noncomputable def iS(bs:List (List FB.Deed)):FZ.Ed->Bool
 | .choose n _ _=>wrB (ez bs) n
 |_=>false
noncomputable def bT(b:FZ.Blk)(bss:List (List Nat)):List (List FB.Deed):=if (aJ b.ds bss).isEmpty || iS (aJ b.ds bss) b.ed then aJ b.ds bss++[[]] else aJ b.ds bss
noncomputable def qe(fs:List Nat):FZ.Ed->FZ.Ed
 | .stop=>.stop
 | .go i=>.go (fs.getD i 0)
 | .choose n i j=>.choose n (fs.getD i 0) (fs.getD j 0)
noncomputable def eY(l:List (List (List FB.Deed))):Nat:=(l.map List.length).sum
noncomputable def br(bbs:List (List (List FB.Deed))):List Nat:=(List.range bbs.length).map fun i=>eY (bbs.take i)
noncomputable def fE(m:Nat)(bs:List (List FB.Deed))(ed:FZ.Ed):List FZ.Blk:=(bs.dropLast.mapIdx fun j d=>⟨d,.go (m+j+1)⟩)++[⟨ez bs,ed⟩]
noncomputable def lJ(fs:List Nat)(acc:List FZ.Blk)(p:FZ.Blk×List (List FB.Deed)):List FZ.Blk:=acc++fE acc.length p.2 (qe fs p.1.ed)
noncomputable def i8(B:List FZ.Blk)(bbs:List (List (List FB.Deed))):List FZ.Blk:=(B.zip bbs).foldl (lJ (br bbs)) []
noncomputable def ee(us:List Int)(b:FZ.Blk)(bs:List (List FB.Deed)):Prop:=∃bss,gc (aL b.ds) (soN b.ds) (uN us) bss (List.range b.ds.length)/\bs=bT b bss
theorem ig{b:FZ.Blk}{bss:List (List Nat)}:bT b bss≠[]:=by
 unfold bT
 split
 ·simp
 ·next h=>intro z;rw [z] at h;exact h rfl
theorem m3{bs:List (List FB.Deed)}(h:bs≠[]):bs=bs.dropLast++[ez bs]:=by unfold ez;rw [yL,List.getLast?_eq_some_getLast h,Option.getD_some];exact (yC h).symm
theorem kS{m:Nat}{bs:List (List FB.Deed)}{ed:FZ.Ed}(h:bs≠[]):(fE m bs ed).length=bs.length:=by unfold fE;rw [zq3,v8,ku,cy];have:=zq74.mpr h;omega
theorem oG{m:Nat}{bs:List (List FB.Deed)}{ed:FZ.Ed}(h:bs≠[]):∀r∈fE m bs ed,r.ds∈bs:=fun r hr=>by
 unfold fE at hr;rw [m3 h];rcases zq16.mp hr with hr | hr
 ·obtain ⟨j,hj,e⟩:=List.mem_mapIdx.mp hr;rw [<- e];exact kl _ (ko _)
 ·rw [zq2.mp hr];exact dY _ (zq2.mpr rfl)
theorem oH{m:Nat}{bs:List (List FB.Deed)}{ed:FZ.Ed}(h:bs≠[]):∀r∈fE m bs ed,r.ed=ed\/∃k,r.ed=.go k/\k<m+bs.length:=fun r hr=>by
 unfold fE at hr;rcases zq16.mp hr with hr | hr
 ·obtain ⟨j,hj,e⟩:=List.mem_mapIdx.mp hr;rw [<- e];rw [ku] at hj;exact .inr ⟨_,rfl,by omega⟩
 ·rw [zq2.mp hr];exact .inl rfl
theorem eG{bbs:List (List (List FB.Deed))}{bs:List (List FB.Deed)}(h:bbs[i]?=some bs):eY (bbs.take (i+1))=eY (bbs.take i)+bs.length:=by obtain ⟨hi,e⟩:=zq10.mp h;unfold eY;rw [dG hi,e,cD,List.sum_append];simp
theorem mz{bbs:List (List (List FB.Deed))}(i:Nat):eY (bbs.take i)<=eY bbs:=by
 unfold eY
 conv=>rhs;rw [<- tD i bbs,cD,List.sum_append]
 exact pR _ _
theorem fL{bbs:List (List (List FB.Deed))}(hne:∀bs∈bbs,bs≠[])(hi:i<bbs.length):(br bbs).getD i 0=eY (bbs.take i)/\eY (bbs.take i)<eY bbs:=by
 refine ⟨?_,?_⟩
 ·unfold br;rw [eN,bM,yK hi];rfl
 ·have h1:=eG (zq4 hi);have h2:=mz (bbs:=bbs) (i+1);have h3:=zq74.mpr (hne _ (ko hi));omega
noncomputable def g8(B:List FZ.Blk)(bbs:List (List (List FB.Deed)))(i:Nat):List FZ.Blk:=((B.zip bbs).take i).foldl (lJ (br bbs)) []
theorem dC{B:List FZ.Blk}{bbs:List (List (List FB.Deed))}{b:FZ.Blk}{bs:List (List FB.Deed)}(hb:B[i]?=some b)(hs:bbs[i]?=some bs):g8 B bbs (i+1)=lJ (br bbs) (g8 B bbs i) (b,bs):=by
 have hz:(B.zip bbs)[i]?=some (b,bs):=by rw [yM];exact ⟨hb,hs⟩
 obtain ⟨hi,e⟩:=zq10.mp hz;unfold g8;rw [dG hi,e,qW];rfl
theorem fF{B:List FZ.Blk}{bbs:List (List (List FB.Deed))}(hl:B.length=bbs.length):g8 B bbs B.length=i8 B bbs:=by unfold g8 i8;rw [k8 (by rw [List.length_zip];omega)]
theorem fG{B:List FZ.Blk}{bbs:List (List (List FB.Deed))}(hl:B.length=bbs.length)(hne:∀bs∈bbs,bs≠[]):∀i,i<=B.length->(g8 B bbs i).length=eY (bbs.take i)
 |0,_=>rfl
 |i+1,hi=>by have hb:B[i]?=some B[i]:=zq4 (by omega);have hs:bbs[i]?=some bbs[i]:=zq4 (by omega);rw [dC hb hs,eG hs,lJ,zq3,fG hl hne i (by omega),kS (hne _ (ko _))]
theorem y7{ns:List Str}{w:Int}{us:List Int}{B:List FZ.Blk}{bbs:List (List (List FB.Deed))}(hl:B.length=bbs.length)(hne:∀bs∈bbs,bs≠[])(hG:FZ.gI ns w B.length B)(hd:∀(i:Nat)b bs,B[i]?=some b->bbs[i]?=some bs->∀l∈bs,l.length<=8/\∀d∈l,d∈b.ds):
  ∀i,i<=B.length->FZ.gI ns w (eY bbs) (g8 B bbs i)
 |0,_=>fun r hr=>by cases hr
 |i+1,hi=>fun r hr=>by
  have hb:B[i]?=some B[i]:=zq4 (by omega);have hs:bbs[i]?=some bbs[i]:=zq4 (by omega);have hn:=hne _ (zq8 hs);rw [dC hb hs,lJ] at hr;rcases zq16.mp hr with hr | hr
  ·exact y7 (us:=us) hl hne hG hd i (by omega) r hr
  have hbG:=hG _ (zq8 hb);have h1:=hd i _ _ hb hs r.ds (oG hn r hr);have ht:∀k,k∈B[i].ed.tg->(br bbs).getD k 0<eY bbs:=fun k hk=>by have hz:=fL hne (i:=k) (by have:=hbG.tg k hk;omega);rw [hz.1];exact hz.2
  refine ⟨fun d hd2=>hbG.gd d (h1.2 d hd2),h1.1,?_,?_⟩
  ·rcases oH hn r hr with e | ⟨k,e,hk⟩
   ·rw [e]
    cases he:B[i].ed with
    |stop=>intro z hz;cases hz
    |go k=>rw [he] at ht;intro z hz;rw [zq2.mp hz];exact ht k (by simp [FZ.Ed.tg])
    |choose n k j=>
     rw [he] at ht;intro z hz;have hz':z∈[(br bbs).getD k 0,(br bbs).getD j 0]:=hz;rcases zq6.mp hz' with y | y
     ·rw [y];exact ht k (by simp [FZ.Ed.tg])
     ·rw [zq2.mp y];exact ht j (by simp [FZ.Ed.tg])
   ·rw [e];intro z hz;rw [zq2.mp hz];rw [fG hl hne i (by omega)] at hk;have h2:=eG hs;have h3:=mz (bbs:=bbs) (i+1);omega
  ·intro n k j e2;rcases oH hn r hr with e | ⟨k',e,_⟩
   ·rw [e] at e2
    cases he:B[i].ed with
    |stop=>rw [he] at e2;cases e2
    |go k=>rw [he] at e2;cases e2
    |choose n' k' j'=>rw [he] at e2;cases e2;exact hbG.nm n k' j' he
   ·rw [e] at e2;cases e2
theorem sZ{B:List FZ.Blk}{bbs:List (List (List FB.Deed))}(hl:B.length=bbs.length)(hne:∀bs∈bbs,bs≠[]){Z:List FB.Deed->Prop}(hz:∀bs∈bbs,∀l∈bs,Z l):∀i,i<=B.length->∀r∈g8 B bbs i,Z r.ds
 |0,_=>fun r hr=>by cases hr
 |i+1,hi=>fun r hr=>by
  have hb:B[i]?=some B[i]:=zq4 (by omega);have hs:bbs[i]?=some bbs[i]:=zq4 (by omega);rw [dC hb hs,lJ] at hr;rcases zq16.mp hr with hr | hr
  ·exact sZ hl hne hz i (by omega) r hr
  ·exact hz _ (zq8 hs) _ (oG (hne _ (zq8 hs)) r hr)
structure BeatP(us:List Int)(l:List FB.Deed):Prop where
 one:l.Pairwise fun d e=>¬(d.tells=true/\e.tells=true)/\∀n∈d.writes,n∉e.writes
 load:∀s,s<3->((l.countP fun d=>decide (cU d=s)):Int)<=uN us s
theorem BeatP.nil(h:∀s,s<3->0<=uN us s):BeatP us []:=⟨.nil,fun s hs=>h s hs⟩
theorem ft:∀{bss:List (List Nat)} {i i':Nat} {b b':List Nat} {j:Nat},bss.flatten.Nodup->bss[i]?=some b->bss[i']?=some b'->j∈b->j∈b'->i=i'
 | [],i,i',b,b',j,_,h,_,_,_=>by simp at h
 |c::r,i,i',b,b',j,nd,h,h',m,m'=>by
  rw [yN,zq65] at nd
  match i,i',h,h' with
  |0,0,_,_=>rfl
  |0,k+1,h,h'=>
   cases h
   exact absurd rfl (nd.2.2 j m j (zq81.mpr ⟨b',zq8 h',m'⟩))
  |k+1,0,h,h'=>
   cases h'
   exact absurd rfl (nd.2.2 j m' j (zq81.mpr ⟨b,zq8 h,m⟩))
  |k+1,k'+1,h,h'=>rw [ft nd.2.1 h h' m m']
theorem eg{ds:List FB.Deed}{bss:List (List Nat)}(h:gc (aL ds) (soN ds) (uN us) bss (List.range ds.length)):∀b∈bss,BeatP us (b.map (bW ds))/\b.length<=ds.length/\∀p∈b,p<ds.length:=fun b hb=>by
 have nd:bss.flatten.Nodup:=h.perm.nodup_iff.mpr yZ;have lt:∀p∈b,p<ds.length:=fun p hp=>zq34.mp (h.perm.mem_iff.mp (zq81.mpr ⟨b,hb,hp⟩));obtain ⟨i,hi⟩:=zq67.mp hb;refine ⟨⟨?_,fun s hs=>?_⟩,?_,lt⟩
 ·rw [List.pairwise_map];refine List.Pairwise.imp_of_mem (fun {j k} hj hk hjk=>?_) (h.srt b hb);have no:aL ds j k≠some 1:=fun e=>by obtain ⟨i',b',h1,h2,h3⟩:=h.lean i b k hi hk j hjk 1 e;have:=ft nd hi h1 hj h2;omega
  have e1:ds[j]?=some (bW ds j):=by unfold bW;rw [eN,zq4 (lt j hj)];rfl
  have e2:ds[k]?=some (bW ds k):=by unfold bW;rw [eN,zq4 (lt k hk)];rfl
  unfold aL at no;rw [e1,e2] at no;dsimp only at no;unfold FB.iW at no;refine ⟨fun z=>?_,fun n hn hn2=>?_⟩
  ·rw [if_pos z] at no;exact no rfl
  ·split at no
   ·exact no rfl
   ·rw [if_pos ⟨n,hn,.inr hn2⟩] at no;exact no rfl
 ·have z:=h.load b hb s hs;unfold GD.fk at z;rw [List.countP_map];exact z
 ·have z:=h.perm.length_eq;rw [g9] at z;have:=(List.sublist_flatten_of_mem hb).length_le;omega
theorem cJ{b:FZ.Blk}{bs:List (List FB.Deed)}(hu:∀s,s<3->0<=uN us s)(h8:b.ds.length<=8)(h:ee us b bs):bs≠[]/\∀l∈bs,BeatP us l/\l.length<=8/\∀d∈l,d∈b.ds:=by
 obtain ⟨bss,hg,rfl⟩:=h;refine ⟨ig,fun l hl=>?_⟩;have old:l∈aJ b.ds bss->BeatP us l/\l.length<=8/\∀d∈l,d∈b.ds:=fun hl=>by obtain ⟨c,hc,rfl⟩:=zq20.mp hl;obtain ⟨h1,h2,h3⟩:=eg hg c hc;refine ⟨h1,by rw [zq1];omega,fun d hd=>?_⟩;obtain ⟨p,hp,rfl⟩:=zq20.mp hd;unfold bW;rw [eN,zq4 (h3 p hp)];exact ko _
 unfold bT at hl
 split at hl
 ·rcases zq16.mp hl with hl | hl
  ·exact old hl
  ·rw [zq2.mp hl];exact ⟨BeatP.nil hu,cc _,fun d hd=>by cases hd⟩
 ·exact old hl
noncomputable def dI(l:List FB.Deed):List Str:=l.flatMap FB.Deed.writes
noncomputable def bfB(us:List Int)(l:List FB.Deed):Bool:=decide ((bC (dI l)).length=(dI l).length)&&decide (l.length<=(dI l).length+1)&&(List.range 3).all fun s=>decide (((l.countP fun d=>decide (cU d=s)):Int)<=uN us s)
theorem yh{d:FB.Deed}:d.writes.length=if d.tells then 0 else 1:=by cases d<;>rfl
theorem yi:∀{l:List FB.Deed},(l.Pairwise fun d e=>¬(d.tells=true/\e.tells=true)/\∀n∈d.writes,n∉e.writes)->(dI l).Nodup/\l.length<=(dI l).length+1/\((∀d∈l,d.tells=false)->(dI l).length=l.length)
 | [],_=>⟨AH,cc _,fun _=>rfl⟩
 |d::l,h=>by
  rw [tu] at h;obtain ⟨h1,h2,h3⟩:=yi h.2;have e:dI (d::l)=d.writes++dI l:=rfl;rw [e,zq3,dB,yh];refine ⟨zq65.mpr ⟨by cases d<;>simp [FB.Deed.writes],h1,fun a ha b hb ab=>?_⟩,?_,fun z=>?_⟩
  ·subst ab;obtain ⟨c,hc,hac⟩:=zq100.mp hb;exact (h.1 c hc).2 a ha hac
  ·split
   ·next ht=>
    have:=h3 fun c hc=>by
     cases hct:c.tells with
     |false=>rfl
     |true=>exact absurd ⟨ht,hct⟩ (h.1 c hc).1
    omega
   ·omega
  ·rw [if_neg (by rw [z d (by simp)];decide),h3 fun c hc=>z c (zq5 _ hc)];omega
theorem BeatP.bf{l:List FB.Deed}(h:BeatP us l):bfB us l=true:=by obtain ⟨h1,h2,_⟩:=yi h.one;unfold bfB;rw [decide_eq_true ((ix _).2.2.mpr h1),decide_eq_true h2,qS,qS,zq37];exact fun s hs=>decide_eq_true (h.load s (zq34.mp hs))
noncomputable def vm(K:W.Frag)(e f:Addr)(H:Hp)(Q:VK):Prop:=∃(ed:FZ.Ed)(fs:List Nat),H e=some (.tup (dk ed))/\SqL K H f (nl fs)/\(∀i∈ed.tg,i<fs.length)/\∀e' H',Same H H'->H' e'=some (.tup (dk (qe fs ed)))->Q (.ref e') H'
noncomputable def xM(K:W.Frag):Sp:=fun vs H Q _=>∃e f:Addr,vs=[.ref e,.ref f]/\vm K e f H Q
noncomputable def rB(K:W.Frag)(a:Addr)(n:Str)(H:Hp)(Q:VK):Prop:=∃(xs:List V)(ds:List FB.Deed),SqL K H a xs/\Paired (DeedV1 K H) xs ds/\ds.length<=1000/\∀H',Same H H'->Q (.bl (wrB ds n)) H'
noncomputable def sU(K:W.Frag):Sp:=fun vs H Q _=>∃(a:Addr)(n:Str),vs=[.ref a,.str n]/\rB K a n H Q
section
variable {K:W.Frag} {te:TE} {ci:List Nat} {σ:L2.St} {acc:Addr} {Q:Hp->Prop} {H1:Hp} {a:Addr} {xs:List V}
theorem rD(fs:List V)(hz:xs.length<=sizeLine)(hlen:xs.length=fs.length)(hl:SqL K H1 a xs)(hacc:H1 acc=none)
  (hf:∀(i:Nat)x y,xs[i]?=some x->fs[i]?=some y->∀H Q',Same H1 H->(∀H',Same H H'->Q' y H')->te (aG [some x] ci σ) H Q')
  (q:∀H,Same H1 H->H acc=some (.lst fs)->Q H):bX (Itl K a) (bG 1) j2 te 1 ci σ acc Q (upd H1 acc (.lst [])):=by
 refine dh (fun i ys H=>ys=fs.take i/\Same H1 H/\H acc=some (.lst ys)) ⟨by simp,Same.upd hacc,af⟩ (fun i ys H _ h=>h.2.1.seq hl) ?_ ?_
 ·rintro i x ys H os hi ho ⟨rfl,sm,ha⟩;have hi':i<fs.length:=by have:=(zq10.mp hi).1;omega
  have e:(aG os ci σ).set 1 (some x)=aG [some x] ci σ:=by
   match os,ho with
   | [o],_=>rfl
  show (∃os',os'.length=1/\(aG os ci σ).set 1 (some x)=aG os' ci σ)/\j2 ((aG os ci σ).set 1 (some x)) H _;rw [e];refine ⟨⟨[some x],rfl,rfl⟩,?_⟩;unfold j2;dsimp only;rw [if_pos rfl];exact hf i x fs[i] hi (zq4 hi') _ _ sm fun H3 s3=>⟨s3 _ _ ha,by rw [d9];omega,(dG hi').symm,(sm.trans s3).updM hacc,af⟩
 ·rintro ys H ⟨rfl,sm,ha⟩;rw [hlen,dZ] at ha;exact q H sm ha
end
theorem sC{e f:Addr}{H:Hp}{Q:VK}{E:XK}:xM K [.ref e,.ref f] H Q E=vm K e f H Q:=propext ⟨by rintro ⟨_,_,e,q⟩;cases e;exact q,fun q=>⟨_,_,rfl,q⟩⟩
theorem xw{a:Addr}{n:Str}{H:Hp}{Q:VK}{E:XK}:sU K [.ref a,.str n] H Q E=rB K a n H Q:=propext ⟨by rintro ⟨_,_,e,q⟩;cases e;exact q,fun q=>⟨_,_,rfl,q⟩⟩
theorem m9{fs:List Nat}{i:Nat}(h:i<fs.length):(nl fs)[i]?=some (V.int (fs.getD i 0)):=by unfold nl;rw [bM,eN,zq4 h];rfl
theorem BU(T:Txt K mg t):FnOk P w K mg base CX0 1 t.f_16 t.e_16 ["ending","places"] (xM K):=by
 refine T.d_16.F.ok Fj ∅ ?_;rintro cdv A outer s H vs Q E hr ⟨e,f,rfl,ed,fs,he,hf,ht,q⟩;refine ⟨_,
   (XSs.h
   (ai
    (aF (ar aT (ak au (yqv 0 vl) ac) aE (aA _))
     (aj
      (aq (aN (aa aE (aa (ak aS (yqv 1 vl) (ak au (yqv 0 vl) ac)) ae)))))
     aB)
   (ai
    (aF (ar aT (ak au (yqv 0 vl) ac) aE (aA _))
     (aj
      (aq (aN (aa aE (aa (ak au (yqv 0 vl) ac) (aa (ak aS (yqv 1 vl) (ak au (yqv 0 vl) ac)) (aa (ak aS (yqv 1 vl) (ak au (yqv 0 vl) ac)) ae)))))))
     aB)
   (aj
    (aq (yqv 0 vl)))))),?_⟩
 rw [show aM _ [V.ref e,V.ref f]=[some (.ref e),some (.ref f)] from rfl];simp_arith []
 cases ed with
 |stop=>
  refine ⟨_,_,SqT.of he,rfl,rfl,_,rfl,?_⟩;rw [if_neg (by decide +kernel)];refine ⟨_,_,SqT.of he,rfl,rfl,_,rfl,?_⟩;rw [if_neg (by decide +kernel)];exact q e H (Same.refl H) he
 |go i=>
  refine ⟨_,_,SqT.of he,rfl,rfl,_,rfl,?_⟩;rw [if_pos (by decide +kernel)];exact ⟨_,_,SqT.of he,rfl,ixL hf (m9 (ht i (by simp [FZ.Ed.tg]))) fun p hp=>q p _ (Same.upd hp) af⟩
 |choose n i j=>refine ⟨_,_,SqT.of he,rfl,rfl,_,rfl,?_⟩;rw [if_neg (by decide +kernel)];refine ⟨_,_,SqT.of he,rfl,rfl,_,rfl,?_⟩;rw [if_pos (by decide +kernel)];exact ⟨_,_,SqT.of he,rfl,_,_,SqT.of he,rfl,ixL hf (m9 (ht i (by simp [FZ.Ed.tg]))) ⟨_,_,SqT.of he,rfl,ixL hf (m9 (ht j (by simp [FZ.Ed.tg]))) fun p hp=>q p _ (Same.upd hp) af⟩⟩
theorem zK(T:Txt K mg t):FnOk P w K mg base CX0 2 t.f_26 t.e_26 ["deeds","name"] (sU K):=by
 have G_14:=@jC P w K mg base t T;refine T.d_26.F.ok Fm ∅ ?_;rintro cdv A outer s H vs Q E hr ⟨a,n,rfl,xs,ds,ha,hd,hl,q⟩;refine ⟨_,
   (XSs.h
   (aj
    (aq (aw (nv rfl) gl T.z_any boot_any (aa (bu (tns:=["deed"]) (cns:=["name"]) (ci:=[1]) rfl (CompSc.of (by kernel_rfl)) (aZ (yqv 0 vl)) (fun _=>(aC (i:=1) (show List.Nodup [(".0":Str),("deed":Str),("name":Str)] by decide +kernel) rfl ll (Or.inr (by kernel_rfl)))) (fun _=>cr) (fun _=>(aR aT (ap T.d_14 G_14 hr.m (aa (yqv 1 vl) ae) gl) (yqv 2 vc) (aA _)))) ae))))),?_⟩
 rw [show aM _ [V.ref a,V.str n]=[some (.ref a),some (.str n)] from rfl];simp_arith [fT];have lx:=hd.length;refine ⟨⟨_,ha⟩,fun acc hacc bk=>?_⟩;refine rD (ds.map fun d=>V.bl (decide (wrV d=.str n))) (by rw [sizeLine_eq];omega) (by rw [zq1];exact lx) ha hacc (fun i x y hx hy H2 Q' s2 h=>?_) fun H2 s2 e2=>?_
 ·obtain ⟨d,hd1,q0,rfl,hq0,hf⟩:=Paired.get hd hx;rw [bM,hd1] at hy
  cases hy
  simp_arith [fT];refine ⟨d,s2.seqT hq0,hf,?_,h H2 (Same.refl H2)⟩
  cases d<;>rfl
 ·refine ⟨ds.map fun d=>decide (wrV d=.str n),SqL.of (by rw [fj];exact e2),?_⟩;rw [yJ];exact q H2 s2
noncomputable def BtsV(K:W.Frag)(N:Addr->Prop)(H:Hp)(c:Addr)(bs:List (List FB.Deed)):Prop:=∃ps:List Addr,H c=some (.lst (ps.map V.ref))/\Paired (fun p (l:List FB.Deed)=>N p/\∃vs,H p=some (.lst vs)/\Paired (DeedV1 K H) vs l) ps bs
structure Dl(K:W.Frag)(H:Hp)(q u:Addr)(b:FZ.Blk)(us:List Int):Prop where
 ex:∃a e vs,H q=some (.tup [.ref a,.ref e])/\H a=some (.lst vs)/\Paired (DeedV1 K H) vs b.ds/\H e=some (.tup (dk b.ed))
 h8:b.ds.length<=8
 ut:SqT K H u (us.map V.int)
 h3:us.length=3
 hp:∀x∈us,0<x/\x<=3
noncomputable def mQ(K:W.Frag)(q u:Addr)(H:Hp)(Q:VK):Prop:=∃(b:FZ.Blk)(us:List Int),Dl K H q u b us/\∀c bs H',Same H H'->H c=none->ee us b bs->BtsV K (fun p=>H p=none) H' c bs->Q (.ref c) H'
noncomputable def oN(K:W.Frag):Sp:=fun vs H Q _=>∃q u:Addr,vs=[.ref q,.ref u]/\mQ K q u H Q
theorem sk{q u:Addr}{H:Hp}{Q:VK}{E:XK}:oN K [.ref q,.ref u] H Q E=mQ K q u H Q:=propext ⟨by rintro ⟨_,_,e,q⟩;cases e;exact q,fun q=>⟨_,_,rfl,q⟩⟩
theorem sy{a b:Addr}{H:Hp}{Q:VK}{E:XK}:oV K [.ref a,.ref b] H Q E=∃(ds:List FB.Deed)(us:List Int),lG K H a b ds us/\∀c r bss H',Same H H'->LLN H' c bss->(List.range ds.length,bss)∈GD.ce (aL ds) (soN ds) (uN us) ds.length r->(∀k,k<r->List.range ds.length∉(GD.ce (aL ds) (soN ds) (uN us) ds.length k).map (·.1))->Q (.ref c) H':=propext ⟨by rintro ⟨_,_,ds,us,e,q⟩;cases e;exact ⟨ds,us,q⟩,fun ⟨ds,us,q⟩=>⟨_,_,ds,us,rfl,q⟩⟩
theorem mC{us:List Int}(h3:us.length=3)(hp:∀x∈us,0<x/\x<=3):∀s,s<3->0<uN us s:=fun s hs=>by unfold uN;rw [eN,zq4 (by omega)];exact (hp _ (ko _)).1
theorem nV{G:Nat->Nat->Option Int}{so:Nat->Nat}{U:Nat->Int}{bss:List (List Nat)}{dn:List Nat}(h:gc G so U bss dn):bss.length<=dn.length:=by
 have z:=h.perm.length_eq;have g:∀l:List (List Nat),(∀b∈l,b≠[])->l.length<=l.flatten.length:=fun l=>by
  induction l with
  |nil=>intro _;exact cc _
  |cons b l ih=>intro hl;have h1:=ih fun c hc=>hl c (zq5 _ hc);have h2:=zq74.mpr (hl b (by simp));rw [yN,zq3,dB];omega
 have:=g bss h.ne;omega
theorem wg(T:Txt K mg t)(hw:t.pr=w.params):FnOk P w K mg base CX0 15 t.f_25 t.e_25 ["block","units"] (oN K):=by
 have G_18:=@wu P w K mg base t T hw;have G_26:=@zK P w K mg base t T;refine T.d_25.F.ok sc_25 ∅ ?_;rintro cdv A outer s H vs Q E hr ⟨q,u,rfl,b,us,hB,qk⟩;have hu:=fh hr;refine ⟨_,
   (XSs.h
   (ai
    (ax (i:=2) sc_25.nd rfl lc (ak au (yqv 0 vl) ac))
   (ai
    (ax (i:=3) sc_25.nd rfl ll (ak au (yqv 0 vl) ac))
   (ai
    (cQ (i:=4) sc_25.nd rfl ll rfl (by kernel_rfl) (tns:=["beat"]) (cns:=["deeds"]) (ci:=[2]) rfl (CompSc.of (by kernel_rfl)) (aZ (ap T.d_18 G_18 hr.m (aa (yqv 2 vc) (aa (yqv 1 vl) ae)) gl)) (fun _=>(aC (i:=1) (show List.Nodup [(".0":Str),("beat":Str),("deeds":Str)] by decide +kernel) rfl ll (Or.inr (by kernel_rfl)))) (fun _=>cr) (fun _=>(bu (tns:=["place"]) (cns:=["deeds"]) (ci:=[2]) rfl (CompSc.of (by kernel_rfl)) (aZ (yqv 1 vl)) (fun _=>(aC (i:=1) (show List.Nodup [(".0":Str),("place":Str),("deeds":Str)] by decide +kernel) rfl ll (Or.inr (by kernel_rfl)))) (fun _=>cr) (fun _=>(ak aS (yqv 2 vc) (yqv 1 vl))))))
   (ai
    (aF (bU (cj (ar (jF (n:=0) (tZ (by decide) hr)) (yqv 4 vl) (aQ ae) (aA _)) (cB (bU (dR (ar aT (ak au (yqv 3 vl) ac) aE (aA _)) (d7 (bi (ap T.d_26 G_26 hr.m (aa (ak aS (yqv 4 vl) (gG f9 ac)) (aa (ak au (yqv 3 vl) ac) ae)) gl))))))))
     (aj
      (bB (cx PySem.F.plainAttrs_list PySem.F.slot_list_append PySem.F.type_list_append bj (yqv 4 vl) (aa (aQ ae) ae))))
     aB)
   (aj
    (aq (yqv 4 vl)))))))),?_⟩
 rw [show aM _ [V.ref q,V.ref u]=[some (.ref q),some (.ref u),none,none,none] from rfl];simp_arith! [sy,xw];obtain ⟨a,e,vs,hq,ha,hvs,he⟩:=hB.ex;have hds:DeedsV K H vs b.ds:=FL.Paired.imp hvs fun x _ d _ ⟨q0,e1,z1,z2⟩=>⟨z2,q0,e1,z1⟩
 have lvs:=hvs.length;have h8:=hB.h8;refine ⟨_,_,SqT.of hq,rfl,?_⟩;refine later ?_;simp_arith! [];refine ⟨_,_,SqT.of hq,rfl,?_⟩;refine later ?_;simp_arith! [sy];refine ⟨b.ds,us,⟨vs,SqL.of ha,hds,h8,hB.ut,hB.h3,hB.hp⟩,fun c r bss H1 s1 hL hmem hno=>?_⟩;have hg:=lC (mC hB.h3 hB.hp) (fun j k l hl=>(BB hl).2) r hno _ hmem;obtain ⟨ps,hc,hps⟩:=hL;have lps:=hps.length;have lb:bss.length<=b.ds.length:=by have z:=nV hg;rwa [g9] at z
 have lbd:(aJ b.ds bss).length=bss.length:=by unfold aJ;rw [zq1]
 refine ⟨⟨_,SqL.of hc⟩,fun acc hacc bk=>?_⟩;refine dh (xs:=ps.map V.ref) (fun i ys H'=>Same H1 H'/\H' acc=some (.lst ys)/\∃rs:List Addr,ys=rs.map V.ref/\Paired (fun p (l:List FB.Deed)=>H1 p=none/\p≠acc/\∃vs,H' p=some (.lst vs)/\Paired (DeedV1 K H') vs l) rs ((aJ b.ds bss).take i)) ⟨Same.upd hacc,af,[],rfl,.nil⟩ (fun i ys H' _ h=>SqL.of (h.1 _ _ hc)) ?_ ?_
 ·rintro i x ys H2 os hi ho ⟨s2,ha2,rs,rfl,hrs⟩;rw [bM] at hi;obtain ⟨p,hp,rfl⟩:=zq35.mp hi;obtain ⟨bt,hbt,hpb⟩:=Paired.get hps hp;obtain ⟨_,_,hlt⟩:=eg hg bt (zq8 hbt);have eb:(aG os [2] [some (V.ref q),some (V.ref u),some (V.ref a),some (V.ref e),none]).set 1 (some (V.ref p))=aG [some (V.ref p)] [2] [some (V.ref q),some (V.ref u),some (V.ref a),some (V.ref e),none]:=by
   match os,ho with
   | [o],_=>rfl
  show (∃os',os'.length=1/\(aG os [2] [some (V.ref q),some (V.ref u),some (V.ref a),some (V.ref e),none]).set 1 (some (V.ref p))=aG os' [2] _)/\j2 ((aG os [2] _).set 1 (some (V.ref p))) H2 _;rw [eb];refine ⟨⟨[some (V.ref p)],rfl,rfl⟩,?_⟩;unfold j2;dsimp only;rw [if_pos rfl];simp_arith [];refine ⟨⟨_,SqL.of (s2 _ _ hpb)⟩,fun a2 ha2n bk2=>?_⟩;refine rD (bt.map fun p=>vs.getD p .non) (by rw [eU,sizeLine_eq];have:=eg hg bt (zq8 hbt);omega) (by rw [eU,zq1]) (SqL.of (s2 _ _ hpb)) ha2n (fun j x y hx hy H3 Q' s3 h=>?_) fun H3 s3 e3=>?_
  ·rw [bM] at hy;obtain ⟨pl,hpl,rfl⟩:=zq35.mp hy;rw [DI hpl] at hx
   cases hx
   simp_arith [];have hpv:=hlt pl (zq8 hpl);refine ⟨_,_,SqL.of (s3 _ _ (s2 _ _ (s1 _ _ ha))),ba (j:=pl) (v:=vs.getD pl .non) (by rw [eN,zq4 (by omega)];rfl),h H3 (Same.refl H3)⟩
  have na:a2≠acc:=ao ha2 ha2n |>.symm
  have s13:=s2.trans s3;have lr:=hrs.length;have e3a:=s3 _ _ ha2;have sf:Same H1 (upd H3 acc (.lst (List.map V.ref rs++[V.ref a2]))):=s13.updM hacc;have tf:TSame H3 (upd H3 acc (.lst (List.map V.ref rs++[V.ref a2]))):=TSame.updL e3a;rw [d9] at lr;refine ⟨e3a,by rw [zq1,sizeLine_eq];omega,sf,af,rs++[a2],by rw [cD];rfl,?_⟩;have et:(aJ b.ds bss).take (i+1)=(aJ b.ds bss).take i++[bt.map (bW b.ds)]:=by
   have hb:(aJ b.ds bss)[i]?=some (bt.map (bW b.ds)):=by unfold aJ;rw [bM,hbt];rfl
   obtain ⟨h1,h2⟩:=zq10.mp hb;rw [dG h1,h2]
  rw [et];refine FL.Paired.snoc ⟨s2.free ha2n,na,_,by rw [av na];exact e3,?_⟩ (FL.Paired.imp hrs fun r0 _ l _ ⟨z1,z2,vs2,z3,z4⟩=>⟨z1,z2,vs2,by rw [av z2];exact s3 _ _ z3,FL.Paired.imp z4 fun _ _ _ _ z=>z.ts (s3.ts.trans tf)⟩);refine FL.Paired.of_get (by rw [zq1,zq1]) fun j x d hx hd=>?_;rw [bM] at hx hd;obtain ⟨pl,hpl,rfl⟩:=zq35.mp hx;rw [hpl] at hd
  cases hd
  have hpv:=hlt pl (zq8 hpl);obtain ⟨d,hd,hdv⟩:=Paired.get hvs (i:=pl) (a:=vs.getD pl .non) (by rw [eN,zq4 (by omega)];rfl);have ed:bW b.ds pl=d:=by unfold bW;rw [eN,hd];rfl
  rw [ed];exact hdv.ts ((s1.trans s13).ts.trans tf)
 ·rintro ys H2 ⟨s2,ha2,rs,rfl,hrs⟩;rw [zq1,lps,k8 (by unfold aJ;rw [zq1];exact zq0 _)] at hrs;have s02:=s1.trans s2;refine later ?_;simp_arith! [];have fin:∀H3,Same H2 H3->∀bs,ee us b bs->BtsV K (fun p=>H p=none) H3 acc bs->iL (xX (eL 4)) {nx:=fun x H'=>Q V.non H',rt:=Q} [some (V.ref q),some (V.ref u),some (V.ref a),some (V.ref e),some (V.ref acc)] H3:=fun H3 s3 bs hl hv=>by refine later ?_;simp_arith [];exact qk acc bs H3 (s02.trans s3) (s1.free hacc) hl hv
  have hv2:∀H3,Same H2 H3->BtsV K (fun p=>H p=none) H3 acc (aJ b.ds bss):=fun H3 s3=>⟨rs,s3 _ _ ha2,FL.Paired.imp hrs fun r0 _ l _ ⟨z1,z2,vs2,z3,z4⟩=>⟨s1.free z1,vs2,s3 _ _ z3,FL.Paired.imp z4 fun _ _ _ _ z=>z.ts s3.ts⟩⟩
  have hF:∀z,((aJ b.ds bss).isEmpty || iS (aJ b.ds bss) b.ed)=z->bT b bss=if z=true then aJ b.ds bss++[[]] else aJ b.ds bss:=fun z hz=>by unfold bT;rw [hz]
  have lrs:=hrs.length;have stay:∀H3,Same H2 H3->((aJ b.ds bss).isEmpty || iS (aJ b.ds bss) b.ed)=false->iL (xX (eL 4)) {nx:=fun x H'=>Q V.non H',rt:=Q} [some (V.ref q),some (V.ref u),some (V.ref a),some (V.ref e),some (V.ref acc)] H3:=fun H3 s3 hz=>fin H3 s3 _ ⟨bss,hg,(hF _ hz).symm⟩ (hv2 H3 s3);have grow:∀H3,Same H2 H3->((aJ b.ds bss).isEmpty || iS (aJ b.ds bss) b.ed)=true->tyV K "list" (V.ref acc) H3/\∀p,H3 p=none->∃xs,upd H3 p (.lst []) acc=some (.lst xs)/\xs.length<sizeLine/\
    iL (xX (eL 4)) {nx:=fun x H'=>Q V.non H',rt:=Q} [some (V.ref q),some (V.ref u),some (V.ref a),some (V.ref e),some (V.ref acc)] (upd (upd H3 p (.lst [])) acc (.lst (xs++[V.ref p]))):=fun H3 s3 hz=>by
   have e3:=s3 _ _ ha2;refine ⟨.inl ⟨rfl,_,SqL.of e3⟩,fun p hp=>?_⟩;have np:p≠acc:=(ao e3 hp).symm;have t1:=Same.upd (o:=.lst []) hp;refine ⟨_,t1 _ _ e3,by rw [zq1,sizeLine_eq];omega,?_⟩;have tf:TSame (upd H3 p (.lst [])) (upd (upd H3 p (.lst [])) acc (.lst (List.map V.ref rs++[V.ref p]))):=TSame.updL (t1 _ _ e3);refine later ?_;simp_arith [];refine qk acc (bT b bss) _ ((s02.trans (s3.trans t1)).updM (s1.free hacc)) (s1.free hacc) ⟨bss,hg,rfl⟩ ?_;rw [hF _ hz,if_pos rfl];refine ⟨rs++[p],by rw [af,cD];rfl,FL.Paired.snoc ⟨s02.free (s3.free hp),[],by rw [av np];exact af,.nil⟩ (FL.Paired.imp hrs fun r0 _ l _ ⟨z1,z2,vs2,z3,z4⟩=>⟨s1.free z1,vs2,by rw [av z2];exact t1 _ _ (s3 _ _ z3),FL.Paired.imp z4 fun _ _ _ _ z=>z.ts ((s3.trans t1).ts.trans tf)⟩)⟩
  intro p hp;have t1:=Same.upd (o:=.lst []) hp;refine ⟨_,xD (t1 _ _ ha2) af,_,rfl,aH (fun hz=>?_) fun hz=>?_⟩
  ·rw [if_pos trivial];refine grow _ t1 ?_;have:aJ b.ds bss=[]:=zq80.mp (by rw [<- lrs,<- zq1 (f:=V.ref),hz];rfl);rw [this];rfl
  have hbe:(aJ b.ds bss).isEmpty=false:=by
   cases hbd:aJ b.ds bss with
   |nil=>
    rw [hbd] at lrs;exact absurd (by rw [zq80.mp lrs];rfl) hz
   |cons _ _=>rfl
  rw [hbe,Bool.false_or] at grow stay;have he2:=t1 _ _ (s02 _ _ he)
  cases hed:b.ed with
  |stop=>
   rw [hed] at stay grow he2;refine ⟨_,_,SqT.of he2,rfl,rfl,_,rfl,?_⟩;rw [if_neg (by decide +kernel)];exact stay _ t1 rfl
  |go i=>
   rw [hed] at stay grow he2;refine ⟨_,_,SqT.of he2,rfl,rfl,_,rfl,?_⟩;rw [if_neg (by decide +kernel)];exact stay _ t1 rfl
  |choose n i j=>
   rw [hed] at stay grow he2;refine ⟨_,_,SqT.of he2,rfl,rfl,_,rfl,?_⟩;rw [if_pos (by decide +kernel)];rcases Bi rs with z | ⟨rl,pl,z⟩
   ·exact absurd (by rw [z];rfl) hz
   have hpl:rs[rl.length]?=some pl:=by rw [z,v9,iJ (zq0 _),mJ];rfl
   obtain ⟨l,hl,_,_,vl,hvl,hdl⟩:=Paired.get hrs hpl;have el:ez (aJ b.ds bss)=l:=by unfold ez;rw [yL,Bj,<- lrs,z,v9,zq3,cy,Nat.add_sub_cancel,hl];rfl
   have hll:l.length<=8:=(cJ (fun s hs=>yO (mC hB.h3 hB.hp s hs)) h8 ⟨bss,hg,rfl⟩).2 l (by
    unfold bT
    split
    ·exact kl _ (zq8 hl)
    ·exact zq8 hl) |>.2.1
   refine ⟨_,.ref pl,SqL.of (t1 _ _ ha2),by rw [z,v9,cD];exact mP _ _,_,_,SqT.of he2,rfl,?_⟩;rw [xw];refine ⟨vl,l,SqL.of (t1 _ _ hvl),FL.Paired.imp hdl fun _ _ _ _ z=>z.ts t1.ts,by omega,fun H3 s3=>⟨_,rfl,?_⟩⟩;have em:iS (aJ b.ds bss) (.choose n i j)=wrB l n:=by rw [iS,el]
   rw [em] at grow stay;exact gW (fun h=>grow H3 (t1.trans s3) h) fun h=>stay H3 (t1.trans s3) h
variable {H:Hp}
theorem tN{xs:List V}:dU xs none (some (-1))=xs.dropLast:=by
 unfold dU;rw [HT.jN,AJ,v7,Bl];have e:HT.sIx xs.length xs.length (some (-1))=xs.length-1:=by show (if (-1:Int)<0 then (-1+(xs.length:Int)).toNat else min (-1:Int).toNat xs.length)=_;rw [if_pos (by decide)];omega
 rw [e]
theorem ze{x:V}{os:List (Option V)}{ci:List Nat}{σ:L2.St}{Z Y:L2.St->Hp->Prop}(ho:os.length=1)(h:Z (aG [some x] ci σ) H):bG 1 x (aG os ci σ) H fun σ1 H1=>(∃os',os'.length=1/\σ1=aG os' ci σ)/\j2 σ1 H1 fun b H2=>if b=true then Z σ1 H2 else Y σ1 H2:=by
 have e:(aG os ci σ).set 1 (some x)=aG [some x] ci σ:=by
  match os,ho with
  | [o],_=>rfl
 show (∃os',os'.length=1/\(aG os ci σ).set 1 (some x)=aG os' ci σ)/\j2 ((aG os ci σ).set 1 (some x)) H _;rw [e];exact ⟨⟨[some x],rfl,rfl⟩,by unfold j2;dsimp only;rw [if_pos rfl];exact h⟩
noncomputable def nh(K:W.Frag)(C:Addr)(d:Nat)(p u:Addr)(H:Hp)(Q:VK):Prop:=∃(wd:Int)(ins oth:List Str)(ss:List Stm)(a b r:Addr)(ys:List V)(g:List Addr)(us:List Int)(ns:List Str),ProgAt K C H p wd ins oth ss a b r ys g/\bY ss<d/\3 * bc ss<300/\bO ns wd ss/\SqT K H u (us.map V.int)/\us.length=3/\(∀x∈us,0<x/\x<=3)/\
 ∀tb xs bbs H',Same H H'->H tb=none->H' tb=some (.lst xs)->Paired (ee us) (FZ.aO ss) bbs->Paired (BlkV K (fun c=>H c=none) H' tb) xs (i8 (FZ.aO ss) bbs)->Q (.ref tb) H'
noncomputable def pe(K:W.Frag)(C:Addr)(d:Nat):Sp:=fun vs H Q _=>∃p u:Addr,vs=[.ref p,.ref u]/\nh K C d p u H Q
theorem Ae{C p u:Addr}{d:Nat}{Q:VK}{E:XK}:pe K C d [.ref p,.ref u] H Q E=nh K C d p u H Q:=propext ⟨by rintro ⟨_,_,e,q⟩;cases e;exact q,fun q=>⟨_,_,rfl,q⟩⟩
theorem BtsV.mv{N N':Addr->Prop}{H':Hp}{c:Addr}{bs:List (List FB.Deed)}(h:BtsV K N H c bs)(s:Same H H')(hn:∀p,N p->N' p):BtsV K N' H' c bs:=
 let ⟨ps,e,r⟩:=h;⟨ps,s _ _ e,FL.Paired.imp r fun p _ l _ ⟨z1,vs,z2,z3⟩=>⟨hn p z1,vs,s _ _ z2,FL.Paired.imp z3 fun _ _ _ _ z=>z.ts s.ts⟩⟩
theorem BtsV.updL{N:Addr->Prop}{c l:Addr}{bs:List (List FB.Deed)}{us vs:List V}(h:BtsV K N H c bs)(hl:H l=some (.lst us))(hc:c≠l)(hn:∀p,N p->p≠l):BtsV K N (upd H l (.lst vs)) c bs:=
 let ⟨ps,e,r⟩:=h;⟨ps,by rw [av hc];exact e,FL.Paired.imp r fun p _ l _ ⟨z1,vs,z2,z3⟩=>⟨z1,vs,by rw [av (hn p z1)];exact z2,FL.Paired.imp z3 fun _ _ _ _ z=>z.ts (TSame.updL hl)⟩⟩
theorem xZ{N:Addr->Prop}{H:Hp}{tb q a e:Addr}{xs vs:List V}{T:List FZ.Blk}{l:List FB.Deed}{ed:FZ.Ed}(ht:H tb=some (.lst xs))(hx:Paired (BlkV K N H tb) xs T)(hq:H q=some (.tup [.ref a,.ref e]))(ha:H a=some (.lst vs))(hv:Paired (DeedV1 K H) vs l)(he:H e=some (.tup (dk ed)))(hn:a≠tb)(hN:N a):
  Paired (BlkV K N (upd H tb (.lst (xs++[.ref q]))) tb) (xs++[.ref q]) (T++[⟨l,ed⟩]):=
 FL.Paired.snoc (BlkV.sx (b:=⟨l,ed⟩) ⟨q,a,e,vs,rfl,hq,ha,hv,he,hn,hN⟩ SameX.upd ht) (FL.Paired.imp hx fun y _ c _ h=>h.sx SameX.upd ht)
theorem ui{F:Addr->List FB.Deed->Prop}{ps:List Addr}{bs:List (List FB.Deed)}(h:Paired F ps bs)(hn:bs≠[]):∃p,atI (ps.map V.ref) (-1)=some (.ref p)/\F p (ez bs):=by
 have lr:=h.length;rcases Bi ps with z | ⟨rl,pl,z⟩
 ·rw [z] at lr;exact absurd (zq80.mp lr.symm) hn
 have hpl:ps[rl.length]?=some pl:=by rw [z,v9,iJ (zq0 _),mJ];rfl
 obtain ⟨l,hl,hf⟩:=Paired.get h hpl;have el:ez bs=l:=by unfold ez;rw [yL,Bj,<- lr,z,v9,zq3,cy,Nat.add_sub_cancel,hl];rfl
 rw [el];exact ⟨pl,by rw [z,v9,cD];exact mP _ _,hf⟩
theorem nZ{us:List Int}{b:FZ.Blk}{bs:List (List FB.Deed)}(h8:b.ds.length<=8)(h:ee us b bs):bs.length<=9:=by
 obtain ⟨bss,hg,rfl⟩:=h;have z:=nV hg;rw [g9] at z;have lbd:(aJ b.ds bss).length=bss.length:=by unfold aJ;rw [zq1]
 unfold bT
 split
 ·rw [zq3,cy];omega
 ·omega
theorem lh{bbs:List (List (List FB.Deed))}(h:∀bs∈bbs,bs.length<=9):eY bbs<=9 * bbs.length:=by
 induction bbs with
 |nil=>exact cc _
 |cons b l ih=>have h1:=ih fun c hc=>h c (zq5 _ hc);have h2:=h b (by simp);unfold eY at h1 ⊢;rw [cM,List.sum_cons,dB];omega
theorem wD(T:Txt K mg t)(hw:t.pr=w.params)(d:Nat):FnOk P w K mg base CX0 (3 * d+16) t.f_24 t.e_24 ["program","units"] (pe K t.C_Program d):=by
 have G_0:=@uq P w K mg base t T d;have G_25:=@wg P w K mg base t T hw;have G_16:=@BU P w K mg base t T;refine T.d_24.F.ok sc_24 ∅ ?_;rintro cdv A outer s H vs Q E hr ⟨p,u,rfl,wd,ins,oth,ss,a,b,r,ys,g,us,ns,hP,hd,hm,hgd,hU,h3,hp3,qk⟩;have hu:=fh hr;refine ⟨_,
   (XSs.h
   (ai
    (ax (i:=2) sc_24.nd rfl ll (ap T.d_0 G_0 hr.m (aa (yqv 0 vl) ae) gl))
   (ai
    (cQ (i:=4) sc_24.nd rfl ll rfl (by kernel_rfl) (tns:=["block"]) (cns:=["units"]) (ci:=[1]) rfl (CompSc.of (by kernel_rfl)) (aZ (yqv 2 vl)) (fun _=>(aC (i:=1) (show List.Nodup [(".0":Str),("block":Str),("units":Str)] by decide +kernel) rfl ll (Or.inr (by kernel_rfl)))) (fun _=>cr) (fun _=>(ap T.d_25 G_25 hr.m (aa (yqv 1 vl) (aa (yqv 2 vc) ae)) gl)))
   (ai
    (ax (i:=5) sc_24.nd rfl ll (aQ ae))
   (ai
    (ax (i:=6) sc_24.nd rfl ll ac)
   (bD
    (bF PassesOwn.never rfl (aZ (yqv 4 vl)) (aC (i:=7) sc_24.nd rfl ll)
     (ai
      (bB (cx PySem.F.plainAttrs_list PySem.F.slot_list_append PySem.F.type_list_append bj (yqv 5 vl) (aa (yqv 6 vl) ae)))
     (aj
      (ax (i:=6) sc_24.nd rfl ll (am b7 (yqv 6 vl) (aw ay gl T.z_len PySem.boot_len (aa (yqv 7 vl) ae)))))))
   (ai
    (ax (i:=8) sc_24.nd rfl ll (aQ ae))
   (ai
    (bF PassesOwn.never rfl (AA T.z_zip (aa (yqv 2 vl) (aa (yqv 4 vl) ae)) gl) (fZ rfl (bv (aC (i:=3) sc_24.nd rfl ll) (bv (aC (i:=7) sc_24.nd rfl ll) eJ)))
     (bD
      (bF PassesOwn.never rfl (aZ (bq cF (yqv 7 vl) c7 (bh (gG f9 ac)))) (aC (i:=9) sc_24.nd rfl ll)
       (aj
        (bB (cx PySem.F.plainAttrs_list PySem.F.slot_list_append PySem.F.type_list_append bj (yqv 8 vl) (aa (aN (aa (yqv 9 vl) (aa (aN (aa aE (aa (am b7 (aw ay gl T.z_len PySem.boot_len (aa (yqv 8 vl) ae)) ac) ae))) ae))) ae)))))
     (aj
      (bB (cx PySem.F.plainAttrs_list PySem.F.slot_list_append PySem.F.type_list_append bj (yqv 8 vl) (aa (aN (aa (ak aS (yqv 7 vl) (gG f9 ac)) (aa (ap T.d_16 G_16 hr.m (aa (ak au (yqv 3 vl) ac) (aa (yqv 5 vl) ae)) gl) ae))) ae))))))
   (aj
    (aq (yqv 8 vl))))))))))),?_⟩
 rw [show aM _ [V.ref p,V.ref u]=[some (.ref p),some (.ref u),none,none,none,none,none,none,none,none] from rfl];simp_arith! [xb];refine ⟨wd,ins,oth,ss,a,b,r,ys,g,hP,hd,by omega,fun bl bs H1 s1 hbl0 hbl hbs=>?_⟩;have hG:=FZ.jj hgd;have lB:=FZ.gM ss;obtain ⟨B,hB⟩:∃B,B=FZ.aO ss:=⟨_,rfl⟩
 rw [<- hB] at hG lB hbs qk;have lb:=hbs.length;refine later ?_;simp_arith! [sk];refine ⟨⟨_,SqL.of hbl⟩,fun acc hacc bk=>?_⟩;have up:=mC h3 hp3;refine dh (xs:=bs) (fun i ys H'=>Same H1 H'/\H' acc=some (.lst ys)/\∃(rs:List Addr)(bbs:List (List (List FB.Deed))),ys=rs.map V.ref/\Paired (ee us) (B.take i) bbs/\Paired (fun r bs=>H1 r=none/\r≠acc/\BtsV K (fun p=>H1 p=none/\p≠acc) H' r bs) rs bbs) ⟨Same.upd hacc,af,[],[],rfl,.nil,.nil⟩ (fun i ys H' _ h=>SqL.of (h.1 _ _ hbl)) ?_ ?_
 ·rintro i x ys H2 os hi ho ⟨s2,ha2,rs,bbs,rfl,hL,hR⟩;obtain ⟨b0,hb0,hbv⟩:=Paired.get hbs hi;have hb8:=(hG b0 (zq8 hb0)).len;obtain ⟨qb,ab,eb,vs,rfl,v1,v2,v3,v4,v5,v6⟩:=hbv.same s2;refine ze ho ?_;simp_arith [sk];refine ⟨b0,us,⟨⟨ab,eb,vs,v1,v2,v3,v4⟩,hb8,(s1.trans s2).seqT hU,h3,hp3⟩,fun c bs0 H3 s3 hc hl hv=>?_⟩;have e3:=s3 _ _ ha2;have nc:c≠acc:=(ao ha2 hc).symm;have lr:=hR.length;have lL:=hL.length;rw [d9] at lL;refine ⟨e3,by rw [zq1,sizeLine_eq];omega,(s2.trans s3).updM hacc,af,rs++[c],bbs++[bs0],by rw [cD];rfl,?_,?_⟩
  ·obtain ⟨h1,h2⟩:=zq10.mp hb0;rw [dG h1,h2];exact FL.Paired.snoc hl hL
  ·refine FL.Paired.snoc ⟨s2.free hc,nc,?_⟩ (FL.Paired.imp hR fun r0 _ l _ ⟨z1,z2,z3⟩=>⟨z1,z2,(z3.mv s3 fun _ z=>z).updL e3 z2 fun _ z=>z.2⟩);exact (hv.mv (Same.refl _) fun p0 z=>⟨s2.free z,(ao ha2 z).symm⟩).updL e3 nc fun _ z=>z.2
 ·rintro ys H2 ⟨s2,ha2,rs,bbs,rfl,hL,hR⟩;rw [k8 (by omega)] at hL;have lr:=hR.length;have lL:=hL.length;have hne:∀bs∈bbs,bs≠[]/\bs.length<=9:=fun bs hbs=>by obtain ⟨i,hi⟩:=zq67.mp hbs;obtain ⟨b0,hb0,hl⟩:=Paired.getR hL hi;have h8:=(hG b0 (zq8 hb0)).len;exact ⟨(cJ (fun s hs=>yO (up s hs)) h8 hl).1,nZ h8 hl⟩
  have hR2:Paired (fun r bs=>H1 r=none/\BtsV K (fun p=>H1 p=none) H2 r bs) rs bbs:=FL.Paired.imp hR fun r0 _ l _ ⟨z1,_,z3⟩=>⟨z1,z3.mv (Same.refl _) fun _ z=>z.1⟩
  have hsum:=lh fun bs hbs=>(hne bs hbs).2;have hacc0:=hacc;clear hR hacc bk;refine later ?_;simp_arith! [];intro fl hfl;refine later ?_;simp_arith! [];refine later ?_;simp_arith! [];have t1:=Same.upd (o:=.lst []) hfl;refine ⟨fun σ H'=>Same H2 H'/\H' fl=some (.lst (nl (br bbs)))/\∃o6 o7,σ=[some (V.ref p),some (V.ref u),some (V.ref bl),none,some (V.ref acc),some (V.ref fl),o6,o7,none,none],?_,?_⟩
  ·refine ⟨⟨_,SqL.of (t1 _ _ ha2)⟩,?_⟩;refine cY (xs:=rs.map V.ref) (fun i σ H'=>Same H2 H'/\H' fl=some (.lst (nl ((br bbs).take i)))/\∃o7,σ=[some (V.ref p),some (V.ref u),some (V.ref bl),none,some (V.ref acc),some (V.ref fl),some (V.int (eY (bbs.take i))),o7,none,none])
    ⟨t1,af,_,rfl⟩ (fun i σ H' _ h=>SqL.of (h.1 _ _ ha2)) ?_ ?_
   ·rintro i x σ H3 hx ⟨s3,e3,o7,rfl⟩;rw [bM] at hx;obtain ⟨r0,hr0,rfl⟩:=zq35.mp hx;obtain ⟨bs0,hbs0,z1,ps,hps,hpp⟩:=Paired.get hR2 hr0;have hi:=(zq10.mp hbs0).1;have lp:=hpp.length;have lf:(br bbs).length=bbs.length:=by unfold br;rw [zq1,g9]
    have ltk:=eU (ps:=(br bbs).take i);rw [d9] at ltk;simp_arith [];have nr:r0≠fl:=ao hps hfl;refine ⟨.inl ⟨rfl,_,SqL.of e3⟩,_,e3,by rw [ltk,sizeLine_eq];omega,ps.map V.ref,.inl (SqL.of (by rw [av nr];exact s3 _ _ hps)),s3.updM hfl,?_,some (V.ref r0),?_⟩
    ·have hf:(br bbs)[i]?=some (eY (bbs.take i)):=by unfold br;rw [bM,yK hi];rfl
     obtain ⟨h1,h2⟩:=zq10.mp hf;rw [af,dG h1,h2];unfold nl;rw [cD];rfl
    ·rw [eG hbs0,zq1,lp,Int.natCast_add]
   ·rintro σ H3 ⟨s3,e3,o7,rfl⟩;rw [zq1,lr,k8 (by unfold br;rw [zq1,g9];exact zq0 _)] at e3;exact ⟨s3,e3,_,_,rfl⟩
  rintro σ H3 ⟨s3,e3,o6,o7,rfl⟩;refine later ?_;simp_arith! [];intro tb htb;refine later ?_;simp_arith! [sC];have t4:=Same.upd (o:=.lst []) htb;have hS3:=s2.trans s3;have lB1:B.length=bbs.length:=lL;refine ⟨bl,acc,rfl,⟨_,SqL.of (t4 _ _ (hS3 _ _ hbl))⟩,⟨_,SqL.of (t4 _ _ (s3 _ _ ha2))⟩,?_⟩;refine Bz (xs:=bs) (ys:=rs.map V.ref) (by rw [zq1];omega) (fun i σ H'=>Same H3 H'/\(∃xs,H' tb=some (.lst xs)/\Paired (BlkV K (fun c=>H c=none) H' tb) xs (g8 B bbs i))/\∃o3 o7 o9,σ=[some (V.ref p),some (V.ref u),some (V.ref bl),o3,some (V.ref acc),some (V.ref fl),o6,o7,some (V.ref tb),o9])
   ⟨t4,⟨[],af,.nil⟩,_,_,_,rfl⟩ (fun i σ H' _ h=>⟨SqL.of (h.1 _ _ (hS3 _ _ hbl)),SqL.of (h.1 _ _ (s3 _ _ ha2))⟩) ?_ ?_
  ·rintro i x y σ H5 pp hx hy hpp ⟨s5,⟨xs,e5,hxs⟩,o3,o7,o9,rfl⟩;rw [bM] at hy;obtain ⟨r0,hr0,rfl⟩:=zq35.mp hy;obtain ⟨bs0,hbs0,z1,ps,hps,hpp0⟩:=Paired.get hR2 hr0;obtain ⟨b0,hb0,hbv⟩:=Paired.get hbs hx;obtain ⟨qb,ab,eb,vs,rfl,v1,v2,v3,v4,v5,v6⟩:=hbv.same hS3;have lp:=hpp0.length;have hn0:=(hne bs0 (zq8 hbs0)).1;have hlen:=fG lB1 (fun bs hbs=>(hne bs hbs).1) i (by have:=(zq10.mp hbs0).1;omega);have hsle:=mz (bbs:=bbs) (i+1);rw [eG hbs0] at hsle;simp_arith! [];refine ⟨_,SqT.of af,rfl,?_⟩;have t6:=Same.upd (o:=.tup [.ref qb,.ref r0]) hpp;have s6:=s5.trans t6;have e6:=t6 _ _ e5;have hx6:=FL.Paired.imp hxs fun y _ c _ h=>h.same t6;clear hxs hpp e5;generalize upd H5 pp (.tup [.ref qb,.ref r0])=H6 at t6 s6 e6 hx6 ⊢;simp_arith! [sC];refine ⟨fun σ H'=>Same H3 H'/\(∃xs,H' tb=some (.lst xs)/\Paired (BlkV K (fun c=>H c=none) H' tb) xs (g8 B bbs i++bs0.dropLast.mapIdx fun j d=>⟨d,.go ((g8 B bbs i).length+j+1)⟩))/\∃o9,σ=[some (V.ref p),some (V.ref u),some (V.ref bl),some (V.ref qb),some (V.ref acc),some (V.ref fl),o6,some (V.ref r0),some (V.ref tb),o9],?_,?_⟩
   ·refine ⟨_,SqL.of (s6 _ _ (s3 _ _ hps)),fun sl hsl=>?_⟩;rw [tN];have t7:=Same.upd (o:=.lst (ps.map V.ref).dropLast) hsl;have s7:=s6.trans t7;have e7:=t7 _ _ e6;have esl:upd H6 sl (.lst (ps.map V.ref).dropLast) sl=some (.lst (ps.map V.ref).dropLast):=af;have hx7:=FL.Paired.imp hx6 fun y _ c _ h=>h.same t7;have nsl:sl≠tb:=(ao e6 hsl).symm;generalize upd H6 sl (.lst (ps.map V.ref).dropLast)=H7 at t7 s7 e7 esl hx7 ⊢;refine ⟨⟨_,SqL.of esl⟩,?_⟩;refine cY (xs:=(ps.map V.ref).dropLast) (fun j σ H'=>SameX tb H7 H'/\(∃xs,H' tb=some (.lst xs)/\Paired (BlkV K (fun c=>H c=none) H' tb) xs (g8 B bbs i++(bs0.dropLast.take j).mapIdx fun j d=>⟨d,.go ((g8 B bbs i).length+j+1)⟩))/\∃o9,σ=[some (V.ref p),some (V.ref u),some (V.ref bl),some (V.ref qb),some (V.ref acc),some (V.ref fl),o6,some (V.ref r0),some (V.ref tb),o9])
     ⟨SameX.refl,⟨_,e7,by simpa using hx7⟩,_,rfl⟩ (fun j σ H' _ h=>SqL.of (h.1 _ _ esl nsl)) ?_ ?_
    ·rintro j x σ H8 hxj ⟨sx8,⟨xs8,e8,hx8⟩,o9',rfl⟩;simp_arith [];have hjl:j<ps.length-1:=by have:=(zq10.mp hxj).1;rwa [ku,zq1] at this
     obtain ⟨pj,hpj⟩:∃pj,ps[j]?=some pj:=⟨_,zq4 (by omega)⟩
     rw [yP,if_pos (by rw [zq1];exact hjl),bM,hpj] at hxj
     cases hxj
     obtain ⟨l,hl,hN,vl,hvl,hdl⟩:=Paired.get hpp0 hpj;have hld:bs0.dropLast[j]?=some l:=by rw [yP,if_pos (by omega)];exact hl
     have lx8:=hx8.length;rw [zq3,v8,d9,ku] at lx8;have s38:Same H3 H8:=fun c o e=>sx8 c o (s7 c o e) (ao e htb);refine ⟨.inl ⟨rfl,_,SqL.of e8⟩,_,.inl (SqL.of e8),fun p1 hp1 p2 hp2=>?_⟩;have t9:=Same.upd (o:=.tup [V.str (Str.ofString "go"),V.int ((xs8.length:Int)+1)]) hp1;have t10:=Same.upd (o:=.tup [V.ref pj,V.ref p1]) hp2;have s10:=t9.trans t10;have e1:=t10 _ _ (af (H:=H8) (a:=p1) (o:=.tup [V.str (Str.ofString "go"),V.int ((xs8.length:Int)+1)]));have s310:=s38.trans s10;refine ⟨xs8,s10 _ _ e8,by rw [sizeLine_eq];omega,(sx8.trans (SameX.of s10)).trans SameX.upd,⟨_,af,?_⟩,_,rfl⟩;rw [pF hld,<- kq];refine xZ (s10 _ _ e8) (FL.Paired.imp hx8 fun y _ c _ h=>h.same s10) af (s310 _ _ (s3 _ _ hvl)) (FL.Paired.imp hdl fun _ _ _ _ z=>z.ts (s3.trans s310).ts) (e:=p1) ?_ (ao (s3 _ _ hvl) htb) (s1.free hN);rw [e1,lx8,qV (by omega)];rfl
    ·rintro σ H8 ⟨sx8,⟨xs8,e8,hx8⟩,o9',rfl⟩;refine ⟨fun c o e=>sx8 c o (s7 c o e) (ao e htb),⟨xs8,e8,?_⟩,_,rfl⟩;rw [k8 (by rw [ku,ku,zq1];omega)] at hx8;exact hx8
   ·rintro σ H8 ⟨s8,⟨xs8,e8,hx8⟩,o9',rfl⟩;refine later ?_;simp_arith [sC];obtain ⟨pl,hat,hN,vl,hvl,hdl⟩:=ui hpp0 hn0;have lx8:=hx8.length;rw [zq3,v8,ku] at lx8;have lb0:=zq74.mpr hn0;refine ⟨.inl ⟨rfl,_,SqL.of e8⟩,_,_,SqL.of (s8 _ _ (s3 _ _ hps)),hat,_,_,SqT.of (s8 _ _ v1),rfl,?_⟩;rw [sC];refine ⟨b0.ed,br bbs,s8 _ _ v4,SqL.of (s8 _ _ e3),fun k hk=>?_,fun e' H9 s9 he' p1 hp1=>?_⟩
    ·have:=(hG b0 (zq8 hb0)).tg k hk;unfold br;rw [zq1,g9];omega
    have t10:=Same.upd (o:=.tup [.ref pl,.ref e']) hp1;have s10:=s9.trans t10;have s310:=s8.trans s10;refine ⟨xs8,s10 _ _ e8,by rw [sizeLine_eq];omega,s310.updM htb,⟨_,af,?_⟩,_,_,_,rfl⟩;rw [dC hb0 hbs0,lJ,fE,<- kq];exact xZ (s10 _ _ e8) (FL.Paired.imp hx8 fun y _ c _ h=>h.same s10) af (s310 _ _ (s3 _ _ hvl)) (FL.Paired.imp hdl fun _ _ _ _ z=>z.ts (s3.trans s310).ts) (t10 _ _ he') (ao (s3 _ _ hvl) htb) (s1.free hN)
  ·rintro σ H5 ⟨s5,⟨xs,e5,hxs⟩,o3,o7,o9,rfl⟩;refine later ?_;simp_arith [];rw [lb,fF lB1] at hxs;exact qk tb xs bbs H5 ((s1.trans hS3).trans s5) ((s1.trans hS3).free htb) e5 hL hxs
noncomputable def eh(l:List (Bool×V)):List V:=(l.filter (·.1)).map (·.2)
section
variable {K:W.Frag} {tt:TT} {te:TE} {ci:List Nat} {σ:L2.St} {acc:Addr} {Q:Hp->Prop} {H1:Hp} {a:Addr} {xs:List V}
theorem jn(l:List (Bool×V))(hz:xs.length<=sizeLine)(hlen:xs.length=l.length)(hl:SqL K H1 a xs)(hacc:H1 acc=none)
  (hp:∀(i:Nat)x b y,xs[i]?=some x->l[i]?=some (b,y)->∀H Q',Same H1 H->(∀H',Same H H'->Q' b H')->tt (aG [some x] ci σ) H Q')
  (hf:∀(i:Nat)x y,xs[i]?=some x->l[i]?=some (true,y)->∀H Q',Same H1 H->(∀H',Same H H'->Q' y H')->te (aG [some x] ci σ) H Q')
  (q:∀H,Same H1 H->H acc=some (.lst (eh l))->Q H):bX (Itl K a) (bG 1) tt te 1 ci σ acc Q (upd H1 acc (.lst [])):=by
 refine dh (fun i ys H=>ys=eh (l.take i)/\Same H1 H/\H acc=some (.lst ys)) ⟨rfl,Same.upd hacc,af⟩ (fun i ys H _ h=>h.2.1.seq hl) ?_ ?_
 ·rintro i x ys H os hi ho ⟨rfl,sm,ha⟩;have hi':i<l.length:=by have:=(zq10.mp hi).1;omega
  have e:(aG os ci σ).set 1 (some x)=aG [some x] ci σ:=by
   match os,ho with
   | [o],_=>rfl
  show (∃os',os'.length=1/\(aG os ci σ).set 1 (some x)=aG os' ci σ)/\tt ((aG os ci σ).set 1 (some x)) H _;rw [e];refine ⟨⟨[some x],rfl,rfl⟩,?_⟩;obtain ⟨⟨b,y⟩,hy⟩:∃p,l[i]?=some p:=⟨_,zq4 hi'⟩
  obtain ⟨_,ey⟩:=zq10.mp hy;have ek:eh (l.take (i+1))=eh (l.take i)++if b=true then [y] else []:=by
   rw [dG hi',ey];unfold eh;rw [yT,cD]
   cases b<;>rfl
  refine hp i x b y hi hy H _ sm fun H2 s2=>?_
  cases b with
  |false=>
   rw [if_neg (by decide)];rw [if_neg (by decide),gH] at ek;exact ⟨ek.symm,sm.trans s2,s2 _ _ ha⟩
  |true=>
   rw [if_pos rfl];rw [if_pos rfl] at ek;have lk:(eh (l.take i)).length<=i:=by unfold eh;rw [zq1];exact cL (AI _ _) (by rw [d9];omega)
   exact hf i x y hi hy H2 _ (sm.trans s2) fun H3 s3=>⟨s3 _ _ (s2 _ _ ha),by omega,ek.symm,((sm.trans s2).trans s3).updM hacc,af⟩
 ·rintro ys H ⟨rfl,sm,ha⟩;rw [hlen,dZ] at ha;exact q H sm ha
end
noncomputable def mT(K:W.Frag)(a u:Addr)(H:Hp)(Q:VK):Prop:=∃(xs:List V)(ds:List FB.Deed)(us:List Int),SqL K H a xs/\Paired (DeedV1 K H) xs ds/\ds.length<60/\SqT K H u (us.map V.int)/\us.length=3/\∀H',Same H H'->Q (.bl (bfB us ds)) H'
noncomputable def oP(K:W.Frag):Sp:=fun vs H Q _=>∃a u:Addr,vs=[.ref a,.ref u]/\mT K a u H Q
theorem zo{ds:List FB.Deed}:eh (ds.map fun d=>(!d.tells,V.str (wr d)))=(dI ds).map V.str:=by
 induction ds with
 |nil=>rfl
 |cons d ds ih=>
  have e:dI (d::ds)=d.writes++dI ds:=rfl;rw [e,cD,<- ih];unfold eh;rw [cM,tE]
  cases d<;>rfl
theorem vO{ds:List FB.Deed}{xs:List V}{s:Nat}(h:xs.length=ds.length):(eh ((ds.map fun d=>decide (cU d=s)).zip xs)).length=ds.countP fun d=>decide (cU d=s):=by
 unfold eh;rw [zq1]
 induction ds generalizing xs with
 |nil=>rfl
 |cons d ds ih=>
  cases xs with
  |nil=>cases h
  |cons x xs=>
   rw [cM,List.zip_cons_cons,tE,yy];have z:=ih (xs:=xs) (by simpa using h);dsimp only
   split
   ·rw [dB,z]
   ·rw [z];omega
theorem Dg{l:List FB.Deed}:(dI l).length<=l.length:=by
 induction l with
 |nil=>exact zq0 _
 |cons d l ih=>
  have e:dI (d::l)=d.writes++dI l:=rfl;rw [e,zq3,yh,dB]
  split<;>omega
theorem me{a u:Addr}{H:Hp}{Q:VK}{E:XK}:oP K [.ref a,.ref u] H Q E=mT K a u H Q:=propext ⟨by rintro ⟨_,_,e,q⟩;cases e;exact q,fun q=>⟨_,_,rfl,q⟩⟩
theorem wj(T:Txt K mg t):FnOk P w K mg base CX0 2 t.f_50 t.e_50 ["_law_deeds","_law_units_here"] (oP K):=by
 have G_49:=@zJ P w K mg base t T;refine T.d_50.F.ok sc_50 ∅ ?_;rintro cdv A outer s H vs Q E hr ⟨a,u,rfl,xs,ds,us,ha,hd,hl,hU,h3,q⟩;refine ⟨_,
   (XSs.h
   (ai
    (cQ (i:=2) sc_50.nd rfl ll rfl (by kernel_rfl) (tns:=["_law_deed_here"]) (cns:=[]) (ci:=[]) rfl (CompSc.of (by kernel_rfl)) (aZ (yqv 0 vl)) (fun _=>(aC (i:=1) (show List.Nodup [(".0":Str),("_law_deed_here":Str)] by decide +kernel) rfl ll (Or.inr (by kernel_rfl)))) (fun _=>(dP (ar iT (ak au (yqv 1 vl) ac) aE (aA _)))) (fun _=>(ak au (yqv 1 vl) ac)))
   (bD
    (aF (bU (cj (ar iT (aw tI gl T.z_len PySem.boot_len (aa (bw (tJ rfl) gl T.z_set boot_set (aa (yqv 2 vl) ae)) ae)) (aw ay gl T.z_len PySem.boot_len (aa (yqv 2 vl) ae)) (aA _)) (cB (ar iI (aw ay gl T.z_len PySem.boot_len (aa (yqv 0 vl) ae)) (am b7 (aw ay gl T.z_len PySem.boot_len (aa (yqv 2 vl) ae)) ac) (aA _)))))
     (aj
      (aq c6))
     aB)
   (ai
    (bF PassesOwn.never rfl (bV gl T.z_range (aa ac ae)) (aC (i:=3) sc_50.nd rfl lc)
     (aj
      (aF (ar iI (aw ay gl T.z_len PySem.boot_len (aa (bu (tns:=["_law_deed_here"]) (cns:=["_law_sort_here"]) (ci:=[3]) rfl (CompSc.of (by kernel_rfl)) (aZ (yqv 0 vl)) (fun _=>(aC (i:=1) (show List.Nodup [(".0":Str),("_law_deed_here":Str),("_law_sort_here":Str)] by decide +kernel) rfl ll (Or.inr (by kernel_rfl)))) (fun _=>(dP (ar aT (ap T.d_49 G_49 hr.m (aa (yqv 1 vl) ae) gl) (yqv 2 vc) (aA _)))) (fun _=>(yqv 1 vl))) ae)) (ak au (yqv 1 vl) (yqv 3 vc)) (aA _))
       (aj
        (aq c6))
       aB)))
   (aj
    (aq c6)))))),?_⟩
 rw [show aM _ [V.ref a,V.ref u]=[some (.ref a),some (.ref u),none,none] from rfl];simp_arith! [qw];have lx:=hd.length;refine ⟨⟨_,ha⟩,fun wl hwl bk=>?_⟩;refine jn (ds.map fun d=>(!d.tells,V.str (wr d))) (by rw [sizeLine_eq];omega) (by rw [zq1];exact lx) ha hwl (fun i x b y hx hy H2 Q' s2 h=>?_) (fun i x y hx hy H2 Q' s2 h=>?_) fun H1 s1 e1=>?_
 ·obtain ⟨d,hd1,q0,rfl,hq0,hf⟩:=Paired.get hd hx;rw [bM,hd1] at hy
  cases hy
  simp_arith [];exact G3 hf (s2.seqT hq0) ⟨_,rfl,h H2 (Same.refl H2)⟩
 ·obtain ⟨d,hd1,q0,rfl,hq0,hf⟩:=Paired.get hd hx;rw [bM,hd1] at hy;have e:=Option.some.inj hy;have e1:d.tells=false:=by have:=congrArg Prod.fst e;simpa using this
  have e2:V.str (wr d)=y:=congrArg Prod.snd e;subst e2;simp_arith [];exact ix1 e1 (s2.seqT hq0) (h H2 (Same.refl H2))
 rw [zo] at e1;have lw:=Dg (l:=ds);have hbf:bfB us ds=(decide ((bC (dI ds)).length=(dI ds).length)&&decide (ds.length<=(dI ds).length+1)&&(List.range 3).all fun s=>decide (((ds.countP fun d=>decide (cU d=s)):Int)<=uN us s)):=rfl;refine later ?_;simp_arith! [];refine ⟨fun σ H'=>Same H H'/\bfB us ds=((List.range 3).all fun s=>decide (((ds.countP fun d=>decide (cU d=s)):Int)<=uN us s))/\σ=[some (V.ref a),some (V.ref u),some (V.ref wl),none],?_,?_⟩
 ·refine ⟨dI ds,SqL.of e1,by omega,fun p hp=>⟨_,af,?_⟩⟩;have t2:=Same.upd (o:=kU p (bC (dI ds)).length) hp;have s2:=s1.trans t2;refine ⟨_,.inl (SqL.of (t2 _ _ e1)),?_⟩;rw [zq1]
  by_cases hz:(bC (dI ds)).length=(dI ds).length
  ·rw [if_neg (by simp [hz])];refine ⟨_,.inl (s2.seq ha),_,.inl (SqL.of (t2 _ _ e1)),?_⟩;rw [zq1,lx]
   by_cases hy:ds.length<=(dI ds).length+1
   ·rw [if_neg (by simp;omega)];refine ⟨s2,?_,rfl⟩;rw [hbf,decide_eq_true hz,decide_eq_true hy,qS,qS]
   ·rw [if_pos (by simp;omega)];have e:bfB us ds=false:=by rw [hbf,decide_eq_false hy,Bool.and_false,uZ]
    rw [e] at q;exact q _ s2
  ·rw [if_pos (by simp;omega),if_pos trivial];have e:bfB us ds=false:=by rw [hbf,decide_eq_false hz,uZ,uZ]
   rw [e] at q;exact q _ s2
 rintro σ H2 ⟨s2,hb2,rfl⟩;refine later ?_;simp_arith! [];refine ⟨by decide,by decide,?_⟩;refine fN (n:=3) (fun i σ H'=>Same H H'/\(∀s,s<i->((ds.countP fun d=>decide (cU d=s)):Int)<=uN us s)/\∃o3,σ=[some (V.ref a),some (V.ref u),some (V.ref wl),o3]) ⟨s2,fun s hs=>absurd hs (by omega),_,rfl⟩ ?_ ?_
 ·rintro i σ H3 hi ⟨s3,hall,o3,rfl⟩;simp_arith [qw];refine ⟨⟨_,s3.seq ha⟩,fun acc hacc bk=>?_⟩;refine jn ((ds.map fun d=>decide (cU d=i)).zip xs) (by rw [sizeLine_eq];omega) (by rw [List.length_zip,zq1];omega) (s3.seq ha) hacc (fun j x b y hx hy H4 Q' s4 h=>?_) (fun j x y hx hy H4 Q' s4 h=>?_) fun H4 s4 e4=>?_
  ·obtain ⟨d,hd1,q0,rfl,hq0,hf⟩:=Paired.get hd hx;rw [yM,bM,hd1] at hy;obtain rfl:decide (cU d=i)=b:=Option.some.inj hy.1;simp_arith [qw];refine ⟨d,(s3.trans s4).seqT hq0,fun H5 s5=>?_⟩;have z:=h H5 s5;rw [show decide (cU d=i)=decide ((cU d:Int)=(i:Int)) by rw [mH,decide_eq_true_iff,decide_eq_true_iff];omega] at z;exact z
  ·rw [yM] at hy;rw [hx] at hy
   cases hy.2
   simp_arith [];exact h H4 (Same.refl H4)
  ·have hu:(us.map V.int)[i]?=some (V.int (uN us i)):=by unfold uN;rw [bM,zq4 (by omega),eN,zq4 (by omega)];rfl
   have s34:=s3.trans s4;refine ⟨_,.inl (SqL.of e4),_,_,s34.seqT hU,ba hu,_,rfl,?_⟩;rw [vO lx];refine aH (fun hz=>?_) fun hz=>⟨s34,fun s hs=>?_,_,rfl⟩
   ·have e:bfB us ds=false:=by
     rw [hb2]
     cases hb:((List.range 3).all fun s=>decide (((ds.countP fun d=>decide (cU d=s)):Int)<=uN us s)) with
     |false=>rfl
     |true=>exact absurd (of_decide_eq_true (zq37.mp hb i (zq34.mpr hi))) (by omega)
    rw [e] at q;exact q _ s34
   ·by_cases es:s=i
    ·rw [es];omega
    ·exact hall s (by omega)
 ·rintro σ H3 ⟨s3,hall,o3,rfl⟩;refine later ?_;simp_arith [];have e:bfB us ds=true:=by rw [hb2,zq37];exact fun s hs=>decide_eq_true (hall s (zq34.mp hs))
  rw [e] at q;exact q H3 s3
variable {b b':Bx} {d:Deed} {i j p:Nat}
theorem kF{m n:Str}{x:Int}:aI (cv b (.inr m) (.int x)) n=if n=m then x else aI b n:=by
 unfold aI;rw [FG.fH]
 split<;>rfl
theorem ii{w:Int}{b0:Bx}{n:Str}:aI (GO.atB w d b0 b) n=if n∈d.writes then de b0 w d else aI b n:=by
 cases d with
 |tell a=>rw [if_neg (by intro z;cases z)];rfl
 |copy m a=>
  show aI (cv b (.inr m) _) n=_;rw [kF]
  by_cases h:n=m
  ·rw [if_pos h,if_pos (by rw [h];exact zq2.mpr rfl)]
  ·rw [if_neg h];exact (if_neg (show n∉[m] from fun z=>h (zq2.mp z))).symm
 |op f m x y=>
  show aI (cv b (.inr m) _) n=_;rw [kF]
  by_cases h:n=m
  ·rw [if_pos h,if_pos (by rw [h];exact zq2.mpr rfl)]
  ·rw [if_neg h];exact (if_neg (show n∉[m] from fun z=>h (zq2.mp z))).symm
theorem vi{w:Int}:GO.atB w d b b=doB w d b:=by cases d<;>rfl
theorem eV{o:Opd}(h:∀n∈o.reads,aI b n=aI b' n):g7 b o=g7 b' o:=by
 cases o with
 |box n=>exact h n (zq2.mpr rfl)
 |word i=>rfl
theorem nK{w:Int}(h:∀n∈d.reads,aI b n=aI b' n):de b w d=de b' w d:=by
 cases d with
 |tell a=>exact eV h
 |copy m a=>exact eV h
 |op f m x y=>show oF f (g7 b x) (g7 b y) w=oF f (g7 b' x) (g7 b' y) w;rw [eV (o:=x) fun n hn=>h n (kl _ hn),eV (o:=y) fun n hn=>h n (dY _ hn)]
theorem vy{w:Int}{t:List Int}:doT w d b t=t++if d.tells=true then [de b w d] else []:=by
 cases d with
 |tell a=>rfl
 |copy m a=>exact (gH _).symm
 |op f m x y=>exact (gH _).symm
noncomputable def vAt(w:Int)(ds:List Deed)(s:GA.BT)(p:Nat):Int:=de (GA.dos w (ds.take p) s).1 w (bW ds p)
noncomputable def eA(ds:List Deed)(v:Nat->Int)(b:Bx)(S:Nat->Bool)(n:Str):Nat->Int
 |0=>aI b n
 |k+1=>if S k=true/\n∈(bW ds k).writes then v k else eA ds v b S n k
theorem gQ{ds:List Deed}(h:p<ds.length):ds[p]?=some (bW ds p):=by unfold bW;rw [eN,zq4 h];rfl
theorem qA{w:Int}{ds:List Deed}{s:GA.BT}{n:Str}:∀p,p<=ds.length->aI (GA.dos w (ds.take p) s).1 n=eA ds (vAt w ds s) s.1 (fun _=>true) n p
 |0,_=>rfl
 |p+1,hp=>by
  rw [GA.jr (gQ (by omega)),eA,<- vi];dsimp only;rw [ii,qA p (by omega)]
  by_cases h:n∈(bW ds p).writes
  ·rw [if_pos h,if_pos ⟨rfl,h⟩];rfl
  ·rw [if_neg h,if_neg (fun z=>h z.2)]
theorem oJ{w:Int}{ds:List Deed}{s:GA.BT}:∀p,p<=ds.length->(GA.dos w (ds.take p) s).2=s.2++((List.range p).filter fun q=>(bW ds q).tells).map (vAt w ds s)
 |0,_=>by
  show s.2=_;simp
 |p+1,hp=>by
  rw [GA.jr (gQ (by omega))];dsimp only;rw [vy,oJ p (by omega),yz,yT,cD,<- kq];congr 1;rw [tE]
  split<;>rfl
theorem fP{ds:List Deed}{v:Nat->Int}{b:Bx}{S:Nat->Bool}{n:Str}{p:Nat}:∀N,p<=N->(∀k,p<=k->k<N->¬(S k=true/\n∈(bW ds k).writes))->eA ds v b S n N=eA ds v b S n p
 |0,h,_=>by
  obtain rfl:p=0:=by omega
  rfl
 |N+1,h,hk=>by
  by_cases e:p=N+1
  ·rw [e]
  ·rw [eA,if_neg (hk N (by omega) (by omega))];exact fP N (by omega) fun k h1 h2=>hk k h1 (by omega)
theorem d5{ds:List Deed}{v:Nat->Int}{b:Bx}{S S':Nat->Bool}{n:Str}:∀N,(∀k,k<N->n∈(bW ds k).writes->S k=S' k)->eA ds v b S n N=eA ds v b S' n N
 |0,_=>rfl
 |N+1,h=>by
  rw [eA,eA,d5 N fun k hk=>h k (by omega)]
  by_cases e:n∈(bW ds N).writes
  ·rw [h N (by omega) e]
  ·rw [if_neg (fun z=>e z.2),if_neg (fun z=>e z.2)]
theorem uh{ds:List Deed}{v:Nat->Int}{S:Nat->Bool}{n:Str}{N:Nat}(hp:p<N)(hS:S p=true)(hw:n∈(bW ds p).writes)(h:∀k,p<k->k<N->¬(S k=true/\n∈(bW ds k).writes)):eA ds v b S n N=v p:=by rw [fP (p:=p+1) N (by omega) fun k h1 h2=>h k (by omega) h2,eA,if_pos ⟨hS,hw⟩]
theorem gL{w:Int}{b0:Bx}{n:Str}:∀{l:List Deed} {s:GA.BT},(∀d∈l,n∉d.writes)->aI (GO.beat w b0 l s).1 n=aI s.1 n
 | [],s,_=>rfl
 |d::r,s,h=>by rw [GO.beat,gL fun e he=>h e (zq5 _ he)];dsimp only;rw [ii,if_neg (h d (dJ ..))]
theorem ni{w:Int}{b0:Bx}{n:Str}{d:Deed}(hw:n∈d.writes):∀{l:List Deed} {s:GA.BT},d∈l->(l.Pairwise fun d e=>∀n∈d.writes,n∉e.writes)->aI (GO.beat w b0 l s).1 n=de b0 w d
 | [],s,h,_=>by cases h
 |c::r,s,h,hp=>by
  rw [tu] at hp;rw [GO.beat];rcases zq6.mp h with e | e
  ·subst e;rw [gL fun e he=>hp.1 e he n hw];dsimp only;rw [ii,if_pos hw]
  ·exact ni hw e hp.2
theorem ie{w:Int}{b0:Bx}:∀{l:List Deed} {s:GA.BT},(GO.beat w b0 l s).2=s.2++(l.filter Deed.tells).map (de b0 w)
 | [],s=>by show s.2=_;simp
 |d::r,s=>by
  rw [GO.beat,ie];dsimp only;rw [vy,tE,kq];congr 1
  split<;>rfl
noncomputable def bts(w:Int):List (List Deed)->GA.BT->GA.BT
 | [],s=>s
 |l::r,s=>bts w r (GO.beat w s.1 l s)
theorem gN{w:Int}:∀{l m:List (List Deed)} {s:GA.BT},bts w (l++m) s=bts w m (bts w l s)
 | [],m,s=>rfl
 |x::l,m,s=>by rw [pO,bts,bts,gN]
theorem nu{w:Int}{l:List (List Deed)}{x:List Deed}{s:GA.BT}(h:l[i]?=some x):bts w (l.take (i+1)) s=GO.beat w (bts w (l.take i) s).1 x (bts w (l.take i) s):=by obtain ⟨hi,e⟩:=zq10.mp h;rw [dG hi,e,gN];rfl
theorem mem_takeF{bss:List (List Nat)}{q:Nat}:q∈(bss.take i).flatten↔∃(i':Nat)(b:List Nat),i'<i/\bss[i']?=some b/\q∈b:=by
 rw [zq81]
 constructor
 ·rintro ⟨b,hb,hq⟩;obtain ⟨k,hk⟩:=zq67.mp hb;rw [List.getElem?_take] at hk
  split at hk
  ·next h=>exact ⟨k,b,h,hk,hq⟩
  ·cases hk
 ·rintro ⟨i',b,h1,h2,h3⟩;exact ⟨b,zq67.mpr ⟨i',by rw [List.getElem?_take,if_pos h1];exact h2⟩,h3⟩
theorem lS{ds:List Deed}{k:Nat}(hj:j<ds.length)(hk:k<ds.length):aL ds j k=FB.iW (bW ds j) (bW ds k):=by unfold aL;rw [gQ hj,gQ hk]
section
variable {w:Int} {ds:List Deed} {us:List Int} {bss:List (List Nat)}
theorem m4(h:gc (aL ds) (soN ds) (uN us) bss (List.range ds.length)){i2:Nat}{b b2:List Nat}{k:Nat}(hb:bss[i]?=some b)(hp:p∈b)(hb2:bss[i2]?=some b2)(hk:k∈b2)(lt:p<k){l:Int}(hg:aL ds p k=some l):(i:Int)+l<=i2:=by have nd:bss.flatten.Nodup:=h.perm.nodup_iff.mpr yZ;obtain ⟨i',b',h1,h2,h3⟩:=h.lean i2 b2 k hb2 hk p lt l hg;have:=ft nd hb h1 hp h2;subst this;exact h3
theorem vG{ds:List Deed}{k:Nat}{n:Str}(hj:j<ds.length)(hk:k<ds.length)(h1:n∈(bW ds j).writes)(h2:n∈(bW ds k).reads\/n∈(bW ds k).writes):aL ds j k=some 1:=by
 rw [lS hj hk,FB.iW]
 split
 ·rfl
 ·rw [if_pos ⟨n,h1,h2⟩]
theorem BC{ds:List Deed}{k:Nat}{n:Str}(hj:j<ds.length)(hk:k<ds.length)(h1:n∈(bW ds j).reads)(h2:n∈(bW ds k).writes):∃l:Int,aL ds j k=some l/\0<=l:=by
 rw [lS hj hk,FB.iW]
 split
 ·exact ⟨1,rfl,by decide⟩
 ·split
  ·exact ⟨1,rfl,by decide⟩
  ·rw [if_pos ⟨n,h2,h1⟩];exact ⟨0,rfl,by decide⟩
theorem BD{ds:List Deed}{k:Nat}(hj:j<ds.length)(hk:k<ds.length)(h1:(bW ds j).tells=true)(h2:(bW ds k).tells=true):aL ds j k=some 1:=by rw [lS hj hk,FB.iW,if_pos ⟨h1,h2⟩]
structure LayI(w:Int)(ds:List Deed)(bss:List (List Nat))(s:GA.BT)(i:Nat)(st:GA.BT):Prop where
 bx:∀n,aI st.1 n=eA ds (vAt w ds s) s.1 (fun q=>decide (q∈(bss.take i).flatten)) n ds.length
 td:st.2=s.2++((List.range ds.length).filter fun q=>decide (q∈(bss.take i).flatten)&&(bW ds q).tells).map (vAt w ds s)
theorem LayI.step{s st:GA.BT}{b:List Nat}(h:gc (aL ds) (soN ds) (uN us) bss (List.range ds.length))(hi:LayI w ds bss s i st)(hb:bss[i]?=some b):LayI w ds bss s (i+1) (GO.beat w st.1 (b.map (bW ds)) st):=by
 have nd:bss.flatten.Nodup:=h.perm.nodup_iff.mpr yZ;have ltN:∀{k:Nat} {c:List Nat} {q:Nat},bss[k]?=some c->q∈c->q<ds.length:=fun hc hq=>zq34.mp (h.perm.mem_iff.mp (zq81.mpr ⟨_,zq8 hc,hq⟩));have hm:=zq8 hb;obtain ⟨hbt,_,_⟩:=eg h b hm;have hpw:(b.map (bW ds)).Pairwise fun d e=>∀n∈d.writes,n∉e.writes:=hbt.one.imp fun z=>z.2;have hv:∀p∈b,de st.1 w (bW ds p)=vAt w ds s p:=fun p hp=>by
  have hpN:=ltN hb hp;refine nK fun n hn=>?_;rw [hi.bx,qA p (by omega),fP (p:=p) _ (by omega)]
  ·refine d5 _ fun k hk hwk=>?_;have g:=vG (by omega) hpN hwk (.inl hn);obtain ⟨i',b',h1,h2,h3⟩:=h.lean i b p hb hp k hk 1 g;exact decide_eq_true (mem_takeF.mpr ⟨i',b',by omega,h1,h2⟩)
  ·rintro k hk1 hk2 ⟨hS,hwk⟩;obtain ⟨i',b',h1,h2,h3⟩:=mem_takeF.mp (of_decide_eq_true hS)
   by_cases e:k=p
   ·subst e;have:=ft nd hb h2 hp h3;omega
   ·obtain ⟨l,g,hl⟩:=BC hpN (ltN h2 h3) hn hwk;have:=m4 h hb hp h2 h3 (by omega) g;omega
 have mS:∀q,q∈(bss.take (i+1)).flatten↔q∈(bss.take i).flatten\/q∈b:=fun q=>by obtain ⟨hlt,e⟩:=zq10.mp hb;rw [dG hlt,e,List.flatten_append,zq16];simp
 refine ⟨fun n=>?_,?_⟩
 ·by_cases hx:∃p∈b,n∈(bW ds p).writes
  ·obtain ⟨p,hp,hw⟩:=hx;rw [ni hw (zq20.mpr ⟨p,hp,rfl⟩) hpw,hv p hp,uh (ltN hb hp) (decide_eq_true ((mS p).mpr (.inr hp))) hw];rintro k hk1 hk2 ⟨hS,hwk⟩;obtain ⟨i',b',h1,h2,h3⟩:=mem_takeF.mp (of_decide_eq_true hS);have:=m4 h hb hp h2 h3 hk1 (vG (ltN hb hp) (ltN h2 h3) hw (.inr hwk));omega
  ·rw [gL,hi.bx]
   ·refine d5 _ fun k hk hwk=>?_;have nb:k∉b:=fun z=>hx ⟨k,z,hwk⟩;have:(k∈(bss.take (i+1)).flatten)=(k∈(bss.take i).flatten):=propext ⟨fun z=>((mS k).mp z).resolve_right nb,fun z=>(mS k).mpr (.inl z)⟩;rw [decide_eq_decide,this]
   ·intro d hd;obtain ⟨p,hp,rfl⟩:=zq20.mp hd;exact fun z=>hx ⟨p,hp,z⟩
 ·rw [ie,hi.td,kq];congr 1;have e1:((b.map (bW ds)).filter Deed.tells).map (de st.1 w)=(b.filter fun q=>(bW ds q).tells).map (vAt w ds s):=by rw [yw,fj];refine yA fun p hp=>hv p (zq39.mp hp).1
  rw [e1,<- cD];congr 1;refine List.Perm.eq_of_pairwise (le:=(·<=·)) (fun a c _ _ h1 h2=>Nat.le_antisymm h1 h2) ?_ ?_ ?_
  ·rw [List.pairwise_append];refine ⟨List.Pairwise.filter _ (zq91.imp mG),List.Pairwise.filter _ ((h.srt b hm).imp mG),fun q hq p hp=>?_⟩;rw [zq39,dc] at hq;rw [zq39] at hp;obtain ⟨i',b',h1,h2,h3⟩:=mem_takeF.mp (of_decide_eq_true hq.2.1);rcases Nat.lt_or_ge p q with z | z
   ·have:=m4 h hb hp.1 h2 h3 z (BD (ltN hb hp.1) (ltN h2 h3) hp.2 hq.2.2);omega
   ·exact z
  ·exact List.Pairwise.filter _ (zq91.imp mG)
  ·have n1:((List.range ds.length).filter fun q=>decide (q∈(bss.take (i+1)).flatten)&&(bW ds q).tells).Nodup:=List.Pairwise.filter _ yZ;have n2:((List.range ds.length).filter (fun q=>decide (q∈(bss.take i).flatten)&&(bW ds q).tells)++b.filter fun q=>(bW ds q).tells).Nodup:=by rw [zq65];refine ⟨List.Pairwise.filter _ yZ,List.Pairwise.filter _ ((h.srt b hm).imp cm),fun q hq p hp e=>?_⟩;subst e;rw [zq39,dc] at hq;obtain ⟨i',b',h1,h2,h3⟩:=mem_takeF.mp (of_decide_eq_true hq.2.1);have:=ft nd hb h2 (zq39.mp hp).1 h3;omega
   refine (Bg n2 n1).mpr fun q=>?_;rw [zq16,zq39,zq39,zq39,dc,dc,decide_eq_true_iff,decide_eq_true_iff,mS,zq34]
   constructor
   ·rintro (⟨z1,z2,z3⟩ | ⟨z1,z2⟩)
    ·exact ⟨z1,.inl z2,z3⟩
    ·exact ⟨ltN hb z1,.inr z1,z2⟩
   ·rintro ⟨z1,z2 | z2,z3⟩
    ·exact .inl ⟨z1,z2,z3⟩
    ·exact .inr ⟨z2,z3⟩
theorem LayI.all{s:GA.BT}(h:gc (aL ds) (soN ds) (uN us) bss (List.range ds.length)):∀i,i<=bss.length->LayI w ds bss s i (bts w ((aJ ds bss).take i) s)
 |0,_=>⟨fun n=>by
   rw [d5 (S':=fun _=>false) _ fun k _ _=>decide_eq_false (by rw [List.take_zero];exact fun z=>by cases z),fP (p:=0) _ (cc _) fun k _ _ z=>zq7 z.1];rfl,by
   rw [List.filter_eq_nil_iff.mpr (fun q _=>by rw [List.take_zero];simp)];exact (gH _).symm⟩
 |i+1,hi=>by
  obtain ⟨b,hb⟩:∃b,bss[i]?=some b:=⟨_,zq4 (by omega)⟩
  have hd:(aJ ds bss)[i]?=some (b.map (bW ds)):=by unfold aJ;rw [bM,hb];rfl
  rw [nu hd];exact (LayI.all h i (by omega)).step h hb
theorem vU{s:GA.BT}(h:gc (aL ds) (soN ds) (uN us) bss (List.range ds.length)):(∀n,aI (bts w (aJ ds bss) s).1 n=aI (GA.dos w ds s).1 n)/\(bts w (aJ ds bss) s).2=(GA.dos w ds s).2:=by
 have z:=LayI.all (w:=w) (s:=s) h bss.length (zq0 _);rw [k8 (by unfold aJ;rw [zq1];exact zq0 _)] at z;have al:∀q,q<ds.length->decide (q∈(bss.take bss.length).flatten)=true:=fun q hq=>by rw [dZ];exact decide_eq_true (h.perm.mem_iff.mpr (zq34.mpr hq))
 have e:=dZ (l:=ds);have q1:=fun n=>qA (w:=w) (s:=s) (n:=n) ds.length (zq0 _);have q2:=oJ (w:=w) (s:=s) (ds:=ds) ds.length (zq0 _);rw [e] at q2;refine ⟨fun n=>?_,?_⟩
 ·have q3:=q1 n;rw [e] at q3;rw [z.bx,q3];exact d5 _ fun k hk _=>al k hk
 ·rw [z.td,q2];congr 2;exact List.filter_congr fun q hq=>by rw [al q (zq34.mp hq),qS]
end
theorem ye(nd:(b.map (·.1)).Nodup){k:Key}{v:V}(h:b[i]?=some (k,v)):bA b k=some v:=by
 unfold bA
 cases e:b.find? (fun kv=>decide (kv.1=k)) with
 |none=>
  have:=List.find?_eq_none.mp e (k,v) (zq8 h);simp at this
 |some kv=>
  have h1:kv.1=k:=by have:=List.find?_some e;simpa using this
  obtain ⟨j,hj⟩:=zq67.mp (yx e);have e1:(b.map (·.1))[j]?=some k:=by rw [bM,hj];exact congrArg some h1
  have e2:(b.map (·.1))[i]?=some k:=by rw [bM,h];rfl
  have hj':=(zq10.mp e1)
  have hi':=(zq10.mp e2)
  obtain ⟨a1,a2⟩:=hj';obtain ⟨c1,c2⟩:=hi';have:j=i:=(List.getElem_inj nd).mp (a2.trans c2.symm);subst this;rw [h] at hj
  cases hj
  rfl
theorem Bq(h:IntD b)(h':IntD b'){ks:List Str}(hk:b.map (·.1)=ks.map Sum.inr)(hk':b'.map (·.1)=ks.map Sum.inr)(hv:∀n,aI b n=aI b' n):b=b':=by
 refine List.ext_getElem? fun i=>?_;have e1:=congrArg (fun l=>l[i]?) hk;have e2:=congrArg (fun l=>l[i]?) hk';rw [bM,bM] at e1 e2
 cases hi:ks[i]? with
 |none=>
  rw [hi] at e1 e2;rw [zq145.mp e1,zq145.mp e2]
 |some n=>rw [hi] at e1 e2;obtain ⟨⟨k,v⟩,g1,g2⟩:=zq35.mp e1;obtain ⟨⟨k',v'⟩,g3,g4⟩:=zq35.mp e2;have g2:k=Sum.inr n:=g2;have g4:k'=Sum.inr n:=g4;subst g2 g4;obtain ⟨x,hx⟩:=h.nums _ (zq8 g1);obtain ⟨y,hy⟩:=h'.nums _ (zq8 g3);have hx:v=.int x:=hx;have hy:v'=.int y:=hy;have z:=hv n;unfold aI FG.ib at z;rw [ye h.nd g1,ye h'.nd g3,hx,hy] at z;have z:x=y:=z;rw [g1,g3,hx,hy,z]
theorem eI{F:List FZ.Blk}{w:Int}:∀{m i:Nat} {s:GA.BT},s.2 <+: (GO.cg F w m i s).1.2
 |0,i,s=>kr _
 |m+1,i,s=>by
  have hb:∀b0 (l:List Deed),s.2 <+: (GO.beat w b0 l s).2:=fun b0 l=>by rw [ie];exact yD _ _
  rw [GO.cg]
  split
  ·exact kr _
  ·split
   ·exact hb _ _
   ·exact (hb _ _).trans eI
theorem iD{F:List FZ.Blk}{w:Int}:∀{m m' i:Nat} {s:GA.BT},m<=m'->(GO.cg F w m i s).1.2 <+: (GO.cg F w m' i s).1.2/\((GO.cg F w m i s).2=true->GO.cg F w m' i s=GO.cg F w m i s)
 |0,m',i,s,_=>⟨eI,fun h=>by cases h⟩
 |m+1,0,i,s,h=>by omega
 |m+1,m'+1,i,s,h=>by
  rw [GO.cg,GO.cg]
  split
  ·exact ⟨kr _,fun _=>rfl⟩
  ·split
   ·exact ⟨kr _,fun _=>rfl⟩
   ·exact iD (by omega)
noncomputable def je(F:List FZ.Blk)(m:Nat)(bs:List (List Deed))(ed:FZ.Ed):Prop:=∀j,j<bs.length->F[m+j]?=(fE m bs ed)[j]?
theorem mj{F:List FZ.Blk}{w:Int}{m:Nat}{bs:List (List Deed)}{ed:FZ.Ed}(hR:je F m bs ed){st:GA.BT}{q:Nat}:∀j,j+1<=bs.length->GO.cg F w (q+j) m st=GO.cg F w q (m+j) (bts w (bs.take j) st)
 |0,_=>rfl
 |j+1,hj=>by
  have ih:=mj hR (w:=w) (st:=st) (q:=q+1) j (by omega);have hb:bs[j]?=some bs[j]:=zq4 (by omega);have hr:F[m+j]?=some ⟨bs[j],.go (m+j+1)⟩:=by rw [hR j (by omega),fE,j3 (by rw [v8,ku];omega),List.getElem?_mapIdx,yP,if_pos (by omega),hb];rfl
  rw [show q+(j+1)=q+1+j by omega,ih,GO.iE hr,GO.tR,nu hb];rfl
theorem xC{F:List FZ.Blk}{w:Int}{m:Nat}{bs:List (List Deed)}{ed:FZ.Ed}(hR:je F m bs ed)(hn:bs≠[]){st:GA.BT}{q:Nat}:GO.cg F w (q+bs.length) m st=match GA.nxt (bts w bs.dropLast st).1 ed with
  |none=>(bts w bs st,true)
  |some k=>GO.cg F w q k (bts w bs st):=by
 have hl:=zq74.mpr hn;have hr:F[m+(bs.length-1)]?=some ⟨ez bs,ed⟩:=by rw [hR _ (by omega),fE,iJ (by rw [v8,ku];exact zq0 _),v8,ku,mJ];rfl
 have e:bts w bs st=GO.beat w (bts w bs.dropLast st).1 (ez bs) (bts w bs.dropLast st):=by
  conv=>lhs;rw [m3 hn,gN]
  rfl
 rw [show q+bs.length=q+1+(bs.length-1) by omega,mj hR (bs.length-1) (by omega),GO.iE hr,GO.tR,<- Bl,e]
 all_goals cases GA.nxt (bts w bs.dropLast st).1 ed<;>rfl
theorem zx{fs:List Nat}{b:Bx}{ed:FZ.Ed}:GA.nxt b (qe fs ed)=(GA.nxt b ed).map fun j=>fs.getD j 0:=by
 cases ed with
 |stop=>rfl
 |go i=>rfl
 |choose n i j=>
  show some (if aI b n≠0 then fs.getD i 0 else fs.getD j 0)=some (fs.getD (if aI b n≠0 then i else j) 0)
  split<;>rfl
theorem wf{b b':Bx}{ed:FZ.Ed}(h:∀n i j,ed=.choose n i j->aI b n=aI b' n):GA.nxt b ed=GA.nxt b' ed:=by
 cases ed with
 |stop=>rfl
 |go i=>rfl
 |choose n i j=>unfold GA.nxt;dsimp only;rw [h n i j rfl]
structure BK(ns:List Str)(w:Int)(ks:List Str)(b:Bx):Prop where
 g:BxG ns w b
 k:b.map (·.1)=ks.map Sum.inr
theorem BK.dos{ns ks:List Str}{w:Int}(hw:1<=w):∀{ds:List Deed} {s:GA.BT},BK ns w ks s.1->(∀d∈ds,Deed.good ns w d)->BK ns w ks (GA.dos w ds s).1
 | [],s,h,_=>h
 |d::r,s,h,hd=>BK.dos hw (ds:=r) (s:=(doB w d s.1,doT w d s.1 s.2)) ⟨h.g.doB (hd d (dJ ..)) hw,(GO.vQ h.g (hd d (dJ ..))).trans h.k⟩ fun e he=>hd e (zq5 _ he)
theorem BK.bts{ns ks:List Str}{w:Int}(hw:1<=w):∀{bs:List (List Deed)} {s:GA.BT},BK ns w ks s.1->(∀l∈bs,∀d∈l,Deed.good ns w d)->BK ns w ks (bts w bs s).1
 | [],s,h,_=>h
 |l::r,s,h,hd=>by obtain ⟨h1,h2⟩:=GO.BxG.beat h.g hw h.g (hd l (dJ ..));exact BK.bts hw (bs:=r) (s:=GO.beat w s.1 l s) ⟨h1,h2.trans h.k⟩ fun e he=>hd e (zq5 _ he)
theorem AM{ns ks:List Str}{w:Int}{us:List Int}{b:FZ.Blk}{bss:List (List Nat)}{s:GA.BT}(hw:1<=w)(hg:gc (aL b.ds) (soN b.ds) (uN us) bss (List.range b.ds.length))(hs:BK ns w ks s.1)(hd:∀d∈b.ds,Deed.good ns w d):bts w (aJ b.ds bss) s=GA.dos w b.ds s:=by
 obtain ⟨h1,h2⟩:=vU (w:=w) (s:=s) hg;have hb:∀l∈aJ b.ds bss,∀d∈l,Deed.good ns w d:=fun l hl d hdl=>by obtain ⟨c,hc,rfl⟩:=zq20.mp hl;obtain ⟨p,hp,rfl⟩:=zq20.mp hdl;have hlt:=(eg hg c hc).2.2 p hp;exact hd _ (zq8 (gQ hlt))
 have k1:=BK.bts hw hs hb;have k2:=BK.dos hw hs hd;exact Prod.ext (Bq k1.g.isI k2.g.isI k1.k k2.k h1) h2
theorem bts_F{w:Int}{b:FZ.Blk}{bss:List (List Nat)}{s:GA.BT}:bts w (bT b bss) s=bts w (aJ b.ds bss) s:=by
 unfold bT
 split
 ·rw [gN];rfl
 ·rfl
theorem kz{us:List Int}{ds:List Deed}{bss:List (List Nat)}(hg:gc (aL ds) (soN ds) (uN us) bss (List.range ds.length)):(aJ ds bss).length<=ds.length:=by
 have z:=hg.perm.length_eq;rw [g9] at z;have key:∀l:List (List Nat),(∀b∈l,b≠[])->l.length<=l.flatten.length:=by
  intro l
  induction l with
  |nil=>intro _;exact cc _
  |cons b r ih=>intro h;have h1:=zq74.mpr (h b (dJ ..));have h2:=ih fun c hc=>h c (zq5 _ hc);rw [yN,zq3,dB];omega
 have:=key bss hg.ne;unfold aJ;rw [zq1];omega
section
variable {ns ks:List Str} {w:Int} {us:List Int} {F:List FZ.Blk} {b:FZ.Blk} {bs:List (List Deed)} {m:Nat} {fs:List Nat} {st:GA.BT}
theorem o1(hw:1<=w)(hL:ee us b bs)(hR:je F m bs (qe fs b.ed))(hs:BK ns w ks st.1)(hd:∀d∈b.ds,Deed.good ns w d)(q:Nat):GO.cg F w (q+bs.length) m st=match GA.nxt (GA.dos w b.ds st).1 b.ed with
  |none=>(GA.dos w b.ds st,true)
  |some j=>GO.cg F w q (fs.getD j 0) (GA.dos w b.ds st):=by
 obtain ⟨bss,hg,rfl⟩:=hL;have e1:bts w (bT b bss) st=GA.dos w b.ds st:=bts_F.trans (AM hw hg hs hd);have e2:GA.nxt (bts w (bT b bss).dropLast st).1 b.ed=GA.nxt (GA.dos w b.ds st).1 b.ed:=by
  refine wf fun n i j he=>?_;have el:∀d∈ez (bT b bss),n∉d.writes:=by
   unfold bT
   split
   ·unfold ez;rw [List.getLastD_concat];intro d hd;cases hd
   ·next h=>
    intro d hd hn;rw [kn,not_or,he] at h;refine h.2 ?_;rw [iS,wrB,zq78];refine ⟨d,hd,decide_eq_true ?_⟩;unfold wrV
    cases d with
    |tell a=>cases hn
    |copy x a=>rw [zq2.mp hn];rfl
    |op f x y z=>rw [zq2.mp hn];rfl
  rw [<- e1]
  conv=>rhs;rw [m3 (ig (b:=b) (bss:=bss)),gN]
  exact (gL el).symm
 rw [xC hR ig,zx,e2,e1]
 cases GA.nxt (GA.dos w b.ds st).1 b.ed<;>rfl
theorem ug(hw:1<=w)(hL:ee us b bs)(hR:je F m bs (qe fs b.ed))(hs:BK ns w ks st.1)(hd:∀d∈b.ds,Deed.good ns w d){q:Nat}(hq:b.ds.length<=q):(GA.dos w b.ds st).2 <+: (GO.cg F w q m st).1.2:=by
 have hL':=hL;obtain ⟨bss,hg,rfl⟩:=hL;have lb:=kz hg
 by_cases h:((aJ b.ds bss).isEmpty || iS (aJ b.ds bss) b.ed)=true
 ·have e:bT b bss=aJ b.ds bss++[[]]:=by unfold bT;rw [if_pos h]
  have z:=mj hR (w:=w) (st:=st) (q:=q-(aJ b.ds bss).length) (aJ b.ds bss).length (by rw [e,zq3];exact zq0 _);rw [show q-(aJ b.ds bss).length+(aJ b.ds bss).length=q by omega] at z;rw [z,e,List.take_left,AM hw hg hs hd];exact eI
 ·have e:bT b bss=aJ b.ds bss:=by unfold bT;rw [if_neg h]
  have z:=o1 hw hL' hR hs hd (q-(bT b bss).length);rw [e,show q-(aJ b.ds bss).length+(aJ b.ds bss).length=q by omega] at z;rw [z]
  split
  ·exact kr _
  ·exact eI
theorem uf(hL:ee us b bs):bs.length<=b.ds.length+1:=by
 obtain ⟨bss,hg,rfl⟩:=hL;have lb:=kz hg;unfold bT
 split
 ·rw [zq3,cy];omega
 ·omega
end
theorem pG{B:List FZ.Blk}{bbs:List (List (List Deed))}(hl:B.length=bbs.length){i:Nat}:∀k,i<=k->k<=B.length->g8 B bbs i <+: g8 B bbs k
 |0,h,_=>by
  obtain rfl:i=0:=by omega
  exact kr _
 |k+1,h,hk=>by
  by_cases e:i=k+1
  ·rw [e];exact kr _
  ·have hb:B[k]?=some B[k]:=zq4 (by omega);have hs:bbs[k]?=some bbs[k]:=zq4 (by omega);rw [dC hb hs,lJ];exact (pG hl k (by omega) (by omega)).trans (yD _ _)
theorem y9{B:List FZ.Blk}{bbs:List (List (List Deed))}(hl:B.length=bbs.length)(hne:∀bs∈bbs,bs≠[]){i:Nat}{b:FZ.Blk}{bs:List (List Deed)}(hb:B[i]?=some b)(hs:bbs[i]?=some bs):je (i8 B bbs) (eY (bbs.take i)) bs (qe (br bbs) b.ed):=fun j hj=>by have hi:=(zq10.mp hb).1;have len:=fG hl hne i (by omega);have hn:=hne _ (zq8 hs);have hr:=kS (m:=(g8 B bbs i).length) (ed:=qe (br bbs) b.ed) hn;obtain ⟨r,hr2⟩:=pG hl (i:=i+1) B.length (by omega) (zq0 _);rw [<- fF hl,<- hr2,dC hb hs,lJ];dsimp only;rw [j3 (by rw [zq3,hr,len];omega),iJ (by omega),len,Nat.add_sub_cancel_left]
structure TC(F T:List FZ.Blk)(fs:List Nat)(ns ks:List Str)(w:Int):Prop where
 hw:1<=w
 gd:∀b∈F,(∀d∈b.ds,Deed.good ns w d)/\b.ds.length<=8
 run:∀(i:Nat)b (st:GA.BT),F[i]?=some b->BK ns w ks st.1->∃L,L<=b.ds.length+1/\(∀q,GO.cg T w (q+L) (fs.getD i 0) st=match GA.nxt (GA.dos w b.ds st).1 b.ed with
   |none=>(GA.dos w b.ds st,true)
   |some j=>GO.cg T w q (fs.getD j 0) (GA.dos w b.ds st))/\∀q,b.ds.length<=q->(GA.dos w b.ds st).2 <+: (GO.cg T w q (fs.getD i 0) st).1.2
theorem Dd{ns ks:List Str}{w:Int}{us:List Int}{B:List FZ.Blk}{bbs:List (List (List Deed))}(hw:1<=w)(hG:FZ.gI ns w B.length B)(hL:Paired (ee us) B bbs)(up:∀s,s<3->0<=uN us s):TC B (i8 B bbs) (br bbs) ns ks w:=by
 have hl:=hL.length;have hm:∀bs∈bbs,bs≠[]:=fun bs hbs=>by obtain ⟨i,hi⟩:=zq67.mp hbs;obtain ⟨b,h1,h2⟩:=Paired.getR hL hi;exact (cJ up (hG b (zq8 h1)).len h2).1
 refine ⟨hw,fun b hb=>⟨(hG b hb).gd,(hG b hb).len⟩,fun i b st hb hs=>?_⟩;obtain ⟨bs,h1,h2⟩:=Paired.get hL hb;have hi:=(zq10.mp h1).1;have hR:=y9 hl hm hb h1;have hg:=(hG b (zq8 hb)).gd;rw [(fL hm hi).1];exact ⟨bs.length,uf h2,fun q=>o1 hw h2 hR hs hg q,fun q hq=>ug hw h2 hR hs hg hq⟩
section
variable {F T:List FZ.Blk} {fs:List Nat} {ns ks:List Str} {w:Int} {t0:GA.BT}
structure TD(F T:List FZ.Blk)(fs:List Nat)(ns ks:List Str)(w:Int)(t0 s:GA.BT)(i:Nat)(b:FZ.Blk)(e:Nat)(s0:GA.BT)(C:Nat):Prop where
 fi:F[i]?=some b
 le:e<=b.ds.length
 ds:GA.dos w (b.ds.take e) s0=s
 run:∀m,GO.cg T w (m+C) 0 t0=GO.cg T w m (fs.getD i 0) s0
 bk:BK ns w ks s0.1
theorem nP{b:FZ.Blk}{e:Nat}(h:e<=b.ds.length)(hd:b.ds.drop e=[]):e=b.ds.length:=by have:=congrArg List.length hd;rw [yS,List.length_nil] at this;omega
theorem TD.move(hT:TC F T fs ns ks w){s s0:GA.BT}{i j e C:Nat}{b b':FZ.Blk}(h:TD F T fs ns ks w t0 s i b e s0 C)(he:b.ds.drop e=[])(hn:GA.nxt s.1 b.ed=some j)(hj:F[j]?=some b'):∃C',C'<=C+e+1/\TD F T fs ns ks w t0 s j b' 0 s C':=by
 have el:=nP h.le he;have hd:=h.ds;rw [el,dZ] at hd;obtain ⟨L,hL,h1,_⟩:=hT.run i b s0 h.fi h.bk;rw [hd,hn] at h1;refine ⟨C+L,by omega,hj,cc _,rfl,fun m=>?_,?_⟩
 ·rw [show m+(C+L)=m+L+C by omega,h.run,h1]
 ·rw [<- hd];exact BK.dos hT.hw h.bk (hT.gd b (zq8 h.fi)).1
noncomputable def TI(F T:List FZ.Blk)(fs:List Nat)(ns ks:List Str)(w:Int)(t0:GA.BT)(n:Nat)(s:Stt):Prop:=∃(i:Nat)(b:FZ.Blk)(e:Nat)(s0:GA.BT)(C:Nat),TD F T fs ns ks w t0 (s.bx,s.told) i b e s0 C/\GA.Rep F s.left ⟨b.ds.drop e,b.ed⟩/\C+e<=2 * n/\(1<=e->C+8<=4 * n+4)
theorem TI.stepN(hT:TC F T fs ns ks w){x:Stm}{l:List Stm}{bx:Bx}{tl:List Int}{i e C n:Nat}{b:FZ.Blk}{s0:GA.BT}(h:TD F T fs ns ks w t0 (bx,tl) i b e s0 C)(hr:GA.Rep F (x::l) ⟨b.ds.drop e,b.ed⟩)(hn:¬∃j,(⟨b.ds.drop e,b.ed⟩:FZ.Blk)=⟨[],.go j⟩)(hC:C+e<=2 * n+1)(hd:∀d,x=.deed d->C+8<=4 * n+8):
  TI F T fs ns ks w t0 (n+1) (cP w ⟨x::l,bx,tl⟩):=by
 generalize hc:(⟨b.ds.drop e,b.ed⟩:FZ.Blk)=c at hr hn;have jump:∀{l':List Stm} {nm:Str} {j k:Nat},c=⟨[],.choose nm j k⟩->GA.Rep F l' ⟨[],.go (if aI bx nm≠0 then j else k)⟩->TI F T fs ns ks w t0 (n+1) ⟨l',bx,tl⟩:=by intro l' nm j k ec hr';rw [ec] at hc;have e1:b.ds.drop e=[]:=congrArg FZ.Blk.ds hc;have e2:b.ed=.choose nm j k:=congrArg FZ.Blk.ed hc;obtain ⟨b',h1,h2,_⟩:=hr'.hop rfl;obtain ⟨C',hC',hD⟩:=h.move hT e1 (by rw [e2];rfl) h1;exact ⟨_,b',0,_,C',hD,h2,by omega,fun z=>by omega⟩
 have loop:∀{nm:Str} {a:List Stm} {c0 c1:FZ.Blk} {i j L:Nat},GA.Way F c0 i->GA.Rep F l c0->F[L]?=some ⟨[],.choose nm j i⟩->GA.k9 F a ⟨[],.go L⟩ c1->GA.Way F c1 j->GA.Rep F (if aI bx nm≠0 then a++.whl nm a::l else l) ⟨[],.go (if aI bx nm≠0 then j else i)⟩:=by
  intro nm a c0 c1 i j L h1 h2 h3 h4 h5
  by_cases z:aI bx nm≠0
  ·rw [if_pos z,if_pos z];exact (GA.Rep.app h4 (.cons (.whl h1 h3 h4 h5) h2)).way h5
  ·rw [if_neg z,if_neg z];exact h2.way h1
 have deed:∀{d:Deed} {r:List Deed} {ed:FZ.Ed},x=.deed d->c=⟨d::r,ed⟩->GA.Rep F l ⟨r,ed⟩->TI F T fs ns ks w t0 (n+1) (cP w ⟨x::l,bx,tl⟩):=by
  intro d r ed ex ec hr';subst ex;rw [ec] at hc;have e1:b.ds.drop e=d::r:=congrArg FZ.Blk.ds hc;have e2:b.ed=ed:=congrArg FZ.Blk.ed hc;have hde:b.ds[e]?=some d:=by have:=congrArg (fun l=>l[0]?) e1;rw [List.getElem?_drop,Nat.add_zero] at this;exact this
  have hlt:=(zq10.mp hde).1;have e3:b.ds.drop (e+1)=r:=by rw [<- List.drop_drop,e1];rfl
  refine ⟨i,b,e+1,s0,C,⟨h.fi,hlt,?_,h.run,h.bk⟩,?_,by omega,fun _=>by have:=hd d rfl;omega⟩
  ·rw [GA.jr hde,h.ds];rfl
  ·rw [e3,e2];exact hr'
 cases hr with
 |go h1 h2 h3=>exact absurd ⟨_,rfl⟩ hn
 |head w0 h1 hL ha hw=>exact jump rfl (loop w0 h1 hL ha hw)
 | @cons _ _ b1 _ hs h1=>
  cases hs with
  |add=>exact deed rfl rfl h1
  |cut hw=>exact deed rfl rfl (h1.way hw)
  |whl w0 hL ha hw=>exact absurd ⟨_,rfl⟩ hn
  | @ifs nm y z b2 c1 e1 i j k w0 hx wx hy wy=>
   refine jump rfl ?_;show GA.Rep F ((if aI bx nm≠0 then y else z)++l) _
   by_cases q:aI bx nm≠0
   ·rw [if_pos q,if_pos q];exact (GA.Rep.app hx (h1.way w0)).way wx
   ·rw [if_neg q,if_neg q];exact (GA.Rep.app hy (h1.way w0)).way wy
theorem TI.step(hT:TC F T fs ns ks w){s:Stt}{n:Nat}(h:TI F T fs ns ks w t0 n s)(h0:n=0->∀d r,s.left=.deed d::r->∃(i:Nat)(b:FZ.Blk)(s0:GA.BT),TD F T fs ns ks w t0 (s.bx,s.told) i b 0 s0 0/\GA.Rep F s.left ⟨b.ds.drop 0,b.ed⟩/\¬∃j,b=⟨[],.go j⟩):TI F T fs ns ks w t0 (n+1) (cP w s):=by
 obtain ⟨l,bx,tl⟩:=s;obtain ⟨i,b,e,s0,C,hD,hR,hC,h8⟩:=h
 cases l with
 |nil=>exact ⟨i,b,e,s0,C,hD,hR,by omega,fun z=>by have:=h8 z;omega⟩
 |cons x l=>
  by_cases hz:n=0/\∃d,x=.deed d
  ·obtain ⟨hz,d,hx⟩:=hz;obtain ⟨i,b,s0,g1,g2,g3⟩:=h0 hz d l (by rw [hx]);exact TI.stepN hT g1 g2 (fun ⟨j,z⟩=>g3 ⟨j,z⟩) (by omega) fun _ _=>by omega
  by_cases hn:∃j,(⟨b.ds.drop e,b.ed⟩:FZ.Blk)=⟨[],.go j⟩
  ·obtain ⟨j,hj⟩:=hn;obtain ⟨b',h1,h2,h3⟩:=hR.hop hj;have e1:b.ds.drop e=[]:=congrArg FZ.Blk.ds hj;have e2:b.ed=.go j:=congrArg FZ.Blk.ed hj;obtain ⟨C',hC',hD'⟩:=hD.move hT e1 (by rw [e2];rfl) h1;refine TI.stepN hT hD' h2 (fun ⟨j,z⟩=>h3 ⟨j,z⟩) (by omega) fun d hd=>?_;have:n≠0:=fun z=>hz ⟨z,d,hd⟩;omega
  ·exact TI.stepN hT hD hR hn (by omega) fun d hd=>by
    by_cases z:1<=e
    ·have:=h8 z;omega
    ·omega
end
theorem kE{ss:List Stm}{T:List FZ.Blk}{fs:List Nat}{ns ks:List Str}{w:Int}{b:Bx}{t:List Int}(hT:TC (FZ.aO ss) T fs ns ks w)(h0:fs.getD 0 0=0)(hb:BK ns w ks b):∀n,TI (FZ.aO ss) T fs ns ks w (b,t) n (dy w n ⟨ss,b,t⟩):=by
 obtain ⟨c,h1,h2⟩:=GA.lN ss;have hD:TD (FZ.aO ss) T fs ns ks w (b,t) (b,t) 0 c 0 (b,t) 0:=⟨h1,cc _,rfl,fun m=>by rw [h0];rfl,hb⟩
 have base:TI (FZ.aO ss) T fs ns ks w (b,t) 0 ⟨ss,b,t⟩:=⟨0,c,0,(b,t),0,hD,h2,zq0 _,fun z=>by omega⟩
 intro n
 induction n with
 |zero=>exact base
 |succ n ih=>
  refine TI.step hT ih fun hn d r hl=>?_;subst hn;refine ⟨0,c,(b,t),hD,h2,?_⟩;have e0:FZ.aO ss=(FZ.aP ss ⟨[],.stop⟩ [⟨[],.stop⟩]).2.set 0 (FZ.aP ss ⟨[],.stop⟩ [⟨[],.stop⟩]).1:=rfl;have hl:ss=.deed d::r:=hl;rintro ⟨j,rfl⟩;have g:=FZ.bo ss ⟨[],.stop⟩ [⟨[],.stop⟩];rw [e0,yQ (by have:=g.1;rw [cy] at this;omega)] at h1;have h1:=Option.some.inj h1;subst hl;rw [FZ.aP,FZ.bK] at h1
  split at h1
  ·have:=congrArg FZ.Blk.ds h1;cases this
  ·have:=congrArg FZ.Blk.ds h1;cases this
section
variable {ss:List Stm} {T:List FZ.Blk} {fs:List Nat} {ns ks:List Str} {w:Int} {b:Bx} {t:List Int} {n m:Nat}
theorem lj(hT:TC (FZ.aO ss) T fs ns ks w)(h0:fs.getD 0 0=0)(hb:BK ns w ks b)(h:(dy w n ⟨ss,b,t⟩).left=[])(hm:2 * n+2<=m):GO.cg T w m 0 (b,t)=(((dy w n ⟨ss,b,t⟩).bx,(dy w n ⟨ss,b,t⟩).told),true):=by
 obtain ⟨i,c,e,s0,C,hD,hR,hC,_⟩:=kE (t:=t) hT h0 hb n;generalize dy w n ⟨ss,b,t⟩=s at *;have fin:∀{i:Nat} {c:FZ.Blk} {e C:Nat} {s0:GA.BT},TD (FZ.aO ss) T fs ns ks w (b,t) (s.bx,s.told) i c e s0 C->c.ds.drop e=[]->c.ed=.stop->C+e+1<=m->GO.cg T w m 0 (b,t)=((s.bx,s.told),true):=by intro i c e C s0 hD hd he hm;have el:=nP hD.le hd;have hs:=hD.ds;rw [el,dZ] at hs;obtain ⟨L,hL,h1,_⟩:=hT.run i c s0 hD.fi hD.bk;have z:=hD.run (m-C-L+L);rw [h1,he,hs,show m-C-L+L+C=m by omega] at z;exact z
 rw [h] at hR;generalize hc:(⟨c.ds.drop e,c.ed⟩:FZ.Blk)=c' at hR
 cases hR with
 |nil=>exact fin hD (congrArg FZ.Blk.ds hc) (congrArg FZ.Blk.ed hc) (by omega)
 | @go _ b' j h1 h2 h3=>
  have e1:c.ds.drop e=[]:=congrArg FZ.Blk.ds hc;have e2:c.ed=.go j:=congrArg FZ.Blk.ed hc;obtain ⟨C',hC',hD'⟩:=hD.move hT e1 (by rw [e2];rfl) h2
  cases h1 with
  |nil=>exact fin hD' rfl rfl (by omega)
  |go=>exact absurd ⟨_,rfl⟩ h3
theorem lu(hT:TC (FZ.aO ss) T fs ns ks w)(h0:fs.getD 0 0=0)(hb:BK ns w ks b)(hm:4 * n+4<=m):(dy w n ⟨ss,b,t⟩).told <+: (GO.cg T w m 0 (b,t)).1.2:=by
 obtain ⟨i,c,e,s0,C,hD,hR,hC,h8⟩:=kE (t:=t) hT h0 hb n;generalize dy w n ⟨ss,b,t⟩=s at *;have z:=hD.run (m-C);rw [show m-C+C=m by omega] at z;rw [z];have ds:=hD.ds
 by_cases he:1<=e
 ·obtain ⟨L,hL,_,h1⟩:=hT.run i c s0 hD.fi hD.bk;have hl:=(hT.gd c (zq8 hD.fi)).2;have h2:=h1 (m-C) (by have:=h8 he;omega);refine List.IsPrefix.trans ?_ h2;have app:GA.dos w c.ds s0=GA.dos w (c.ds.drop e) (GA.dos w (c.ds.take e) s0):=by
   have app:∀(l m:List Deed)(s:GA.BT),GA.dos w (l++m) s=GA.dos w m (GA.dos w l s):=by
    intro l
    induction l with
    |nil=>intro m s;rfl
    |cons x r ih=>intro m s;exact ih m _
   rw [<- app,tD]
  rw [app,ds];exact GA.nO (s:=(s.bx,s.told))
 ·obtain rfl:e=0:=by omega
  have e1:s0=(s.bx,s.told):=ds;rw [e1];exact eI (s:=(s.bx,s.told))
theorem qG(hT:TC (FZ.aO ss) T fs ns ks w)(h0:fs.getD 0 0=0)(hb:BK ns w ks b)(h1:(dy w n ⟨ss,b,t⟩).left=[])(h2:(GO.cg T w m 0 (b,t)).2=true):(GO.cg T w m 0 (b,t)).1=((dy w n ⟨ss,b,t⟩).bx,(dy w n ⟨ss,b,t⟩).told):=by have e1:=lj (t:=t) hT h0 hb h1 (Nat.le_max_right m (2 * n+2));have e2:=(iD (F:=T) (w:=w) (i:=0) (s:=(b,t)) (Nat.le_max_left m (2 * n+2))).2 h2;rw [e1] at e2;rw [<- e2]
theorem pE(hT:TC (FZ.aO ss) T fs ns ks w)(h0:fs.getD 0 0=0)(hb:BK ns w ks b):(dy w n ⟨ss,b,t⟩).told.take (min (dy w n ⟨ss,b,t⟩).told.length (GO.cg T w m 0 (b,t)).1.2.length)=(GO.cg T w m 0 (b,t)).1.2.take (min (dy w n ⟨ss,b,t⟩).told.length (GO.cg T w m 0 (b,t)).1.2.length):=
 GA.wY (lu hT h0 hb (Nat.le_max_right m (4 * n+4))) (iD (Nat.le_max_left m (4 * n+4))).1
end
variable {E:XK} {H:Hp} {Q:VK}
noncomputable def mZ(op:Str)(x y w:Int)(H:Hp)(Q:VK):Prop:=op∈FB.opsL/\0<=w/\w<=8/\∀H',Same H H'->Q (.int (oF op x y w)) H'
noncomputable def oX:Sp:=fun vs H Q _=>∃(op:Str)(x y w:Int),vs=[.str op,.int x,.int y,.int w]/\mZ op x y w H Q
noncomputable def sT(K:W.Frag):Sp:=fun vs H Q _=>∃(o:Opd)(bx:Addr)(b:Bx)(ns:List Str)(w:Int),vs=[o.v,.ref bx]/\H bx=some (.dK b)/\BxG ns w b/\Opd.good ns w o/\Q (.int (g7 b o)) H
noncomputable def vk(K:W.Frag)(q:Addr)(bx:Addr)(td:Addr)(w:Int)(H:Hp)(Q:VK):Prop:=∃(d:Deed)(b:Bx)(ns:List Str)(tl:List Int),SqT K H q d.vs/\d.fine/\Deed.good ns w d/\H bx=some (.dK b)/\BxG ns w b/\H td=some (.lst (tl.map V.int))/\tl.length<=100000/\1<=w/\w<=8/\
 ∀H',SameB bx td H H'->H' bx=some (.dK (doB w d b))->H' td=some (.lst ((doT w d b tl).map V.int))->Q .non H'
noncomputable def xK(K:W.Frag):Sp:=fun vs H Q _=>∃(q:Addr)(bx:Addr)(td:Addr)(w:Int),vs=[.ref q,.ref bx,.ref bx,.ref td,.int w]/\vk K q bx td w H Q
theorem sD{op:Str}{x y w:Int}:oX [.str op,.int x,.int y,.int w] H Q E=mZ op x y w H Q:=propext ⟨by rintro ⟨_,_,_,_,e,q⟩;cases e;exact q,fun q=>⟨_,_,_,_,rfl,q⟩⟩
theorem gj{q bx td:Addr}{w:Int}:xK K [.ref q,.ref bx,.ref bx,.ref td,.int w] H Q E=vk K q bx td w H Q:=propext ⟨by rintro ⟨_,_,_,_,e,q⟩;cases e;exact q,fun q=>⟨_,_,_,_,rfl,q⟩⟩
theorem fB{o:Opd}{bx:Addr}:sT K [o.v,.ref bx] H Q E=∃(b:Bx)(ns:List Str)(w:Int),H bx=some (.dK b)/\BxG ns w b/\Opd.good ns w o/\Q (.int (g7 b o)) H:=
 propext ⟨fun ⟨o',_,b,ns,w,e,q⟩=>by
  have e2:o=o':=by
   injection e with e1 _
   cases o<;>cases o'<;>first | (injection e1 with e1;rw [e1]) | cases e1
  subst e2;injection e with _ e;injection e with e _;injection e with e;subst e;exact ⟨b,ns,w,q⟩,fun ⟨b,ns,w,q⟩=>⟨o,bx,b,ns,w,rfl,q⟩⟩
theorem ou(T:Txt K mg t):FnOk P w K mg base CX0 1 t.f_38 t.e_38 ["_law_op","_law_x","_law_y","_law_width"] oX:=by
 refine T.d_38.F.ok Fs ∅ ?_;rintro cdv A outer s H vs Q E hr ⟨op,x,y,w,rfl,ho,h0,h8,q⟩;refine ⟨_,
   (XSs.h
   (ai
    (aF (ar aT (yqv 0 vl) aE (aA _))
     (aj
      (aq (am aK (am b7 (yqv 1 vl) (yqv 2 vl)) (am f7 ac (yqv 3 vl)))))
     aB)
   (ai
    (aF (ar aT (yqv 0 vl) aE (aA _))
     (aj
      (aq (am aK (am cI (yqv 1 vl) (yqv 2 vl)) (am f7 ac (yqv 3 vl)))))
     aB)
   (ai
    (aF (ar aT (yqv 0 vl) aE (aA _))
     (aj
      (aq (bw cV gl T.z_int boot_int (aa (aR dX (yqv 1 vl) (yqv 2 vl) (aA _)) ae))))
     aB)
   (ai
    (aF (ar aT (yqv 0 vl) aE (aA _))
     (aj
      (aq (bw cV gl T.z_int boot_int (aa (aR aT (yqv 1 vl) (yqv 2 vl) (aA _)) ae))))
     aB)
   (aj
    (aq (ak aS (aQ (aa (ak aS (aQ (aa (am AD (yqv 1 vl) (yqv 2 vl)) (aa (am Dj (yqv 1 vl) (yqv 2 vl)) ae))) (bw cV gl T.z_int boot_int (aa (aR aT (yqv 0 vl) aE (aA _)) ae))) (aa (am AE (yqv 1 vl) (yqv 2 vl)) ae))) (bw cV gl T.z_int boot_int (aa (aR aT (yqv 0 vl) aE (aA _)) ae)))))))))),?_⟩
 rw [show aM _ [V.str op,V.int x,V.int y,V.int w]=[some (.str op),some (.int x),some (.int y),some (.int w)] from rfl];simp_arith [];have z:op="plus"\/op="less"\/op="and"\/op="or"\/op="xor"\/op="below"\/op="same":=by simpa [FB.opsL] using ho
 have hp:(0:Int)<1 * 2 ^ w.toNat:=by rw [qT];exact qU (by decide)
 have cp:tF 1 w:=⟨h0,by omega,by decide⟩
 unfold oF at q;rw [<- qT (2 ^ w.toNat)] at q;have t2:∀{p1 p2:Addr} {v:V},H p1=none->upd H p1 (.lst [V.int (Builtin.bitAnd x y),V.int (Builtin.bitOr x y)]) p2=none->Same H (upd (upd H p1 (.lst [V.int (Builtin.bitAnd x y),V.int (Builtin.bitOr x y)])) p2 (.lst [v,V.int (Builtin.bitXor x y)])):=fun h1 h2=>(Same.upd h1).trans (Same.upd h2);rcases z with rfl | rfl | rfl | rfl | rfl | rfl | rfl
 ·rw [if_pos rfl] at q;rw [if_pos (by decide)];exact ⟨cp,hp,q H (Same.refl H)⟩
 ·rw [if_neg (by decide +kernel),if_pos rfl] at q;rw [if_neg (by decide +kernel),if_pos (by decide)];exact ⟨cp,hp,q H (Same.refl H)⟩
 ·rw [if_neg (by decide +kernel),if_neg (by decide +kernel),if_pos rfl] at q;rw [if_neg (by decide +kernel),if_neg (by decide +kernel),if_neg (by decide +kernel),if_neg (by decide +kernel)];intro p1 hp1;refine ⟨_,_,SqL.of af,by rw [if_neg (by decide +kernel)];rfl,fun p2 hp2=>⟨_,_,SqL.of af,by rw [if_neg (by decide +kernel)];rfl,q _ (t2 hp1 hp2)⟩⟩
 ·rw [if_neg (by decide +kernel),if_neg (by decide +kernel),if_neg (by decide +kernel),if_pos rfl] at q;rw [if_neg (by decide +kernel),if_neg (by decide +kernel),if_neg (by decide +kernel),if_neg (by decide +kernel)];intro p1 hp1;refine ⟨_,_,SqL.of af,by rw [if_pos (by decide)];rfl,fun p2 hp2=>⟨_,_,SqL.of af,by rw [if_neg (by decide +kernel)];rfl,q _ (t2 hp1 hp2)⟩⟩
 ·rw [if_neg (by decide +kernel),if_neg (by decide +kernel),if_neg (by decide +kernel),if_neg (by decide +kernel),if_pos rfl] at q;rw [if_neg (by decide +kernel),if_neg (by decide +kernel),if_neg (by decide +kernel),if_neg (by decide +kernel)];intro p1 hp1;refine ⟨_,_,SqL.of af,by rw [if_neg (by decide +kernel)];rfl,fun p2 hp2=>⟨_,_,SqL.of af,by rw [if_pos (by decide)];rfl,q _ (t2 hp1 hp2)⟩⟩
 ·rw [if_neg (by decide +kernel),if_neg (by decide +kernel),if_neg (by decide +kernel),if_neg (by decide +kernel),if_neg (by decide +kernel),if_pos rfl] at q;rw [if_neg (by decide +kernel),if_neg (by decide +kernel),if_pos (by decide)];rw [show (if decide (x<y)=true then (1:Int) else 0)=(if x<y then 1 else 0) by simp];exact q H (Same.refl H)
 ·rw [if_neg (by decide +kernel),if_neg (by decide +kernel),if_neg (by decide +kernel),if_neg (by decide +kernel),if_neg (by decide +kernel),if_neg (by decide +kernel)] at q;rw [if_neg (by decide +kernel),if_neg (by decide +kernel),if_neg (by decide +kernel),if_pos (by decide)];rw [show (if decide (x=y)=true then (1:Int) else 0)=(if x=y then 1 else 0) by simp];exact q H (Same.refl H)
theorem ow(T:Txt K mg t):FnOk P w K mg base CX0 1 t.f_37 t.e_37 ["_law_operand_here","_law_boxes"] (sT K):=by
 refine T.d_37.F.ok Fq ∅ ?_;rintro cdv A outer s H vs Q E hr ⟨o,bx,b,ns,w,rfl,hB,hG,ho,q⟩;have hu:=fh hr;refine ⟨_,
   (XSs.h
   (ai
    (aF (bi (aw bN gl T.z_isinstance boot_isinstance (aa (yqv 0 vl) (aa (bS (v:=.ty "str") gl T.z_str boot_str rfl) ae))))
     (aj
      (aq (fI hu (yqv 1 vl) (yqv 0 vl) (fun _ _=>rfl))))
     aB)
   (aj
    (aq (yqv 0 vl))))),?_⟩
 rw [show aM _ [o.v,V.ref bx]=[some o.v,some (.ref bx)] from rfl];simp_arith [];refine lW ⟨_,rfl,?_⟩
 cases o with
 |box n=>exact ⟨bx,_,rfl,.inl ⟨b,.inr n,.inl hB,rfl,(hG.val ho).symm⟩,q⟩
 |word i=>exact q
theorem ma{f:Str}(h:f∈FB.opsL){g:Str}(hg:g∉FB.opsL):¬f=g:=fun z=>hg (z ▸ h)
theorem BS(T:Txt K mg t):FnOk P w K mg base CX0 2 t.f_39 t.e_39 ["_law_deed_here","_law_before","_law_boxes","_law_said","_law_width"] (xK K):=by
 have G_37:=@ow P w K mg base t T;have G_38:=@ou P w K mg base t T;refine T.d_39.F.ok B1 ∅ ?_;rintro cdv A outer s H vs Q E hr ⟨qd,bx,td,w,rfl,d,b,ns,tl,hq,hf,hd,hB,hG,hT,hl,w1,w8,q⟩;have hu:=fh hr;refine ⟨_,
   (XSs.h
   (aj
    (aF (ar aT (ak au (yqv 0 vl) ac) aE (aA _))
     (aj
      (bB (cx PySem.F.plainAttrs_list PySem.F.slot_list_append PySem.F.type_list_append bj (yqv 3 vl) (aa (ap T.d_37 G_37 hr.m (aa (ak au (yqv 0 vl) ac) (aa (yqv 1 vl) ae)) gl) ae))))
     (aj
      (aF (ar aT (ak au (yqv 0 vl) ac) aE (aA _))
       (aj
        (eK hu (yqv 2 vl) (ak au (yqv 0 vl) ac) (ap T.d_37 G_37 hr.m (aa (ak au (yqv 0 vl) ac) (aa (yqv 1 vl) ae)) gl) rfl))
       (aj
        (eK hu (yqv 2 vl) (ak au (yqv 0 vl) ac) (ap T.d_38 G_38 hr.m (aa (ak au (yqv 0 vl) ac) (aa (ap T.d_37 G_37 hr.m (aa (ak au (yqv 0 vl) ac) (aa (yqv 1 vl) ae)) gl) (aa (ap T.d_37 G_37 hr.m (aa (ak au (yqv 0 vl) ac) (aa (yqv 1 vl) ae)) gl) (aa (yqv 4 vl) ae)))) gl) rfl))))))),?_⟩
 rw [show aM _ [V.ref qd,V.ref bx,V.ref bx,V.ref td,V.int w]=[some (.ref qd),some (.ref bx),some (.ref bx),some (.ref td),some (.int w)] from rfl];simp_arith [];have few:=hG.few;have nbt:bx≠td:=df hB hT (by intro z;cases z)
 cases d with
 |tell o=>
  refine ⟨_,_,hq,rfl,?_⟩;simp_arith [];refine aH (fun _=>⟨.inl ⟨rfl,_,SqL.of hT⟩,_,_,hq,rfl,?_⟩) (fun e=>absurd trivial e);simp_arith [fB];refine ⟨b,ns,w,hB,hG,hd,_,hT,by rw [zq1,sizeLine_eq];omega,q _ SameB.upd2 (by rw [av nbt];exact hB) ?_⟩;show upd H td _ td=some (.lst (List.map V.int (tl++[g7 b o])));rw [af,cD];rfl
 |copy n o=>
  refine ⟨_,_,hq,rfl,?_⟩;simp_arith [];refine aH (fun e=>absurd e (by decide +kernel)) (fun _=>⟨_,_,hq,rfl,?_⟩);simp_arith [];refine aH (fun _=>⟨_,_,hq,rfl,?_⟩) (fun e=>absurd trivial e);simp_arith [fB];refine ⟨b,ns,w,hB,hG,hd.2,?_⟩;exact ⟨_,_,hq,rfl,_,DPut.k (k:=.inr n) hB (by rw [sizeLine_eq];omega),q _ SameB.upd1 af (by rw [av nbt.symm];exact hT)⟩
 |op f n o o2=>obtain ⟨g1,g2,g3,g4⟩:f∈FB.opsL/\n∈ns/\Opd.good ns w o/\Opd.good ns w o2:=hd;refine ⟨_,_,hq,rfl,?_⟩;simp_arith [];refine aH (fun e=>absurd e (ma g1 (by decide +kernel))) (fun _=>⟨_,_,hq,rfl,?_⟩);simp_arith [];refine aH (fun e=>absurd e (ma g1 (by decide +kernel))) (fun _=>⟨_,_,hq,rfl,_,_,hq,rfl,?_⟩);simp_arith [fB];refine ⟨b,ns,w,hB,hG,g3,_,_,hq,rfl,?_⟩;simp_arith [fB,sD];refine ⟨b,ns,w,hB,hG,g4,g1,by omega,w8,fun H1 s1=>⟨_,_,s1.seqT hq,rfl,_,DPut.k (k:=.inr n) (s1 _ _ hB) (by rw [sizeLine_eq];omega),?_⟩⟩;exact q _ ((SameB.of s1).trans SameB.upd1) af (by rw [av nbt.symm];exact s1 _ _ hT)
variable {H H':Hp} {b:Bx} {l:List V} {p r:Addr}
theorem SameB.ts(s:SameB p r H H')(hp:H p=some (.dK b))(hr:H r=some (.lst l)):TSame H H':=
 ⟨fun c xs e=>s c _ e (fun z=>by rw [z,hp] at e;cases e) (fun z=>by rw [z,hr] at e;cases e),fun c o u e=>s c _ e (fun z=>by rw [z,hp] at e;cases e) (fun z=>by rw [z,hr] at e;cases e)⟩
theorem An{K:W.Frag}{xs:List V}{ss:List Stm}{f:List Addr}(h:StmsV K H xs ss f)(s:SameB p r H H')(hp:H p=some (.dK b))(hr:H r=some (.lst l))(hf:r∉f):StmsV K H' xs ss f:=
 h.keep (SameB.ts s hp hr) fun a ha o e=>s a o e (fun z=>by obtain ⟨zs,hz⟩:=h.tracked a ha;rw [z,hp] at hz;cases hz) (fun z=>hf (z ▸ ha))
theorem D5{K:W.Frag}{x:V}{st:Stm}{f:List Addr}(h:StmV K H x st f)(s:SameB p r H H')(hp:H p=some (.dK b))(hr:H r=some (.lst l))(hf:r∉f):StmV K H' x st f:=
 h.keep (SameB.ts s hp hr) fun a ha o e=>s a o e (fun z=>by obtain ⟨zs,hz⟩:=h.tracked a ha;rw [z,hp] at hz;cases hz) (fun z=>hf (z ▸ ha))
structure BtV(H:Hp)(bx td:Addr)(ns:List Str)(w:Int)(b:Bx)(t:List Int):Prop where
 hb:H bx=some (.dK b)
 ht:H td=some (.lst (t.map V.int))
 gd:BxG ns w b
noncomputable def lM(K:W.Frag)(d:Nat)(a bx td:Addr)(w left:Int)(H:Hp)(Q:VK):Prop:=∃(xs:List V)(ss:List Stm)(f:List Addr)(b:Bx)(ns:List Str)(tl:List Int)(n:Nat),left=n/\H a=some (.lst xs)/\StmsV K H xs ss f/\a≠td/\td∉f/\bY ss<d/\bO ns w ss/\BtV H bx td ns w b tl/\tl.length+n<=10000/\1<=w/\w<=8/\
 ∀H',SameB bx td H H'->BtV H' bx td ns w (GA.runL w n ⟨ss,b,tl⟩).2.bx (GA.runL w n ⟨ss,b,tl⟩).2.told->Q (.int (GA.runL w n ⟨ss,b,tl⟩).1) H'
noncomputable def jc(K:W.Frag)(d:Nat):Sp:=fun vs H Q _=>∃(a bx td:Addr)(w left:Int),vs=[.ref a,.ref bx,.ref td,.int w,.int left]/\lM K d a bx td w left H Q
theorem cw{d:Nat}{a bx td:Addr}{w left:Int}{Q:VK}{E:XK}:jc K d [.ref a,.ref bx,.ref td,.int w,.int left] H Q E=lM K d a bx td w left H Q:=propext ⟨by rintro ⟨_,_,_,_,_,e,q⟩;cases e;exact q,fun q=>⟨_,_,_,_,_,rfl,q⟩⟩
theorem Bw{q:Addr}{d:Deed}{k:Str}{Z:V->Hp->Prop}(hf:d.fine)(hq:SqT K H q d.vs)(h1:opsL.contains k=false)(h2:¬("tell":Str)=k) (h3:¬("copy":Str)=k) (h:Z (.bl true) H):∃xs v,SqT K H q xs/\atI xs 0=some v/\rNe v (.str k) H Z:=by
 cases d with
 |tell a=>exact ⟨_,_,hq,rfl,rfl,by rw [decide_eq_false (fun z=>h2 (V.str.inj z))];exact h⟩
 |copy n a=>exact ⟨_,_,hq,rfl,rfl,by rw [decide_eq_false (fun z=>h3 (V.str.inj z))];exact h⟩
 |op f n a b=>exact ⟨_,_,hq,rfl,rfl,by rw [decide_eq_false (fun z=>rZ hf h1 (V.str.inj z))];exact h⟩
theorem BtV.get{bx td:Addr}{ns:List Str}{w:Int}{t:List Int}{n:Str}(h:BtV H bx td ns w b t)(hn:n∈ns):DGet H bx (.str n) (some (.int (aI b n))):=.inl ⟨b,.inr n,.inl h.hb,rfl,(h.gd.val hn).symm⟩
theorem ul(T:Txt K mg t)(d:Nat)(G_40:FnOk P w K mg base CX0 (d+3) t.f_40 t.e_40 ["_law_rows","_law_boxes","_law_said","_law_width","_law_left"] (jc K d)):FnOk P w K mg base CX0 (d+4) t.f_40 t.e_40 ["_law_rows","_law_boxes","_law_said","_law_width","_law_left"] (jc K (d+1)):=by
 have G_39:=@BS P w K mg base t T;refine T.d_40.F.ok sc_40 ∅ ?_;rintro cdv A outer s H vs Q E hr ⟨a,bx,td,w,left,rfl,xs,ss,f,b0,ns,tl,n,rfl,ha,hx,nat,ntf,hd,hg,hV,hln,w1,w8,q⟩;have hu:=fh hr;refine ⟨_,
   (XSs.h
   (ai
    (bF PassesOwn.never rfl (aZ (yqv 0 vl)) (aC (i:=5) sc_40.nd rfl ll)
     (bD
      (aF (ar aT (yqv 4 vl) ac (aA _))
       (aj
        (aq (gG f9 ac)))
       aB)
     (ai
      (ax (i:=4) sc_40.nd rfl ll (am cI (yqv 4 vl) ac))
     (bD
      (aF (ar aT (ak au (yqv 5 vl) ac) aE (aA _))
       (aj
        (ax (i:=4) sc_40.nd rfl ll (ap T.d_40 G_40 hr.m (aa (ak au (yqv 5 vl) (am b7 ac (bw cV gl T.z_int boot_int (aa (aR aT (fI hu (yqv 1 vl) (ak au (yqv 5 vl) ac) (fun _ _=>rfl)) ac (aA _)) ae)))) (aa (yqv 1 vl) (aa (yqv 2 vl) (aa (yqv 3 vl) (aa (yqv 4 vl) ae))))) gl)))
       (aj
        (aF (ar iT (ak au (yqv 5 vl) ac) aE (aA _))
         (aj
          (bB (ap T.d_39 G_39 hr.m (aa (yqv 5 vl) (aa (yqv 1 vl) (aa (yqv 1 vl) (aa (yqv 2 vl) (aa (yqv 3 vl) ae))))) gl)))
         (aj
          (iH PassesOwn.never (bU (dR (ar iI (fI hu (yqv 1 vl) (ak au (yqv 5 vl) ac) (fun _ _=>rfl)) ac (aA _)) (d7 (ar jY (yqv 4 vl) ac (aA _)))))
           (aj
            (ax (i:=4) sc_40.nd rfl ll (am cI (ap T.d_40 G_40 hr.m (aa (ak au (yqv 5 vl) ac) (aa (yqv 1 vl) (aa (yqv 2 vl) (aa (yqv 3 vl) (aa (yqv 4 vl) ae))))) gl) ac))))))))
     (aj
      (aF (ar dX (yqv 4 vl) ac (aA _))
       (aj
        (aq (gG f9 ac)))
       aB))))))
   (aj
    (aq (yqv 4 vl))))),?_⟩
 rw [show aM _ [V.ref a,V.ref bx,V.ref td,V.int w,V.int n]=[some (.ref a),some (.ref bx),some (.ref td),some (.int w),some (.int n),none] from rfl];simp_arith [cw,gj];have lx:=hx.length;have nab:a≠bx:=fun z=>by rw [z,hV.hb] at ha;cases ha
 generalize hR:GA.runL w n ⟨ss,b0,tl⟩=R at q;refine ⟨⟨_,SqL.of ha⟩,?_⟩;refine cY (xs:=xs) (fun i σ H'=>SameB bx td H H'/\∃(m:Nat)(b:Bx)(t:List Int)(o5:Option V),BtV H' bx td ns w b t/\t.length+m<=10000/\R=GA.runL w m ⟨ss.drop i,b,t⟩/\σ=[some (.ref a),some (.ref bx),some (.ref td),some (.int w),some (.int m),o5])
  ⟨SameB.refl,n,b0,tl,_,hV,hln,by rw [AJ,hR],rfl⟩ (fun i σ H' _ h=>SqL.of (h.1 _ _ ha nab nat)) ?_ ?_
 ·rintro i x σ H1 hxi ⟨s1,m,b,tt,o5,hV1,hl1,eR,rfl⟩;obtain ⟨st,f',hs,hsv,hsub⟩:=hx.get hxi;have hi:i<ss.length:=(zq10.mp hs).1;have hse:ss[i]=st:=(zq10.mp hs).2;have hds:=io (zq8 hs);have hsg:=nW hg (zq8 hs);rw [Bh hi,hse] at eR;have ntf':td∉f':=fun z=>ntf (hsub _ z);have hsv1:=D5 hsv s1 hV.hb hV.ht ntf';simp_arith [cw,gj];refine ⟨fun σ H'=>H'=H1/\∃m':Nat,m=m'+1/\σ=[some (.ref a),some (.ref bx),some (.ref td),some (.int w),some (.int m),some x],?_,?_⟩
  ·refine aH (fun e0=>?_) (fun e0=>⟨rfl,m-1,by omega,rfl⟩);have em:m=0:=by omega
   subst em;rw [GA.eF] at eR;rw [eR] at q;exact q H1 s1 hV1
  rintro σ H2 ⟨rfl,m',rfl,rfl⟩;rw [GA.cO] at eR;simp_arith [cw,gj];rw [show ((m'+1:Nat):Int)-1=(m':Int) by omega];refine ⟨fun σ H'=>∃(L:Int)(b':Bx)(t':List Int),SameB bx td H2 H'/\BtV H' bx td ns w b' t'/\((∃k:Nat,L=k/\t'.length+k<=10000/\R=GA.runL w k ⟨ss.drop (i+1),b',t'⟩)\/(L<0/\R.1=-1/\R.2.bx=b'/\R.2.told=t'))/\σ=[some (.ref a),some (.ref bx),some (.ref td),some (.int w),some (.int L),some x],?_,?_⟩
  ·cases hsv1 with
   | @deed q0 dd hf hq=>
    simp_arith [cw,gj];refine nJ hf hq (by decide +kernel) (by decide +kernel) (by decide +kernel) ⟨_,rfl,?_⟩;rw [if_neg zq7];refine Bw hf hq (by decide +kernel) (by decide +kernel) (by decide +kernel) ⟨_,rfl,?_⟩;rw [if_pos rfl];have hl:=GA.lQ (w:=w) (d:=dd) (b:=b) (t:=tt);refine ⟨dd,b,ns,tt,hq,hf,hsg,hV1.hb,hV1.gd,hV1.ht,(by omega),w1,w8,fun H3 s3 e1 e2=>?_⟩;exact ⟨m',_,_,s3,⟨e1,e2,hV1.gd.doB hsg w1⟩,.inl ⟨m',rfl,by omega,eR⟩,rfl⟩
   | @ifs q0 a1 c1 nm xs1 ys1 ones others f1 g1 hq ha1 hc1 h1 h2=>
    simp_arith [cw,gj];refine ⟨_,_,hq,rfl,?_⟩;simp_arith [cw,gj];obtain ⟨gn,g1',g2'⟩:nm∈ns/\bO ns w ones/\bO ns w others:=hsg;simp only [Stm.deep] at hds;refine aH (fun _=>⟨_,_,hq,rfl,bx,_,rfl,hV1.get gn,?_⟩) (fun z=>absurd trivial z);simp_arith [cw,gj];have na1:a1≠td:=fun z=>ntf' (by rw [<- z];simp);have nc1:c1≠td:=fun z=>ntf' (by rw [<- z];simp);have nf1:td∉f1:=fun z=>ntf' (by simp [z]);have ng1:td∉g1:=fun z=>ntf' (by simp [z]);have key:∀(ad:Addr)(xs':List V)(l:List Stm)(fl:List Addr),H2 ad=some (.lst xs')->StmsV K H2 xs' l fl->ad≠td->td∉fl->bY l<d->bO ns w l->(if aI b nm≠0 then ones else others)=l->lM K d ad bx td w m' H2 fun x H1=>∃(L:Int)(b':Bx)(t':List Int),SameB bx td H2 H1/\BtV H1 bx td ns w b' t'/\((∃k:Nat,L=k/\t'.length+k<=10000/\R=GA.runL w k ⟨ss.drop (i+1),b',t'⟩)\/(L<0/\R.1=-1/\R.2.bx=b'/\R.2.told=t'))/\[some (V.ref a),some (V.ref bx),some (V.ref td),some (V.int w),some x,some (V.ref q0)]=[some (V.ref a),some (V.ref bx),some (V.ref td),some (V.int w),some (V.int L),some (V.ref q0)]:=by
     intro ad xs' l fl k1 k2 k3 k4 k5 k6 k7;have eR':R=GA.runL w m' ⟨l++ss.drop (i+1),b,tt⟩:=by rw [<- k7];exact eR
     have hG:=GA.GSt.runL w1 (n:=m') (s:=⟨l,b,tt⟩) ⟨hV1.gd,k6⟩;have hle:=GA.ml (w:=w) (n:=m') (s:=⟨l,b,tt⟩);refine ⟨xs',l,fl,b,ns,tt,m',rfl,k1,k2,k3,k4,k5,k6,hV1,(by omega),w1,w8,fun H3 s3 hV3=>⟨_,_,_,s3,hV3,?_,rfl⟩⟩;have happ:=GA.jL (w:=w) (r:=ss.drop (i+1)) (n:=m') (l:=l) (b:=b) (t:=tt);have hlt:∀k:Nat,(GA.runL w m' ⟨l,b,tt⟩).1=k->(GA.runL w m' ⟨l,b,tt⟩).2.told.length+k<=tt.length+m':=fun k hk=>GA.iA hk;rcases happ with ⟨k,h3,h4⟩ | ⟨h3,h4⟩
     ·exact .inl ⟨k,h3,by have:=hlt k h3;omega,by rw [eR',h4]⟩
     ·rw [h4] at eR';rw [eR',h3];exact .inr ⟨by decide,rfl,rfl,rfl⟩
    by_cases e0:aI b nm=0
    ·rw [if_pos (by simpa using e0)];refine ⟨_,_,hq,rfl,?_⟩;rw [cw];exact key c1 ys1 others g1 hc1 h2 nc1 ng1 (by omega) g2' (by rw [if_neg (by simpa using e0)])
    ·rw [if_neg (by simpa using e0)];refine ⟨_,_,hq,rfl,?_⟩;rw [cw];exact key a1 xs1 ones f1 ha1 h1 na1 nf1 (by omega) g1' (by rw [if_pos e0])
   | @whl q0 a1 nm xs1 rows f1 hq ha1 h1=>
    simp_arith [cw,gj];refine ⟨_,_,hq,rfl,?_⟩;simp_arith [cw,gj];refine aH (fun z=>absurd z (by decide +kernel)) (fun _=>⟨_,_,hq,rfl,?_⟩);simp_arith [cw,gj];rw [if_neg (by decide)];obtain ⟨gn,g1'⟩:nm∈ns/\bO ns w rows:=hsg;simp only [Stm.deep] at hds;have na1:a1≠td:=fun z=>ntf' (by rw [<- z];simp);have nb1:a1≠bx:=fun z=>by rw [z,hV1.hb] at ha1;cases ha1
    have nf1:td∉f1:=fun z=>ntf' (by simp [z]);refine uS (fun σ H'=>∃(L:Int)(b':Bx)(t':List Int),SameB bx td H2 H'/\BtV H' bx td ns w b' t'/\((∃k:Nat,L=k/\t'.length+k<=10000/\R=GA.runL w k ⟨if aI b' nm≠0 then rows++.whl nm rows::ss.drop (i+1) else ss.drop (i+1),b',t'⟩)\/(L<0/\R.1=-1/\R.2.bx=b'/\R.2.told=t'))/\σ=[some (.ref a),some (.ref bx),some (.ref td),some (.int w),some (.int L),some (.ref q0)])
     (fun (σ:L2.St) (_:Hp)=>match σ[4]? with | some (some (V.int L))=>(L+1).toNat | _=>0) ⟨m',b,tt,SameB.refl,hV1,.inl ⟨m',rfl,by omega,eR⟩,rfl⟩ ?_
    rintro σ H3 ⟨L,b',t',s3,hV3,hor,rfl⟩;have hq3:=(SameB.ts s3 hV1.hb hV1.ht).seqT hq;simp_arith [cw];refine ⟨_,_,hq3,rfl,bx,_,rfl,hV3.get gn,?_⟩;simp_arith [cw];have hb0:=hV3.gd.get gn
    by_cases e0:aI b' nm=0
    ·rw [if_neg (by simp [e0])];refine ⟨L,b',t',s3,hV3,?_,rfl⟩;rcases hor with ⟨k,h3,h4,h5⟩ | h3
     ·rw [if_neg (by simpa using e0)] at h5;exact .inl ⟨k,h3,h4,h5⟩
     ·exact .inr h3
    ·rw [if_pos (by simp;omega)];rcases hor with ⟨k,rfl,h4,h5⟩ | h3
     ·rw [if_pos e0] at h5;rw [if_pos (by simp)];refine ⟨fun σ' H'=>∃L':Int,L'<k/\∃(b':Bx)(t':List Int),SameB bx td H2 H'/\BtV H' bx td ns w b' t'/\((∃k:Nat,L'=k/\t'.length+k<=10000/\R=GA.runL w k ⟨if aI b' nm≠0 then rows++.whl nm rows::ss.drop (i+1) else ss.drop (i+1),b',t'⟩)\/(L'<0/\R.1=-1/\R.2.bx=b'/\R.2.told=t'))/\σ'=[some (.ref a),some (.ref bx),some (.ref td),some (.int w),some (.int L'),some (.ref q0)],?_,?_⟩
      ·rintro σ' H' ⟨L',hL,b2,t2,k1,k2,k3,rfl⟩;refine ⟨_,?_,rfl,L',b2,t2,k1,k2,k3,rfl⟩;show (L'+1).toNat<((k:Int)+1).toNat;omega
      ·refine ⟨_,_,hq3,rfl,?_⟩;rw [cw];refine ⟨xs1,rows,f1,b',ns,t',k,rfl,s3 _ _ ha1 nb1 na1,An h1 s3 hV1.hb hV1.ht nf1,na1,nf1,(by omega),g1',hV3,(by omega),w1,w8,fun H4 s4 hV4=>?_⟩;simp_arith [];have happ:=GA.jL (w:=w) (r:=.whl nm rows::ss.drop (i+1)) (n:=k) (l:=rows) (b:=b') (t:=t');have hle:=GA.ml (w:=w) (n:=k) (s:=⟨rows,b',t'⟩);have hlt:∀j:Nat,(GA.runL w k ⟨rows,b',t'⟩).1=j->(GA.runL w k ⟨rows,b',t'⟩).2.told.length+j<=t'.length+k:=fun j hj=>GA.iA hj;refine ⟨_,by omega,_,_,s3.trans s4,hV4,?_,rfl⟩;rcases happ with ⟨j,h6,h7⟩ | ⟨h6,h7⟩
       ·have hj:=hlt j h6;rw [h7] at h5;rw [h6]
        cases j with
        |zero=>
         rw [GA.eF] at h5;rw [h5];exact .inr ⟨by decide,rfl,rfl,rfl⟩
        |succ j=>rw [GA.cO] at h5;exact .inl ⟨j,by omega,by omega,h5⟩
       ·rw [h7] at h5;rw [h5,h6];exact .inr ⟨by decide,rfl,rfl,rfl⟩
     ·rw [if_neg (by simpa using h3.1)];exact ⟨L,b',t',s3,hV3,.inr h3,rfl⟩
  rintro σ H3 ⟨L,b',t',s3,hV3,hor,rfl⟩;simp_arith [];have s03:=s1.trans s3;rcases hor with ⟨k,rfl,hk,e3⟩ | ⟨h1,h2,h3,h4⟩
  ·rw [if_neg (by simp)];exact ⟨s03,k,b',t',_,hV3,hk,e3,rfl⟩
  ·rw [if_pos (by simpa using h1)];rw [<- h3,<- h4] at hV3;rw [h2] at q;exact q H3 s03 hV3
 ·rintro σ H1 ⟨s1,m,b,tt,o5,hV1,hl1,eR,rfl⟩;rw [lx,yY,GA.eE] at eR;simp_arith [];rw [eR] at q;exact q H1 s1 hV1
theorem rY(T:Txt K mg t):∀d,FnOk P w K mg base CX0 (d+3) t.f_40 t.e_40 ["_law_rows","_law_boxes","_law_said","_law_width","_law_left"] (jc K d)
 |0=>⟨fun vs H Q E h=>by obtain ⟨_,_,_,_,_,_,_,_,_,_,_,_,_,_,_,_,_,_,h,_⟩:=h;omega,fun _ _ _ _ _ _ _ _ _ _ _ _ _ h=>by obtain ⟨_,_,_,_,_,_,_,_,_,_,_,_,_,_,_,_,_,_,h,_⟩:=h;omega⟩
 |d+1=>ul T d (rY T d)
variable {H:Hp} {c:Addr} {ws:Bx}
structure WdsV(H:Hp)(c:Addr)(ws:Bx)(ins:List Str)(w:Int):Prop where
 hd:H c=some (.dK ws)
 isI:IntD ws
 has:∀n∈ins,∃x,ib ws n=some x/\0<=x/\x<2 ^ w.toNat
 no:∀n,n∉ins->ib ws n=none
theorem WdsV.same{H':Hp}{ins:List Str}{w:Int}(h:WdsV H c ws ins w)(s:Same H H'):WdsV H' c ws ins w:=⟨s _ _ h.hd,h.isI,h.has,h.no⟩
theorem WdsV.get{ins:List Str}{w:Int}(h:WdsV H c ws ins w):∀n∈ins,0<=aI ws n/\aI ws n<2 ^ w.toNat:=fun n hn=>by obtain ⟨x,e,h0,h1⟩:=h.has n hn;unfold aI;rw [e];exact ⟨h0,h1⟩
theorem WdsV.first{ins:List Str}{w:Int}(h:WdsV H c ws ins w){ns:List Str}(hl:ns.length<=1000):BxG ns w (aY ins ws ns):=by obtain ⟨h1,h2,h3⟩:=kJ h.get _ ns rfl;exact ⟨h1,by omega,h3⟩
theorem IntD.getD{kvs:List (Key×V)}(h:IntD kvs){n:Str}:(bA kvs (.inr n)).getD (.int 0)=.int (aI kvs n):=by
 unfold aI ib
 cases e:bA kvs (.inr n) with
 |none=>rfl
 |some v=>have e':=e;unfold bA at e';obtain ⟨kv,h1,rfl⟩:=zq35.mp e';obtain ⟨i,hi⟩:=h.nums kv (yx h1);rw [hi];rfl
noncomputable def mR(K:W.Frag)(q c:Addr)(H:Hp)(Q:VK):Prop:=∃(wd:Int)(ins oth:List Str)(pr:Addr)(ws:Bx),DrN K H q wd ins oth pr/\WdsV H c ws ins wd/\
 ∀l H',Same H H'->H l=none->H' l=some (.dK (aY ins ws (ins++oth)))->Q (.ref l) H'
noncomputable def oO(K:W.Frag):Sp:=fun vs H Q _=>∃q c:Addr,vs=[.ref q,.ref c]/\mR K q c H Q
theorem sr{q:Addr}{Q:VK}{E:XK}:oO K [.ref q,.ref c] H Q E=mR K q c H Q:=propext ⟨by rintro ⟨_,_,e,q⟩;cases e;exact q,fun q=>⟨_,_,rfl,q⟩⟩
theorem oq(T:Txt K mg t):FnOk P w K mg base CX0 1 t.f_41 t.e_41 ["_law_drawn_here","_law_words_here"] (oO K):=by
 refine T.d_41.F.ok sc_41 ∅ ?_;rintro cdv A outer s H vs Q E hr ⟨p,c,rfl,wd,ins,oth,pr,ws,hD,hW,q⟩;have hu:=fh hr;refine ⟨_,
   (XSs.h
   (ai
    (ax (i:=2) sc_41.nd rfl ll lE)
   (ai
    (bF PassesOwn.never rfl (aZ (am gE (ak au (yqv 0 vl) ac) (ak au (yqv 0 vl) ac))) (aC (i:=3) sc_41.nd rfl ll)
     (aj
      (eK hu (yqv 2 vl) (yqv 3 vl) (uV hu (yqv 1 vl) (yqv 3 vl) ac ⟨rfl,rfl,rfl,rfl⟩) rfl)))
   (aj
    (aq (yqv 2 vl)))))),?_⟩
 rw [show aM _ [V.ref p,V.ref c]=[some (.ref p),some (.ref c),none,none] from rfl];simp_arith [];intro l hl0;have s1:Same H (upd H l (.dK [])):=Same.upd hl0;obtain ⟨pi,po,hq,hi,ho⟩:=hD.ex;have hfew:=hD.few;rw [zq3] at hfew;refine ⟨_,_,s1.seqT hq,rfl,_,_,s1.seqT hq,rfl,pi,po,_,_,rfl,rfl,s1 _ _ hi,s1 _ _ ho,by rw [zq1,zq1,sizeLine_eq];omega,fun pn hpn=>?_⟩;have t1:=Same.upd (o:=.lst (ins.map V.str++oth.map V.str)) hpn;have en:upd (upd H l (.dK [])) pn (.lst (ins.map V.str++oth.map V.str)) pn=some (.lst ((ins++oth).map V.str)):=by rw [af,cD]
 have el:upd (upd H l (.dK [])) pn (.lst (ins.map V.str++oth.map V.str)) l=some (.dK []):=t1 _ _ af;have npl:pn≠l:=fun z=>by rw [z,af] at hpn;cases hpn
 generalize upd (upd H l (.dK [])) pn _=H1 at t1 en el ⊢;have s01:=s1.trans t1;refine ⟨pn,rfl,⟨_,SqL.of en⟩,?_⟩;refine cY (xs:=(ins++oth).map V.str) (fun i σ H'=>Same H H'/\H' pn=some (.lst ((ins++oth).map V.str))/\H' l=some (.dK (aY ins ws ((ins++oth).take i)))/\∃o,σ=[some (.ref p),some (.ref c),some (.ref l),o])
  ⟨s01,en,el,_,rfl⟩ (fun i σ H' _ h=>SqL.of h.2.1) ?_ ?_
 ·rintro i x σ H' hx ⟨sm,en',hd,o,rfl⟩;rw [bM] at hx;obtain ⟨n,hn,rfl⟩:=zq35.mp hx;obtain ⟨hi,hne⟩:=zq10.mp hn;simp_arith [];have en:aY ins ws ((ins++oth).take (i+1))=cv (aY ins ws ((ins++oth).take i)) (.inr n) (.int (if n∈ins then aI ws n else 0)):=by rw [dG hi,hne,fq]
  have eb:(if n∈ins then aI ws n else 0)=aI ws n:=by
   split
   ·rfl
   ·next h=>unfold aI;rw [hW.no n h];rfl
  rw [eb] at en;have lb:(aY ins ws ((ins++oth).take i)).length<sizeLine:=by have:=(kJ hW.get _ ((ins++oth).take i) rfl).2.1;rw [d9,zq3] at this;rw [sizeLine_eq];omega
  have hW2:Rd H' c (.dK ws):=.inl (sm _ _ hW.hd);refine ⟨.inl ⟨ws,hW2⟩,_,.inl ⟨ws,.inr n,hW2,rfl,rfl⟩,?_⟩;rw [IntD.getD hW.isI];refine ⟨_,DPut.k (k:=.inr n) hd lb,sm.updM hl0,by rw [av npl];exact en',?_,_,rfl⟩;rw [af,en]
 ·rintro σ H' ⟨sm,_,hd,o,rfl⟩;rw [zq1,dZ] at hd;simp_arith [];exact q l H' sm hl0 hd
noncomputable def ky(K:W.Frag)(pi:Addr)(n w:Int)(H:Hp)(Q:VK):Prop:=∃(ins:List Str),H pi=some (.lst (ins.map V.str))/\ins.length<=8/\Builtin.Int.intBits n<=2 ^ 20/\1<=w/\w<=8/\
 ∀c ws H',Same H H'->H c=none->WdsV H' c ws ins w->Q (.ref c) H'
noncomputable def kY(K:W.Frag):Sp:=fun vs H Q _=>∃(pi:Addr)(n w:Int),vs=[.ref pi,.int n,.int w]/\ky K pi n w H Q
theorem xk{pi:Addr}{n w:Int}{H:Hp}{Q:VK}{E:XK}:kY K [.ref pi,.int n,.int w] H Q E=ky K pi n w H Q:=propext ⟨by rintro ⟨_,_,_,e,q⟩;cases e;exact q,fun q=>⟨_,_,_,rfl,q⟩⟩
theorem uu(T:Txt K mg t):FnOk P w K mg base CX0 2 t.f_36 t.e_36 ["_law_ins","_law_number","_law_width"] (kY K):=by
 have G_29:=@gZ P w K mg base t T;refine T.d_36.F.ok sc_36 ∅ ?_;rintro cdv A outer s H vs Q E hr ⟨pi,nb,wd,rfl,ins,hi,hl,hb,w1,w8,q⟩;have hu:=fh hr;refine ⟨_,
   (XSs.h
   (ai
    (ax (i:=3) sc_36.nd rfl ll lE)
   (ai
    (bF PassesOwn.never rfl (bV gl T.z_range (aa (aw ay gl T.z_len PySem.boot_len (aa (yqv 0 vl) ae)) ae)) (aC (i:=4) sc_36.nd rfl ll)
     (ai
      (ax (i:=5) sc_36.nd rfl ll (ap T.d_29 G_29 hr.m (aa (yqv 1 vl) (aa (yqv 4 vl) ae)) gl))
     (aj
      (eK hu (yqv 3 vl) (ak aS (yqv 0 vl) (yqv 4 vl)) (am aK (ak aS (aQ (aa (am aU (yqv 5 vl) ac) (aa ac (aa ac (aa (gG f9 ac) ae))))) (am aK (am aK (yqv 5 vl) ac) ac)) (am f7 ac (yqv 2 vl))) rfl))))
   (aj
    (aq (yqv 3 vl)))))),?_⟩
 rw [show aM _ [V.ref pi,V.int nb,V.int wd]=[some (.ref pi),some (.int nb),some (.int wd),none,none,none] from rfl];simp_arith [du];intro pw hpw;have hp2:(0:Int)<1 * 2 ^ wd.toNat:=by rw [qT];exact qU (by decide)
 have t1:=Same.upd (o:=.dK []) hpw;refine ⟨_,.inl (SqL.of (t1 _ _ hi)),by rw [zq1];omega,by rw [zq1];omega,?_⟩;rw [dF,zq1];refine fN (n:=ins.length) (fun i σ H'=>Same H H'/\(∃ws:Bx,H' pw=some (.dK ws)/\ws.length<=i/\IntD ws/\(∀n∈ins.take i,∃x,ib ws n=some x/\0<=x/\x<2 ^ wd.toNat)/\∀n,n∉ins.take i->ib ws n=none)/\∃o4 o5,σ=[some (.ref pi),some (.int nb),some (.int wd),some (.ref pw),o4,o5])
  ⟨t1,⟨[],af,zq0 _,IntD.nil,fun n hn=>by simp at hn,fun n _=>rfl⟩,_,_,rfl⟩ ?_ ?_
 ·rintro i σ H' hil ⟨sm,⟨ws,hws,lws,hI,hin,hout⟩,o4,o5,rfl⟩;obtain ⟨n,hn⟩:∃n,ins[i]?=some n:=⟨_,zq4 hil⟩
  have hne:=(zq10.mp hn).2;simp_arith [du];refine ⟨hb,by omega,by omega,?_⟩;generalize gi nb i=mx;refine ⟨CDivB.small (by decide) (by decide),fun p1 hp1=>?_⟩;have sq:=Same.upd (o:=.lst [V.int (mx / 8),V.int 0,V.int 1,V.int (-1)]) hp1;obtain ⟨y,hy⟩:∃y:Int,atI [V.int (mx / 8),V.int 0,V.int 1,V.int (-1)] (mx % 8 % 4)=some (.int y):=by
   have h4:mx % 8 % 4=0\/mx % 8 % 4=1\/mx % 8 % 4=2\/mx % 8 % 4=3:=by omega
   rcases h4 with h | h | h | h<;>rw [h]<;>exact ⟨_,rfl⟩
  refine ⟨_,_,SqL.of af,hy,⟨by omega,by omega,by decide⟩,?_⟩;refine ⟨hp2,_,_,SqL.of (sq _ _ (sm _ _ hi)),ba (by rw [bM,hn];rfl),_,DPut.k (k:=.inr n) (sq _ _ hws) (by rw [sizeLine_eq];omega),(sm.trans sq).updM hpw,⟨_,af,?_,hI.put _ _,fun n' hn'=>?_,fun n' hn'=>?_⟩,_,_,rfl⟩
  ·exact cL (dN ws (.inr n) (.int (y % (1 * 2 ^ wd.toNat)))) (by omega)
  ·rw [fH]
   by_cases e:n'=n
   ·rw [if_pos e];refine ⟨_,rfl,fc _ (by omega),?_⟩;have:=iK y hp2;rw [qT] at this ⊢;exact this
   ·rw [if_neg e];refine hin n' ?_;rw [dG hil,hne] at hn';rcases zq16.mp hn' with z | z
    ·exact z
    ·exact absurd (zq2.mp z) e
  ·rw [dG hil,hne] at hn';rw [fH,if_neg (fun z=>hn' (by rw [z];simp))];exact hout n' (fun z=>hn' (kl _ z))
 ·rintro σ H' ⟨sm,⟨ws,hws,lws,hI,hin,hout⟩,o4,o5,rfl⟩;rw [dZ] at hin hout;simp_arith [];exact q pw ws H' sm hpw ⟨hws,hI,hin,hout⟩
variable {H:Hp} {q:Addr}
theorem DrV.same{K:W.Frag}{H' H2:Hp}{wd:Int}{ins oth:List Str}{ss:List Stm}{pi po pr:Addr}{xs:List V}{g:List Addr}{many:Nat}(h:DrV K H H' q wd ins oth ss pi po pr xs g many)(s:Same H' H2):DrV K H H2 q wd ins oth ss pi po pr xs g many:=
 ⟨s _ _ h.tup,s _ _ h.ia,s _ _ h.oa,s _ _ h.ra,h.st.same s,h.gd,h.dp,h.mn,h.w1,h.w8,h.pos,h.few,h.fr,h.nf⟩
theorem DrV.n{K:W.Frag}{H':Hp}{wd:Int}{ins oth:List Str}{ss:List Stm}{pi po pr:Addr}{xs:List V}{g:List Addr}{many:Nat}(h:DrV K H H' q wd ins oth ss pi po pr xs g many):DrN K H' q wd ins oth pr:=⟨⟨pi,po,SqT.of h.tup,h.ia,h.oa⟩,h.few,h.w1,h.w8⟩
theorem SameB.out{H1 H2:Hp}{bx td:Addr}(s:Same H H1)(sb:SameB bx td H1 H2)(hb:H bx=none)(ht:H td=none):Same H H2:=fun c o e=>sb c o (s _ _ e) (ao e hb) (ao e ht)
noncomputable def rm(K:W.Frag)(q c:Addr)(m:Int)(H:Hp)(Q:VK):Prop:=∃(H0:Hp)(wd:Int)(ins oth:List Str)(ss:List Stm)(pi po pr:Addr)(xs:List V)(g:List Addr)(many:Nat)(ws:Bx)(n:Nat),m=n/\n<=3000/\DrV K H0 H q wd ins oth ss pi po pr xs g many/\WdsV H c ws ins wd/\
 ∀p td bx H',Same H H'->H' p=some (.tup [.ref td,.ref bx,.int (GA.runL wd n ⟨ss,aY ins ws (ins++oth),[]⟩).1])->BtV H' bx td (ins++oth) wd (GA.runL wd n ⟨ss,aY ins ws (ins++oth),[]⟩).2.bx (GA.runL wd n ⟨ss,aY ins ws (ins++oth),[]⟩).2.told->Q (.ref p) H'
noncomputable def sN(K:W.Frag):Sp:=fun vs H Q _=>∃(q c:Addr)(m:Int),vs=[.ref q,.ref c,.int m]/\rm K q c m H Q
noncomputable def we(b:Bx)(e:FZ.Ed):Int:=match GA.nxt b e with
 |none=>-1
 |some j=>(j:Int)
noncomputable def n6(K:W.Frag)(e bx:Addr)(H:Hp)(Q:VK):Prop:=∃(ed:FZ.Ed)(b:Bx)(ns:List Str)(w:Int),SqT K H e (dk ed)/\H bx=some (.dK b)/\BxG ns w b/\(∀n i j,ed=.choose n i j->n∈ns)/\Q (.int (we b ed)) H
noncomputable def oY(K:W.Frag):Sp:=fun vs H Q _=>∃e bx:Addr,vs=[.ref e,.ref bx]/\n6 K e bx H Q
theorem xi{c:Addr}{m:Int}{Q:VK}{E:XK}:sN K [.ref q,.ref c,.int m] H Q E=rm K q c m H Q:=propext ⟨by rintro ⟨_,_,_,e,q⟩;cases e;exact q,fun q=>⟨_,_,_,rfl,q⟩⟩
theorem j9{e bx:Addr}{Q:VK}{E:XK}:oY K [.ref e,.ref bx] H Q E=n6 K e bx H Q:=propext ⟨by rintro ⟨_,_,e,q⟩;cases e;exact q,fun q=>⟨_,_,rfl,q⟩⟩
theorem zE(T:Txt K mg t):FnOk P w K mg base CX0 8 t.f_42 t.e_42 ["_law_drawn_here","_law_words_here","_law_most"] (sN K):=by
 have G_41:=@oq P w K mg base t T;have G_40:=@rY P w K mg base t T 4;refine T.d_42.F.ok sc_42 ∅ ?_;rintro cdv A outer s H vs Q E hr ⟨p,c,m,rfl,H0,wd,ins,oth,ss,pi,po,pr,xs,g,many,ws,n,rfl,hn,hD,hW,q⟩;refine ⟨_,
   (XSs.h
   (ai
    (ax (i:=3) sc_42.nd rfl ll (ap T.d_41 G_41 hr.m (aa (yqv 0 vl) (aa (yqv 1 vl) ae)) gl))
   (ai
    (ax (i:=4) sc_42.nd rfl ll (aQ ae))
   (ai
    (ax (i:=5) sc_42.nd rfl ll (ap T.d_40 G_40 hr.m (aa (ak au (yqv 0 vl) ac) (aa (yqv 3 vl) (aa (yqv 4 vl) (aa (ak au (yqv 0 vl) ac) (aa (yqv 2 vl) ae))))) gl))
   (aj
    (aq (aN (aa (yqv 4 vl) (aa (yqv 3 vl) (aa (yqv 5 vl) ae)))))))))),?_⟩
 rw [show aM _ [V.ref p,V.ref c,V.int n]=[some (.ref p),some (.ref c),some (.int n),none,none,none] from rfl];simp_arith [sr,cw];refine ⟨wd,ins,oth,pr,ws,hD.n,hW,fun bx H1 s1 hbx0 hbx td htd=>?_⟩;have t1:=Same.upd (o:=.lst []) htd;have s2:=s1.trans t1;have htd0:=s1.free htd;have hfew:=hD.few;have hdp:=hD.dp;refine ⟨_,_,SqT.of (s2 _ _ hD.tup),rfl,_,_,SqT.of (s2 _ _ hD.tup),rfl,?_⟩;rw [cw];refine ⟨xs,ss,g,aY ins ws (ins++oth),ins++oth,[],n,rfl,s2 _ _ hD.ra,hD.st.same s2,ao hD.ra htd0,(fun z=>?_),(by omega),hD.gd,⟨t1 _ _ hbx,af,hW.first (by omega)⟩,(by simp;omega),hD.w1,hD.w8,fun H3 s3 hV3=>?_⟩
 ·obtain ⟨zs,hz⟩:=hD.st.tracked td z;rw [htd0] at hz;cases hz
 intro pt hpt;have t3:=Same.upd (o:=.tup [V.ref td,V.ref bx,V.int (GA.runL wd n ⟨ss,aY ins ws (ins++oth),[]⟩).1]) hpt;exact q pt td bx _ ((SameB.out s2 s3 hbx0 htd0).trans t3) af ⟨t3 _ _ hV3.hb,t3 _ _ hV3.ht,hV3.gd⟩
theorem wz(T:Txt K mg t):FnOk P w K mg base CX0 1 t.f_47 t.e_47 ["_law_ending","_law_boxes"] (oY K):=by
 refine T.d_47.F.ok Fv ∅ ?_;rintro cdv A outer s H vs Q E hr ⟨e,bx,rfl,ed,b,ns,w,hq,hb,hG,hn,q⟩;have hu:=fh hr;refine ⟨_,
   (XSs.h
   (ai
    (aF (ar aT (ak au (yqv 0 vl) ac) aE (aA _))
     (aj
      (aq (ak au (yqv 0 vl) ac)))
     aB)
   (ai
    (aF (ar aT (ak au (yqv 0 vl) ac) aE (aA _))
     (aj
      (aq (ak au (yqv 0 vl) (am b7 ac (bw cV gl T.z_int boot_int (aa (aR aT (fI hu (yqv 1 vl) (ak au (yqv 0 vl) ac) (fun _ _=>rfl)) ac (aA _)) ae))))))
     aB)
   (aj
    (aq (gG f9 ac)))))),?_⟩
 rw [show aM _ [V.ref e,V.ref bx]=[some (.ref e),some (.ref bx)] from rfl];simp_arith []
 cases ed with
 |stop=>
  refine ⟨_,_,hq,rfl,?_⟩;simp_arith [];refine aH (fun z=>absurd z (by decide +kernel)) (fun _=>⟨_,_,hq,rfl,rfl,_,rfl,?_⟩);refine aH (fun z=>absurd z (by decide +kernel)) (fun _=>q)
 |go i=>
  refine ⟨_,_,hq,rfl,?_⟩;simp_arith [];exact aH (fun _=>⟨_,_,hq,rfl,q⟩) (fun z=>absurd trivial z)
 |choose n i j=>
  refine ⟨_,_,hq,rfl,?_⟩;simp_arith [];refine aH (fun z=>absurd z (by decide +kernel)) (fun _=>⟨_,_,hq,rfl,rfl,_,rfl,?_⟩);refine aH (fun _=>⟨_,_,hq,rfl,bx,_,rfl,.inl ⟨b,.inr n,.inl hb,rfl,(hG.val (hn n i j rfl)).symm⟩,rfl,.inr ⟨_,rfl,?_⟩⟩) (fun z=>absurd rfl z);have e:we b (.choose n i j)=if aI b n=0 then (j:Int) else i:=by
   unfold we GA.nxt;dsimp only
   by_cases h:aI b n=0
   ·rw [if_pos h,if_neg (fun z=>z h)]
   ·rw [if_neg h,if_pos h]
  rw [e] at q
  by_cases h:aI b n=0
  ·rw [if_pos h] at q;exact ⟨_,.int j,hq,by rw [decide_eq_true (by rw [h])];rfl,q⟩
  ·rw [if_neg h] at q;exact ⟨_,.int i,hq,by rw [decide_eq_false (fun z=>h (V.int.inj z))];rfl,q⟩
variable {H:Hp}
noncomputable def StV(K:W.Frag)(H:Hp)(x:V)(b:FZ.Blk):Prop:=∃q a e vs,x=.ref q/\SqT K H q [.ref a,.ref e]/\H a=some (.lst vs)/\Paired (DeedV1 K H) vs b.ds/\SqT K H e (dk b.ed)
theorem StV.same{K:W.Frag}{H':Hp}{x:V}{b:FZ.Blk}(h:StV K H x b)(s:Same H H'):StV K H' x b:=by obtain ⟨q,a,e,vs,ex,h1,h2,h3,h4⟩:=h;exact ⟨q,a,e,vs,ex,s.seqT h1,s _ _ h2,FL.Paired.imp h3 fun y _ d _ ⟨q,e,z,f⟩=>⟨q,e,s.seqT z,f⟩,s.seqT h4⟩
noncomputable def TabV(K:W.Frag)(H:Hp)(tb:Addr)(F:List FZ.Blk):Prop:=∃xs,H tb=some (.lst xs)/\Paired (StV K H) xs F
theorem TabV.same{K:W.Frag}{H':Hp}{tb:Addr}{F:List FZ.Blk}(h:TabV K H tb F)(s:Same H H'):TabV K H' tb F:=by obtain ⟨xs,h1,h2⟩:=h;exact ⟨xs,s _ _ h1,FL.Paired.imp h2 fun y _ d _ z=>z.same s⟩
theorem TabV.at{K:W.Frag}{tb:Addr}{F:List FZ.Blk}(h:TabV K H tb F){i:Nat}{b:FZ.Blk}(hb:F[i]?=some b):∃xs x,H tb=some (.lst xs)/\xs[i]?=some x/\StV K H x b:=by obtain ⟨xs,h1,h2⟩:=h;obtain ⟨x,hx,hv⟩:=Paired.getR h2 hb;exact ⟨xs,x,h1,hx,hv⟩
structure StG(ns:List Str)(wd:Int)(b:FZ.Blk):Prop where
 gd:∀d∈b.ds,Deed.good ns wd d
 nm:∀n i j,b.ed=.choose n i j->n∈ns
 len:b.ds.length<=60
structure Do(ns:List Str)(wd:Int)(F:List FZ.Blk):Prop where
 st:∀b∈F,StG ns wd b
 tg:∀b∈F,∀j∈b.ed.tg,j<F.length
 pos:0<F.length
theorem Dx{b:Bx}{e:FZ.Ed}{j:Nat}(h:GA.nxt b e=some j):j∈e.tg:=by
 cases e with
 |stop=>cases h
 |go i=>cases h;exact zq2.mpr rfl
 |choose n x y=>
  unfold GA.nxt at h
  cases h
  show (if aI b n≠0 then x else y)∈[x,y]
  split<;>simp
noncomputable def rj(K:W.Frag)(q:Addr)(bf bx td:Addr)(w:Int)(H:Hp)(Q:VK):Prop:=∃(d:Deed)(b0 b:Bx)(ns:List Str)(tl:List Int),SqT K H q d.vs/\d.fine/\Deed.good ns w d/\H bf=some (.dK b0)/\BxG ns w b0/\H bx=some (.dK b)/\BxG ns w b/\H td=some (.lst (tl.map V.int))/\tl.length<=200000/\1<=w/\w<=8/\
 ∀H',SameB bx td H H'->H' bx=some (.dK (GO.atB w d b0 b))->H' td=some (.lst ((doT w d b0 tl).map V.int))->Q .non H'
noncomputable def sM(K:W.Frag):Sp:=fun vs H Q _=>∃(q bf bx td:Addr)(w:Int),vs=[.ref q,.ref bf,.ref bx,.ref td,.int w]/\rj K q bf bx td w H Q
theorem mi{q bf bx td:Addr}{w:Int}{H:Hp}{Q:VK}{E:XK}:sM K [.ref q,.ref bf,.ref bx,.ref td,.int w] H Q E=rj K q bf bx td w H Q:=propext ⟨by rintro ⟨_,_,_,_,_,e,q⟩;cases e;exact q,fun q=>⟨_,_,_,_,_,rfl,q⟩⟩
theorem zD(T:Txt K mg t):FnOk P w K mg base CX0 2 t.f_39 t.e_39 ["_law_deed_here","_law_before","_law_boxes","_law_said","_law_width"] (sM K):=by
 have G_37:=@ow P w K mg base t T;have G_38:=@ou P w K mg base t T;refine T.d_39.F.ok B1 ∅ ?_;rintro cdv A outer s H vs Q E hr ⟨qd,bf,bx,td,w,rfl,d,b0,b,ns,tl,hq,hf,hd,hB,hG,hBx,hGx,hT,hl,w1,w8,q⟩;have hu:=fh hr;refine ⟨_,
   (XSs.h
   (aj
    (aF (ar aT (ak au (yqv 0 vl) ac) aE (aA _))
     (aj
      (bB (cx PySem.F.plainAttrs_list PySem.F.slot_list_append PySem.F.type_list_append bj (yqv 3 vl) (aa (ap T.d_37 G_37 hr.m (aa (ak au (yqv 0 vl) ac) (aa (yqv 1 vl) ae)) gl) ae))))
     (aj
      (aF (ar aT (ak au (yqv 0 vl) ac) aE (aA _))
       (aj
        (eK hu (yqv 2 vl) (ak au (yqv 0 vl) ac) (ap T.d_37 G_37 hr.m (aa (ak au (yqv 0 vl) ac) (aa (yqv 1 vl) ae)) gl) rfl))
       (aj
        (eK hu (yqv 2 vl) (ak au (yqv 0 vl) ac) (ap T.d_38 G_38 hr.m (aa (ak au (yqv 0 vl) ac) (aa (ap T.d_37 G_37 hr.m (aa (ak au (yqv 0 vl) ac) (aa (yqv 1 vl) ae)) gl) (aa (ap T.d_37 G_37 hr.m (aa (ak au (yqv 0 vl) ac) (aa (yqv 1 vl) ae)) gl) (aa (yqv 4 vl) ae)))) gl) rfl))))))),?_⟩
 rw [show aM _ [V.ref qd,V.ref bf,V.ref bx,V.ref td,V.int w]=[some (.ref qd),some (.ref bf),some (.ref bx),some (.ref td),some (.int w)] from rfl];simp_arith [];have few:=hGx.few;have nbt:bx≠td:=df hBx hT (by intro z;cases z)
 cases d with
 |tell o=>
  refine ⟨_,_,hq,rfl,?_⟩;simp_arith [];refine aH (fun _=>⟨.inl ⟨rfl,_,SqL.of hT⟩,_,_,hq,rfl,?_⟩) (fun e=>absurd trivial e);simp_arith [fB];refine ⟨b0,ns,w,hB,hG,hd,_,hT,by rw [zq1,sizeLine_eq];omega,q _ SameB.upd2 (by rw [av nbt];exact hBx) ?_⟩;show upd H td _ td=some (.lst (List.map V.int (tl++[g7 b0 o])));rw [af,cD];rfl
 |copy n o=>
  refine ⟨_,_,hq,rfl,?_⟩;simp_arith [];refine aH (fun e=>absurd e (by decide +kernel)) (fun _=>⟨_,_,hq,rfl,?_⟩);simp_arith [];refine aH (fun _=>⟨_,_,hq,rfl,?_⟩) (fun e=>absurd trivial e);simp_arith [fB];refine ⟨b0,ns,w,hB,hG,hd.2,?_⟩;exact ⟨_,_,hq,rfl,_,DPut.k (k:=.inr n) hBx (by rw [sizeLine_eq];omega),q _ SameB.upd1 af (by rw [av nbt.symm];exact hT)⟩
 |op f n o o2=>obtain ⟨g1,g2,g3,g4⟩:f∈FB.opsL/\n∈ns/\Opd.good ns w o/\Opd.good ns w o2:=hd;refine ⟨_,_,hq,rfl,?_⟩;simp_arith [];refine aH (fun e=>absurd e (ma g1 (by decide +kernel))) (fun _=>⟨_,_,hq,rfl,?_⟩);simp_arith [];refine aH (fun e=>absurd e (ma g1 (by decide +kernel))) (fun _=>⟨_,_,hq,rfl,_,_,hq,rfl,?_⟩);simp_arith [fB];refine ⟨b0,ns,w,hB,hG,g3,_,_,hq,rfl,?_⟩;simp_arith [fB,sD];refine ⟨b0,ns,w,hB,hG,g4,g1,by omega,w8,fun H1 s1=>⟨_,_,s1.seqT hq,rfl,_,DPut.k (k:=.inr n) (s1 _ _ hBx) (by rw [sizeLine_eq];omega),?_⟩⟩;exact q _ ((SameB.of s1).trans SameB.upd1) af (by rw [av nbt.symm];exact s1 _ _ hT)
noncomputable def vn(K:W.Frag)(tb q c:Addr)(m:Int)(H:Hp)(Q:VK):Prop:=∃(wd:Int)(ins oth:List Str)(pr:Addr)(ws:Bx)(F:List FZ.Blk)(n:Nat),m=n/\n<=2100/\TabV K H tb F/\Do (ins++oth) wd F/\DrN K H q wd ins oth pr/\WdsV H c ws ins wd/\
 ∀p td bx H',Same H H'->H td=none->H bx=none->H' p=some (.tup [.ref td,.ref bx,.bl (GO.cg F wd n 0 (aY ins ws (ins++oth),[])).2])->H' td=some (.lst ((GO.cg F wd n 0 (aY ins ws (ins++oth),[])).1.2.map V.int))->H' bx=some (.dK (GO.cg F wd n 0 (aY ins ws (ins++oth),[])).1.1)->Q (.ref p) H'
noncomputable def xN(K:W.Frag):Sp:=fun vs H Q _=>∃(tb q c:Addr)(m:Int),vs=[.ref tb,.ref q,.ref c,.int m]/\vn K tb q c m H Q
theorem Eg{tb q c:Addr}{m:Int}{H:Hp}{Q:VK}{E:XK}:xN K [.ref tb,.ref q,.ref c,.int m] H Q E=vn K tb q c m H Q:=propext ⟨by rintro ⟨_,_,_,_,e,q⟩;cases e;exact q,fun q=>⟨_,_,_,_,rfl,q⟩⟩
theorem BV(T:Txt K mg t):FnOk P w K mg base CX0 3 t.f_51 t.e_51 ["_law_table","_law_drawn_here","_law_words_here","_law_most"] (xN K):=by
 have G_41:=@oq P w K mg base t T;have G_39:=@zD P w K mg base t T;have G_47:=@wz P w K mg base t T;refine T.d_51.F.ok sc_51 ∅ ?_;rintro cdv A outer s H vs Q E hr ⟨tb,p,c,m,rfl,wd,ins,oth,pr,ws,F,n,rfl,hn,hT,hF,hD,hW,q⟩;have hu:=fh hr;refine ⟨_,
   (XSs.h
   (ai
    (ax (i:=4) sc_51.nd rfl ll (ap T.d_41 G_41 hr.m (aa (yqv 1 vl) (aa (yqv 2 vl) ae)) gl))
   (ai
    (ax (i:=5) sc_51.nd rfl ll (aQ ae))
   (ai
    (ax (i:=6) sc_51.nd rfl ll ac)
   (ai
    (bF PassesOwn.never rfl (bV gl T.z_range (aa (yqv 3 vl) ae)) (aC (i:=7) sc_51.nd rfl ll)
     (ai
      (ax (i:=8) sc_51.nd rfl ll (Ax PySem.F.plainAttrs_dict PySem.F.slot_dict_copy PySem.F.type_dict_copy w5 (yqv 4 vl)))
     (bD
      (bF PassesOwn.never rfl (aZ (ak au (ak aS (yqv 0 vl) (yqv 6 vl)) ac)) (aC (i:=9) sc_51.nd rfl ll)
       (aj
        (bB (ap T.d_39 G_39 hr.m (aa (yqv 9 vl) (aa (yqv 8 vl) (aa (yqv 4 vl) (aa (yqv 5 vl) (aa (ak au (yqv 1 vl) ac) ae))))) gl))))
     (ai
      (ax (i:=6) sc_51.nd rfl ll (ap T.d_47 G_47 hr.m (aa (ak au (ak aS (yqv 0 vl) (yqv 6 vl)) ac) (aa (yqv 8 vl) ae)) gl))
     (aj
      (aF (ar dX (yqv 6 vl) ac (aA _))
       (aj
        (aq (aN (aa (yqv 5 vl) (aa (yqv 4 vl) (aa c6 ae))))))
       aB))))))
   (aj
    (aq (aN (aa (yqv 5 vl) (aa (yqv 4 vl) (aa c6 ae))))))))))),?_⟩
 rw [show aM _ [V.ref tb,V.ref p,V.ref c,V.int n]=[some (.ref tb),some (.ref p),some (.ref c),some (.int n),none,none,none,none,none,none] from rfl];simp_arith [sr,mi,j9];refine ⟨wd,ins,oth,pr,ws,hD,hW,fun bx H1 s1 hbx0 hbx td htd=>?_⟩;have t1:=Same.upd (o:=.lst []) htd;have s2:=s1.trans t1;have htd0:=s1.free htd;have hfew:=hD.few;have w1:=hD.w1;have w8:=hD.w8;obtain ⟨pi,po,hq,_,_⟩:=hD.ex;generalize hR:GO.cg F wd n 0 (aY ins ws (ins++oth),[])=R at q;refine ⟨by omega,by omega,?_⟩;rw [dF];refine fN (n:=n) (fun k σ H'=>Same H H'/\∃(st:GA.BT)(i:Nat)(o7 o8 o9:Option V),H' bx=some (.dK st.1)/\H' td=some (.lst (st.2.map V.int))/\BxG (ins++oth) wd st.1/\st.2.length<=60 * k/\i<F.length/\R=GO.cg F wd (n-k) i st/\σ=[some (.ref tb),some (.ref p),some (.ref c),some (.int n),some (.ref bx),some (.ref td),some (.int i),o7,o8,o9])
  ⟨s2,(aY ins ws (ins++oth),[]),0,_,_,_,t1 _ _ hbx,af,hW.first (by omega),cc _,hF.pos,by rw [v7];exact hR.symm,rfl⟩ ?_ ?_
 ·rintro k σ H2 hk ⟨s2,st,i,o7,o8,o9,hb2,ht2,hG,hl,hi,eR,rfl⟩;obtain ⟨blk,hblk⟩:∃blk,F[i]?=some blk:=⟨_,zq4 hi⟩
  have hmem:=zq8 hblk;have hg:=hF.st blk hmem;obtain ⟨xs,x,hxs,hx,qs,da,ea,vs,rfl,v1,v2,v3,v4⟩:=hT.at hblk;rw [show n-k=n-(k+1)+1 by omega,GO.iE hblk] at eR;have hlen:=GO.ji (w:=wd) (b0:=st.1) (ds:=blk.ds) (s:=st);have h60:=hg.len;simp_arith [mi,j9];refine ⟨.inr (.inr (.inl ⟨rfl,.inl ⟨_,hb2⟩⟩)),_,_,rfl,rfl,.inl hb2,fun bf hbf=>?_⟩;have t3:=Same.upd (o:=.dK st.1) hbf;have nbf:bx≠bf:=ao hb2 hbf;have ntf:td≠bf:=ao ht2 hbf;have hb3:=t3 _ _ hb2;have ht3:=t3 _ _ ht2;have s3:=s2.trans t3;have ef:upd H2 bf (.dK st.1) bf=some (.dK st.1):=af;generalize upd H2 bf (.dK st.1)=H3 at t3 hb3 ht3 s3 ef ⊢;refine ⟨fun σ H'=>Same H H'/\H' bf=some (.dK st.1)/\H' bx=some (.dK (GO.beat wd st.1 blk.ds st).1)/\H' td=some (.lst ((GO.beat wd st.1 blk.ds st).2.map V.int))/\∃o9,σ=[some (.ref tb),some (.ref p),some (.ref c),some (.int n),some (.ref bx),some (.ref td),some (.int i),some (.int k),some (.ref bf),o9],?_,?_⟩
  ·refine ⟨_,_,SqL.of (s3 _ _ hxs),ba hx,?_⟩;simp_arith [];refine ⟨_,_,s3.seqT v1,rfl,_,rfl,⟨_,SqL.of (s3 _ _ v2)⟩,?_⟩;refine cY (xs:=vs) (fun j σ H'=>Same H H'/\H' bf=some (.dK st.1)/\BxG (ins++oth) wd (GO.beat wd st.1 (blk.ds.take j) st).1/\H' bx=some (.dK (GO.beat wd st.1 (blk.ds.take j) st).1)/\H' td=some (.lst ((GO.beat wd st.1 (blk.ds.take j) st).2.map V.int))/\∃o9,σ=[some (.ref tb),some (.ref p),some (.ref c),some (.int n),some (.ref bx),some (.ref td),some (.int i),some (.int k),some (.ref bf),o9])
    ⟨s3,ef,hG,hb3,ht3,_,rfl⟩ (fun j σ H' _ h=>SqL.of (h.1 _ _ v2)) ?_ ?_
   ·rintro j y σ H4 hy ⟨s4,ef4,gb,eb,et,o9,rfl⟩;obtain ⟨d,hd,q0,rfl,hq0,hf⟩:=Paired.get v3 hy;have hgd:=hg.gd d (zq8 hd);have hl4:=GO.ji (w:=wd) (b0:=st.1) (ds:=blk.ds.take j) (s:=st);have lt:(blk.ds.take j).length<=blk.ds.length:=by rw [d9];exact AF ..
    simp_arith [mi];refine ⟨_,_,s4.seqT hq,rfl,?_⟩;rw [mi];refine ⟨d,st.1,_,ins++oth,_,s4.seqT hq0,hf,hgd,ef4,hG,eb,gb,et,(by omega),w1,w8,fun H5 s5 e1 e2=>⟨SameB.out s4 s5 hbx0 htd0,s5 _ _ ef4 nbf.symm ntf.symm,?_,?_,?_,_,rfl⟩⟩
    ·rw [GO.fJ hd];exact GO.BxG.atB hG gb hgd w1
    ·rw [GO.fJ hd];exact e1
    ·rw [GO.fJ hd];exact e2
   ·rintro σ H4 ⟨s4,ef4,gb,eb,et,o9,rfl⟩;rw [v3.length,dZ] at eb et;exact ⟨s4,ef4,eb,et,_,rfl⟩
  rintro σ H4 ⟨s4,ef4,eb,et,o9,rfl⟩;simp_arith [j9];refine ⟨_,_,SqL.of (s4 _ _ hxs),ba hx,?_⟩;simp_arith [];refine ⟨_,_,s4.seqT v1,rfl,?_⟩;rw [j9];refine ⟨blk.ed,st.1,ins++oth,wd,s4.seqT v4,ef4,hG,hg.nm,?_⟩;obtain ⟨hG3,_⟩:=GO.BxG.beat hG w1 hG hg.gd;unfold GO.tR at eR
  cases e:GA.nxt st.1 blk.ed with
  |none=>
   rw [e] at eR;simp_arith [we,e];rw [if_pos (by decide)];intro pt hpt;subst eR;have t4:=Same.upd (o:=.tup [V.ref td,V.ref bx,V.bl true]) hpt;exact q pt td bx _ (s4.trans t4) htd0 hbx0 af (t4 _ _ et) (t4 _ _ eb)
  |some j=>rw [e] at eR;simp_arith [we,e];rw [if_neg (by simp)];exact ⟨s4,_,j,_,_,_,eb,et,hG3,by omega,hF.tg blk hmem j (Dx e),eR,rfl⟩
 ·rintro σ H2 ⟨s2,st,i,o7,o8,o9,hb2,ht2,hG,hl,hi,eR,rfl⟩;rw [mJ] at eR;have eR:R=(st,false):=eR;subst eR;simp_arith [];intro pt hpt;have t4:=Same.upd (o:=.tup [V.ref td,V.ref bx,V.bl false]) hpt;exact q pt td bx _ (s2.trans t4) htd0 hbx0 af (t4 _ _ ht2) (t4 _ _ hb2)
noncomputable def kX:Sp:=fun vs H Q _=>∃c:Int,vs=[.int c]/\Builtin.Int.intBits c<=2 ^ 20/\∀(us:List Int)(p:Addr),us.length=3->(∀x∈us,0<x/\x<=3)->H p=none->Q (.ref p) (upd H p (.tup (us.map V.int)))
theorem y8{ns:List Str}{wd:Int}{us:List Int}{B:List FZ.Blk}{bbs:List (List (List FB.Deed))}(hG:FZ.gI ns wd B.length B)(hB:0<B.length)(hL:Paired (ee us) B bbs)(up:∀s,s<3->0<=uN us s):
  FZ.gI ns wd (i8 B bbs).length (i8 B bbs)/\0<(i8 B bbs).length/\(i8 B bbs).length<=9 * B.length/\∀r∈i8 B bbs,bfB us r.ds=true:=by
 have hl:=hL.length;have hb:∀(i:Nat)b bs,B[i]?=some b->bbs[i]?=some bs->ee us b bs/\b.ds.length<=8:=fun i b bs h1 h2=>by
  obtain ⟨bs',h3,h4⟩:=Paired.get hL h1;rw [h2] at h3
  cases h3
  exact ⟨h4,(hG b (zq8 h1)).len⟩
 have hm:∀bs∈bbs,∃b,ee us b bs/\b.ds.length<=8:=fun bs hbs=>by obtain ⟨i,hi⟩:=zq67.mp hbs;obtain ⟨b,h1,_⟩:=Paired.getR hL hi;exact ⟨b,hb i b bs h1 hi⟩
 have hne:∀bs∈bbs,bs≠[]:=fun bs hbs=>let ⟨b,h1,h2⟩:=hm bs hbs;(cJ up h2 h1).1;have len:(i8 B bbs).length=eY bbs:=by have z:=fG hl hne B.length (zq0 _);rw [fF hl,hl,dZ] at z;exact z
 have nine:=lh fun bs hbs=>let ⟨b,h1,h2⟩:=hm bs hbs;nZ h2 h1;refine ⟨?_,?_,by omega,?_⟩
 ·rw [len,<- fF hl];exact y7 (us:=us) hl hne hG (fun i b bs h1 h2 l hl2=>by obtain ⟨z1,z2⟩:=hb i b bs h1 h2;exact ((cJ up z2 z1).2 l hl2).2) _ (zq0 _)
 ·rw [len];have z:=(fL hne (i:=0) (by omega)).2;omega
 ·rw [<- fF hl];exact sZ (Z:=fun l=>bfB us l=true) hl hne (fun bs hbs l hl2=>by obtain ⟨b,h1,h2⟩:=hm bs hbs;exact ((cJ up h2 h1).2 l hl2).1.bf) _ (zq0 _)
theorem xj{c:Int}{H:Hp}{Q:VK}{E:XK}:kX [.int c] H Q E=(Builtin.Int.intBits c<=2 ^ 20/\∀(us:List Int)(p:Addr),us.length=3->(∀x∈us,0<x/\x<=3)->H p=none->Q (.ref p) (upd H p (.tup (us.map V.int)))):=propext ⟨by rintro ⟨_,e,q⟩;cases e;exact q,fun q=>⟨_,rfl,q⟩⟩
theorem ur(T:Txt K mg t):FnOk P w K mg base CX0 2 t.f_48 t.e_48 ["_law_cell"] kX:=by
 have G_29:=@gZ P w K mg base t T;refine T.d_48.F.ok sc_48 ∅ ?_;rintro cdv A outer s H vs Q E hr ⟨c,rfl,hb,q⟩;refine ⟨_,
   (XSs.h
   (ai
    (ax (i:=1) sc_48.nd rfl ll (ap T.d_29 G_29 hr.m (aa (yqv 0 vl) (aa ac ae)) gl))
   (aj
    (aq (aN (aa (am b7 ac (am aK (yqv 1 vl) ac)) (aa (am b7 ac (am aK (am aU (yqv 1 vl) ac) ac)) (aa (am b7 ac (am aK (am aU (yqv 1 vl) ac) ac)) ae)))))))),?_⟩
 rw [show aM _ [V.int c]=[some (.int c),none] from rfl];simp_arith [du];have h0:=oj c 6;refine ⟨hb,by decide,by decide,CDivB.small (by decide) (by decide),CDivB.small (by decide) (by decide),fun p hp=>?_⟩;refine q [1+gi c 6 % 3,1+gi c 6 / 8 % 3,1+gi c 6 / 64 % 3] p rfl (fun x hx=>?_) hp;simp only [List.mem_cons,List.not_mem_nil,or_false] at hx;rcases hx with rfl | rfl | rfl<;>omega
theorem CG{C p a0 b0 r0:Addr}{d:Nat}{wd:Int}{H:Hp}{Q:VK}{E:XK}:sJ K C d [.ref p,.int wd,.ref a0,.ref b0,.ref r0] H Q E=rg K C d p a0 b0 r0 wd H Q:=propext ⟨by rintro ⟨_,_,_,_,_,e,q⟩;cases e;exact q,fun q=>⟨_,_,_,_,_,rfl,q⟩⟩
theorem ja{H:Hp}{n:Nat}{a b:Addr}{xs:List Int}(ha:SqL K H a (xs.map V.int))(hb:SqL K H b (xs.map V.int)):Rq K H n (.ref a) (.ref b) true:=by
 have z:=Rq.lists (n:=n) (fun _=>true) ha hb rfl fun j x y hx hy=>by
  rw [hx] at hy
  cases hy
  rw [bM] at hx;obtain ⟨i,hi,rfl⟩:=zq35.mp hx;have e:true=eqV (.int i) (.int i):=by simp [eqV]
  rw [e];exact .flat rfl rfl
 rwa [show ((List.range (xs.map V.int).length).all fun _=>true)=true by simp] at z
theorem BR(T:Txt K mg t)(hw:t.pr=w.params):FnOk P w K mg base CX0 41 t.f_52 t.e_52 ["_law_script"] (sp_law K):=by
 have G_35:=@wm P w K mg base t T;have G_28:=@AS P w K mg base t T;have G_9:=@zC P w K mg base t T 4;have G_24:=@wD P w K mg base t T hw 4;have G_48:=@ur P w K mg base t T;have G_46:=@zA P w K mg base t T;have G_50:=@wj P w K mg base t T;have G_36:=@uu P w K mg base t T;have G_42:=@zE P w K mg base t T;have G_51:=@BV P w K mg base t T;refine T.d_52.F.ok sc_52 ∅ ?_;rintro cdv A outer s H vs Q E hr ⟨a,ns,rfl,hS,hlen,hbits,q⟩;have hu:=fh hr;refine ⟨_,
   (XSs.h
   (ai
    (ax (i:=1) sc_52.nd rfl ll (ap T.d_35 G_35 hr.m (aa (yqv 0 vl) (aa ac ae)) gl))
   (ai
    (ax (i:=2) sc_52.nd rfl ll (lF T.c_Program T.d_9 G_9 hr.m (aa (ak au (yqv 1 vl) ac) (aa (ak au (yqv 1 vl) ac) (aa (ak au (yqv 1 vl) ac) (aa (ak au (yqv 1 vl) ac) ae)))) gl))
   (ai
    (ax (i:=3) sc_52.nd rfl lc (ap T.d_48 G_48 hr.m (aa (ap T.d_28 G_28 hr.m (aa (yqv 0 vl) (aa ac ae)) gl) ae) gl))
   (ai
    (ax (i:=4) sc_52.nd rfl ll (ap T.d_24 G_24 hr.m (aa (yqv 2 vl) (aa (yqv 3 vc) ae)) gl))
   (bD
    (aF (bU (cj (bR (bi (ap T.d_46 G_46 hr.m (aa (yqv 4 vl) (aa (yqv 1 vl) ae)) gl))) (cB (ar iI (aw ay gl T.z_len PySem.boot_len (aa (bu (tns:=["_law_part"]) (cns:=["_law_units_here"]) (ci:=[3]) rfl (CompSc.of (by kernel_rfl)) (aZ (yqv 4 vl)) (fun _=>(aC (i:=1) (show List.Nodup [(".0":Str),("_law_part":Str),("_law_units_here":Str)] by decide +kernel) rfl ll (Or.inr (by kernel_rfl)))) (fun _=>(dP (bR (bi (ap T.d_50 G_50 hr.m (aa (ak au (yqv 1 vl) ac) (aa (yqv 2 vc) ae)) gl))))) (fun _=>(yqv 1 vl))) ae)) ac (aA _)))))
     (aj
      (aq c6))
     aB)
   (ai
    (ax (i:=5) sc_52.nd rfl ll (ap T.d_36 G_36 hr.m (aa (ak au (yqv 1 vl) ac) (aa (ap T.d_28 G_28 hr.m (aa (yqv 0 vl) (aa ac ae)) gl) (aa (ak au (yqv 1 vl) ac) ae))) gl))
   (ai
    (ax (i:=6) sc_52.nd rfl ll (am aK (ap T.d_28 G_28 hr.m (aa (yqv 0 vl) (aa ac ae)) gl) ac))
   (ai
    (g6 (ap T.d_42 G_42 hr.m (aa (yqv 1 vl) (aa (yqv 5 vl) (aa (yqv 6 vl) ae))) gl) (fZ rfl (bv (aC (i:=7) sc_52.nd rfl ll) (bv (aC (i:=8) sc_52.nd rfl ll) (bv (aC (i:=9) sc_52.nd rfl ll) eJ)))))
   (ai
    (g6 (ap T.d_51 G_51 hr.m (aa (yqv 4 vl) (aa (yqv 1 vl) (aa (yqv 5 vl) (aa (am b7 (am cu ac (yqv 6 vl)) ac) ae)))) gl) (fZ rfl (bv (aC (i:=10) sc_52.nd rfl ll) (bv (aC (i:=11) sc_52.nd rfl ll) (bv (aC (i:=12) sc_52.nd rfl ll) eJ)))))
   (ai
    (aF (ar (C0 (n:=0) (tZ (by decide) hr)) (bq cF (yqv 10 vl) c7 (bh (aw ay gl T.z_len PySem.boot_len (aa (yqv 7 vl) ae)))) (yqv 7 vl) (aA _))
     (aj
      (aq c6))
     aB)
   (ai
    (aF (ar jY (yqv 9 vl) ac (aA _))
     (aj
      (aq (cq (yqv 12 vl) (cq (aR (jF (n:=0) (tZ (by decide) hr)) (yqv 10 vl) (yqv 7 vl) (aA _)) (cZ (aR (kQ hr.units0) (yqv 11 vl) (yqv 8 vl) (aA _)))))))
     aB)
   (ai
    (g6 (ap T.d_42 G_42 hr.m (aa (yqv 1 vl) (aa (yqv 5 vl) (aa (am b7 (am cu ac (yqv 6 vl)) ac) ae))) gl) (fZ rfl (bv (aC (i:=7) sc_52.nd rfl ll) (bv (aC (i:=8) sc_52.nd rfl ll) (bv (aC (i:=9) sc_52.nd rfl ll) eJ)))))
   (bD
    (aF (bU (dR (bi (yqv 12 vl)) (d7 (ar jY (yqv 9 vl) ac (aA _)))))
     (aj
      (aq (cq (aR (jF (n:=0) (tZ (by decide) hr)) (yqv 10 vl) (yqv 7 vl) (aA _)) (cZ (aR (kQ hr.units0) (yqv 11 vl) (yqv 8 vl) (aA _))))))
     aB)
   (ai
    (ax (i:=13) sc_52.nd rfl ll (aw (ij rfl) gl T.z_min boot_min (aa (aw ay gl T.z_len PySem.boot_len (aa (yqv 7 vl) ae)) (aa (aw ay gl T.z_len PySem.boot_len (aa (yqv 10 vl) ae)) ae))))
   (aj
    (aq (aR (jF (n:=0) (tZ (by decide) hr)) (bq cF (yqv 7 vl) c7 (bh (yqv 13 vl))) (bq cF (yqv 10 vl) c7 (bh (yqv 13 vl))) (aA _))))))))))))))))))),?_⟩
 rw [show aM _ [V.ref a]=[some (.ref a),none,none,none,none,none,none,none,none,none,none,none,none,none] from rfl];simp_arith! [A0];refine ⟨ns,20,rfl,(by decide),(by decide),hS,hbits,fun q0 wd ins oth ss pi po pr xs g H1 s1 hD=>?_⟩;have hdp:=hD.dp;have hmn:=hD.mn;have hfew:=hD.few;have hw1:=hD.w1;have hw8:=hD.w8;have hgd:=hD.gd;have hal:=hD.few;rw [zq3] at hfew;refine later ?_;simp_arith! [];refine ⟨_,_,SqT.of hD.tup,rfl,_,_,SqT.of hD.tup,rfl,_,_,SqT.of hD.tup,rfl,_,_,SqT.of hD.tup,rfl,?_⟩;intro pp dx hpp hdx hne;simp_arith! [CG];have s6:Same H1 (upd (upd H1 dx (.own pp)) pp (.ins t.C_Program dx [])):=(Same.upd hdx).updM hpp;refine ⟨dx,ins,oth,xs,ss,g,af,s6 _ _ hD.ia,s6 _ _ hD.oa,s6 _ _ hD.ra,hD.st.same s6,(by omega),(by omega),(by omega),(by omega),fun a' b' r' ys gg H7 sx hP _ _=>?_⟩;have s7:Same H1 H7:=fun c' o' e=>sx c' o' (s6 _ _ e) (ao e hpp);have hD7:=hD.same s7;have s07:=s1.trans s7;clear sx s6 hpp hdx hD s7 s1;refine ⟨rfl,later ?_⟩;simp_arith! [zU,xj];refine ⟨ns,s07.seq hS,by decide,jg hbits,fun us ut h3 hp3 hut=>?_⟩;have t8:=Same.upd (o:=.tup (us.map V.int)) hut;have eu:upd H7 ut (.tup (us.map V.int)) ut=some (.tup (us.map V.int)):=af;have hP8:=hP.same t8;have hD8:=hD7.same t8;have s08:=s07.trans t8;clear hP hD7 s07;generalize upd H7 ut (.tup (us.map V.int))=H8 at t8 eu hP8 hD8 s08 ⊢;refine later ?_;simp_arith! [Ae];refine ⟨wd,ins,oth,ss,a',b',r',ys,gg,us,ins++oth,hP8,by omega,by omega,hgd,SqT.of eu,h3,hp3,fun tb ts bbs H9 s9 htb0 htb hL hts=>?_⟩;have up:∀s,s<3->0<=uN us s:=fun s hs=>yO (mC h3 hp3 s hs);have lB:=FZ.gM ss;have hG:=FZ.jj hgd;obtain ⟨g1',g2',g3',g4'⟩:=y8 hG lB.2 hL up;have lt:=hts.length;have hlB:=hL.length;have hD9:=hD8.same s9;have s09:=s08.trans s9;have eu9:=s9 _ _ eu;have hm0:(br bbs).getD 0 0=0:=(fL (fun bs hbs=>by obtain ⟨i,hi⟩:=zq67.mp hbs;obtain ⟨b,z1,z2⟩:=Paired.getR hL hi;exact (cJ up (hG b (zq8 z1)).len z2).1) (i:=0) (by omega)).1
 have tab:TabV K H9 tb (i8 (FZ.aO ss) bbs):=⟨ts,htb,FL.Paired.imp hts fun x _ b _ z=>by obtain ⟨qb,ab,eb,vs,e,v1,v2,v3,v4,v5⟩:=z;exact ⟨qb,ab,eb,vs,e,SqT.of v1,v2,v3,SqT.of v4⟩⟩
 have tg:Do (ins++oth) wd (i8 (FZ.aO ss) bbs):=⟨fun b hb=>⟨(g1' b hb).gd,(g1' b hb).nm,by have:=(g1' b hb).len;omega⟩,fun b hb=>(g1' b hb).tg,g2'⟩
 have hTC:=fun ks=>Dd (ks:=ks) hw1 hG hL up;refine later ?_;simp_arith! [Cv,me];refine ⟨fun σ H'=>Same H9 H'/\σ=[some (.ref a),some (.ref q0),some (.ref pp),some (.ref ut),some (.ref tb),none,none,none,none,none,none,none,none,none],?_,?_⟩
 ·refine ⟨_,ts,_,wd,ins,oth,pr,htb,hts,g1',g2',(by omega),hD9.n,fun H10 s10=>⟨_,rfl,?_⟩⟩;rw [if_neg (by decide)];refine ⟨⟨_,SqL.of (s10 _ _ htb)⟩,fun acc hacc bk=>?_⟩;refine jn (ts.map fun x=>(false,x)) (by rw [sizeLine_eq];omega) (by rw [zq1]) (SqL.of (s10 _ _ htb)) hacc (fun j x b y hx hy H11 Q' s11 h=>?_) (fun j x y hx hy=>?_) fun H11 s11 e11=>?_
  ·rw [bM,hx] at hy;obtain ⟨rfl,rfl⟩:false=b/\x=y:=by have z:=Option.some.inj hy;exact ⟨congrArg Prod.fst z,congrArg Prod.snd z⟩
   obtain ⟨b0,hb0,hbv⟩:=Paired.get hts hx;have s911:=s10.trans s11;obtain ⟨qb,ab,eb,vs,rfl,v1,v2,v3,v4,v5,v6⟩:=hbv.same s911;have l8:=(g1' b0 (zq8 hb0)).len;simp_arith [me];refine ⟨_,_,SqT.of v1,rfl,?_⟩;rw [me];refine ⟨vs,b0.ds,us,SqL.of v2,v3,(by omega),SqT.of (s911 _ _ eu9),h3,fun H12 s12=>⟨_,rfl,?_⟩⟩;rw [g4' b0 (zq8 hb0)];exact h H12 s12
  ·rw [bM,hx] at hy
   cases hy
  ·rw [show eh (ts.map fun x=>(false,x))=[] by unfold eh;rw [yw];simp] at e11;refine ⟨_,.inl (SqL.of e11),?_⟩;rw [if_neg (by decide)];exact ⟨s10.trans s11,rfl⟩
 rintro σ H10 ⟨s10,rfl⟩;have hDa:=hD9.same s10;have s0a:=s09.trans s10;have tab10:=tab.same s10;refine later ?_;simp_arith! [zU];refine ⟨_,_,SqT.of hDa.tup,rfl,ns,s0a.seq hS,by decide,_,_,SqT.of hDa.tup,rfl,?_⟩;rw [xk];refine ⟨ins,hDa.ia,(by omega),jg hbits,hw1,hw8,fun c ws H10b s10b _ hW=>?_⟩;refine later ?_;simp_arith! [zU];refine ⟨ns,(s0a.trans s10b).seq hS,by decide,?_⟩;have hD10:=hDa.same s10b;obtain ⟨ks,hks,lks⟩:=GO.nR (ins:=ins) (ws:=ws) (ins++oth);have hBK:BK (ins++oth) wd ks (aY ins ws (ins++oth)):=⟨hW.first (by omega),hks⟩
 have hT:=hTC ks;obtain ⟨n,hn⟩:∃n:Nat,atF ns 2 % 61=n:=⟨(atF ns 2 % 61).toNat,by have:=fc (atF ns 2) (show (61:Int)≠0 by decide);omega⟩
 have n60:n<61:=by have:=iK (atF ns 2) (show (0:Int)<61 by decide);omega
 rw [hn];refine later ?_;simp_arith! [xi];refine ⟨H,wd,ins,oth,ss,pi,po,pr,xs,g,20,ws,n,rfl,(by omega),hD10,hW,fun p1 td bx H11 s11 e11 hV11=>?_⟩;have hl11:=(GA.GSt.runL hw1 (n:=n) (s:=⟨ss,aY ins ws (ins++oth),[]⟩) ⟨hW.first (by omega),hgd⟩).2;have f1:=GA.iz (w:=wd) (n:=n) (s:=⟨ss,aY ins ws (ins++oth),[]⟩);have f2:=lu (t:=[]) (n:=n) (m:=4 * n+4) hT hm0 hBK (by omega);have f3:=fun h=>lj (t:=[]) (n:=n) (m:=4 * n+4) hT hm0 hBK h (by omega);rw [<- f1.1] at f2 f3;replace f3:=fun h=>f3 (by rw [f1.1];exact f1.2.mp h);have f4:=fun m h1=>qG (t:=[]) (n:=m) (m:=4 * n+4) hT hm0 hBK h1;have f5:=fun m=>pE (t:=[]) (n:=m) (m:=4 * n+4) hT hm0 hBK;have f6:=fun m=>GA.iz (w:=wd) (n:=m) (s:=⟨ss,aY ins ws (ins++oth),[]⟩);clear f1;generalize GA.runL wd n ⟨ss,aY ins ws (ins++oth),[]⟩=R1 at *;refine ⟨_,_,rfl,SqT.of e11,rfl,?_⟩;simp_arith! [];refine later ?_;simp_arith! [Eg];have hD11:=hD10.same s11;have hW11:=hW.same s11;refine ⟨.inl ⟨by decide,by decide⟩,?_⟩;refine ⟨wd,ins,oth,pr,ws,_,4 * n+4,(by omega),(by omega),(tab10.same s10b).same s11,tg,hD11.n,hW11,fun p2 td2 bx2 H12 s12 _ _ e12 ht12 hb12=>?_⟩;generalize GO.cg (i8 (FZ.aO ss) bbs) wd (4 * n+4) 0 (aY ins ws (ins++oth),[])=R2 at *;refine ⟨_,_,rfl,SqT.of e12,rfl,?_⟩;simp_arith! [];refine later ?_;simp_arith! [];have ht:=s12 _ _ hV11.ht;have hb:=s12 _ _ hV11.hb;have hD12:=hD11.same s12;have hW12:=hW11.same s12;refine ⟨_,.inl (SqL.of ht),_,SqL.of ht12,fun p3 hp3=>?_⟩;rw [eP (by omega),dF,zq1,<- mK,<- List.prefix_iff_eq_take.mp f2];have t3:=Same.upd (o:=.lst (R1.2.told.map V.int)) hp3;refine ⟨true,ja (SqL.of af) (SqL.of (t3 _ _ ht)),_,rfl,?_⟩;rw [if_neg (by decide)];generalize upd H12 p3 _=H13 at t3 ⊢;refine later ?_;simp_arith! []
 by_cases e0:0<=R1.1
 ·rw [if_pos (by simpa using e0)];have f3':=f3 e0;subst f3';rw [if_pos rfl];refine ⟨true,ja (SqL.of (t3 _ _ ht12)) (SqL.of (t3 _ _ ht)),true,rfl,?_⟩;rw [if_pos rfl];refine ⟨bx2,bx,_,_,rfl,rfl,.inl (t3 _ _ hb12),.inl (t3 _ _ hb),hV11.gd.isI.flat,hV11.gd.isI.flat,?_⟩;rw [hV11.gd.isI.self];exact q _
 rw [if_neg (by simpa using e0)];refine later ?_;simp_arith! [xi];have hD13:=hD12.same t3;have hW13:=hW12.same t3;have hl14:=(GA.GSt.runL hw1 (n:=36 * n+40) (s:=⟨ss,aY ins ws (ins++oth),[]⟩) ⟨hW.first (by omega),hgd⟩).2;have g1:=f6 (36 * n+40);have g4:=f4 (36 * n+40);have g5:=f5 (36 * n+40);rw [<- g1.1] at g4 g5;replace g4:=fun h=>g4 (by rw [g1.1];exact g1.2.mp h);clear g1 f4 f5 f6 f2 f3;refine ⟨.inl ⟨by decide,by decide⟩,?_⟩;refine ⟨H,wd,ins,oth,ss,pi,po,pr,xs,g,20,ws,36 * n+40,(by omega),(by omega),hD13,hW13,fun p4 td4 bx4 H14 s14 e14 hV14=>?_⟩;generalize GA.runL wd (36 * n+40) ⟨ss,aY ins ws (ins++oth),[]⟩=R3 at *;refine ⟨_,_,rfl,SqT.of e14,rfl,?_⟩;simp_arith! [];refine later ?_;simp_arith! [];have ht2:=s14 _ _ (t3 _ _ ht12);have hb2:=s14 _ _ (t3 _ _ hb12);refine ⟨fun σ H'=>H'=H14/\σ=[some (.ref a),some (.ref q0),some (.ref pp),some (.ref ut),some (.ref tb),some (.ref c),some (.int n),some (.ref td4),some (.ref bx4),some (.int R3.1),some (.ref td2),some (.ref bx2),some (.bl R2.2),none],?_,?_⟩
 ·by_cases e2:R2.2=true
  ·rw [if_pos e2]
   by_cases e3:0<=R3.1
   ·rw [if_pos (by simpa using e3)];have g4':=g4 e3 e2;rw [g4'] at ht2 hb2;refine ⟨true,ja (SqL.of ht2) (SqL.of hV14.ht),true,rfl,?_⟩;rw [if_pos rfl];refine ⟨bx2,bx4,_,_,rfl,rfl,.inl hb2,.inl hV14.hb,hV14.gd.isI.flat,hV14.gd.isI.flat,?_⟩;rw [hV14.gd.isI.self];exact q _
   ·rw [if_neg (by simpa using e3)];exact ⟨rfl,rfl⟩
  ·rw [if_neg e2];exact ⟨rfl,rfl⟩
 rintro σ H15 ⟨rfl,rfl⟩;refine later ?_;simp_arith! [];refine ⟨_,.inl (SqL.of hV14.ht),_,.inl (SqL.of ht2),?_⟩;have e:(if ((R2.1.2.map V.int).length:Int)<((R3.2.told.map V.int).length:Int) then ((R2.1.2.map V.int).length:Int) else ((R3.2.told.map V.int).length:Int))=((min R3.2.told.length R2.1.2.length:Nat):Int):=by
  rw [zq1,zq1]
  split<;>omega
 rw [e];refine later ?_;simp_arith! [];refine ⟨_,SqL.of hV14.ht,fun p5 hp5=>?_⟩;rw [eP (by omega),dF,<- mK];have t5:=Same.upd (o:=.lst ((R3.2.told.take (min R3.2.told.length R2.1.2.length)).map V.int)) hp5;refine ⟨_,SqL.of (t5 _ _ ht2),fun p6 hp6=>?_⟩;rw [eP (by omega),dF,<- mK];have t6:=Same.upd (o:=.lst ((R2.1.2.take (min R3.2.told.length R2.1.2.length)).map V.int)) hp6;refine ⟨true,ja (SqL.of (t6 _ _ af)) (SqL.of ?_),q _⟩;rw [af,g5]
theorem uj(T:Txt K mg t):∀(s:Shared)(u:Value),BindsTo s t.e_52 ⟨[u],[]⟩ [("_law_script",u)]:=by obtain ⟨oc,od,kV,doc,pm,an,cdv,ct,osl,e,_,_⟩:=T.d_52.F.ex;intro s u;rw [e];exact .of_eq rfl
end
theorem GC{l:W.OpenLaw}{q:Program}{loose:List Str}{XP:(Str->Option Value)->Heap->Prop}{YP:World->Heap->Prop}{d:DefRec}{K:Params->W.Frag}(hn:l.most=some 63)(hdf:d.params.defaults=[])(hd:d.name="law")
  (hY:∀(w:World)(h:Heap),YP w h->(K w.params).In h)
  (F:∀(w:World)(mg:Str->Option Value)(h:Heap),(K w.params).In h->h.Ns mainGlobals mg->∃t,Txt (K w.params) mg t/\t.pr=w.params) :
  W.WalkO q loose XP YP l.row.toRowW d [] (fun f vs=>PySem.call f vs):=by
 refine L2.yg (n:=63) (k:=100) (x:="_law_script") (CX:=fun _=>CX0) (sp:=fun w=>sp_law (K w.params)) hn (by decide) hdf ⟨rfl,by decide,by decide⟩ hY (fun w mg fa h KX G hmg=>?_) (fun _ _ a ns hl hb _ hS=>⟨a,ns,rfl,hS,hl,hb,fun _=>rfl⟩) fun _ _ _ _ _ z=>z;obtain ⟨t,T,hw⟩:=F w mg h KX G;rw [hd] at hmg;have e0:=hmg.symm.trans T.d_52.M
 cases e0
 exact ⟨t.e_52,uj T,fun base _ _=>(BR T hw).mono (by decide)⟩
end K52
set_option maxHeartbeats 4000000
local macro_rules | `(tactic| simp_arith [$ts,*])=>`(tactic| ((try dsimp only); k_is))
local macro_rules | `(∅)=>`(by simp_arith [])
namespace PySem.W.Fast
def tw9639381356817889611:=0
def tw12409135475137193160:=0
def tw8322524407215093254:=0
def tw9865408415709976177:=0
def tw18379386492376381997:=0
def tw791796940587897850:=0
def tw1272915179680950432:=0
def tw10727771988471716574:=0
def tw4464063151046716470:=0
def tw12417478070831909096:=0
def tw3008670508739104528:=0
def tw1736467317186648880:=0
def tw17719615392792281136:=0
def tw213132622961341728:=0
def tw2249454878642211929:=0
def tw5291802621413255001:=0
def tw16651217299476577446:=0
def tw8796610920163467737:=0
def tw153521503712762429:=0
def tw15664112111168554695:=0
def tw1118489326476797303:=0
def tw13093933924440831640:=0
def tw12409500676387782363:=0
def tw4132616369618385841:=0
def tw8727945830831867322:=0
def tw4223414268919218742:=0
def tw17008545412964915120:=0
def tw1309833868694849937:=0
def tw18185696632197651764:=0
def tw16728963700468866101:=0
def tw16268301613037432937:=0
def tw3480488196960839152:=0
def tw12516195827260544408:=0
def tw15798193095507116501:=0
def tw3916610255890398475:=0
def tw1781615162320512489:=0
def tw15277131997129457442:=0
def tw7062733426266688278:=0
def tw18199865089777295135:=0
def tw8744263930373476842:=0
def tw10570276535079177822:=0
def tw11818885777804652405:=0
def tw10360340430345508433:=0
def tw3643668516837688949:=0
def tw3672787760203372503:=0
def tw8333471306293713248:=0
def tw17163507982129281146:=0
def tw1366350332252355591:=0
def tw9707447375433056894:=0
def tw364431253561051024:=0
def tw3742931911242453430:=0
def tw4079090464787453654:=0
def tw8381577648853457948:=0
def tw6050438280019258987:=0
def tw3149392622706674033:=0
def tw17003582767166686491:=0
def tw6182439434328530613:=0
def tw6594265059477825404:=0
def tw7360966657610369030:=0
def tw12626874077067803967:=0
def tw17632012885043003550:=0
def tw1101019695673088084:=0
def tw484657097474147030:=0
def tw10076549556429886935:=0
def tw12069426181293598701:=0
def tw7176101274712897423:=0
def tw12041618328523024667:=0
def tw9576246884811710843:=0
def tw7543665407217948628:=0
def tw6608710270429758836:=0
def tw689697325650627117:=0
def tw3736154168402930935:=0
def tw810574698066027977:=0
def tw17487983976911718:=0
def tw13617350406775513097:=0
def tw8865967894328755186:=0
def tw7779334889859371199:=0
def tw2808491324455537558:=0
def tw16124693284442102043:=0
def tw17748846847179748531:=0
def tw8507932826997302793:=0
def tw4934060346596762771:=0
def tw1637514953157793890:=0
def tw17508095975797987070:=0
def tw4926470166278765750:=0
def tw10654518549045161137:=0
def tw5367726696948101916:=0
def tw4048130907640314874:=0
def tw11589968080250625726:=0
def tw16180345464953797950:=0
def tw9600969435094864962:=0
def tw17253710018580060324:=0
def tw971143416144456291:=0
def tw2338560743248833227:=0
def tw17903556317845985804:=0
def tw9773918128378493311:=0
def tw14939176818241808089:=0
def tw16944854817875186756:=0
def tw16701095943821404191:=0
def tw11573510657001442776:=0
def tw16365147628801307507:=0
def tw8383336138200564800:=0
def tw10952604962497616642:=0
def tw2477103661072337703:=0
def tw11928999868011271141:=0
def tw13393471307195467680:=0
def tw3236110086374046862:=0
def tw8706727113521371046:=0
def tw885336026523488468:=0
def tw15831550861560652148:=0
def tw4346533311266850115:=0
def tw17401365965211192091:=0
def tw16322574304784322651:=0
def tw9370253728655630302:=0
def tw7450019980246284461:=0
def tw6318595405699908648:=0
def tw12603428825653480936:=0
def tw10380167992583370481:=0
def tw2094573958499792830:=0
def tw11058839263044847773:=0
def tw15874970860252336058:=0
def tw913083911386163730:=0
def tw4261635319574675103:=0
def tw7297300518811272935:=0
def tw4404831557120142479:=0
def tw15492741976272575821:=0
def tw3257339806555190907:=0
def tw7371675652498363956:=0
def tw17537111434353915772:=0
def tw18328930957975205491:=0
def tw15108559879677554423:=0
def tw18229306550494746209:=0
def tw3880837970623186512:=0
def tw6638123826251008459:=0
def tw17663692266085460110:=0
def tw4388134320807764258:=0
def tw8633558351542960677:=0
def tw7623500998033954617:=0
def tw1706952811253511278:=0
def tw4260223006676428112:=0
def tw409851867257508322:=0
def tw5675149317053471117:=0
def tw10343229052999995648:=0
def tw5141862966068618934:=0
def tw5335108833081732363:=0
def tw17596814301503436544:=0
def tw14376327751189950006:=0
def tw17958601385113926317:=0
def tw14812068911367898536:=0
def tw8569618799827808962:=0
def tw4080245279038018103:=0
def tw15104189939884759126:=0
def tw11458398539160505943:=0
def tw17293891247702489837:=0
def tw17613268791443386399:=0
def tw8810369742525656722:=0
def tw4099460428847530484:=0
def tw9424242384171234887:=0
def tw2004466194617014724:=0
def tw7537331359773497443:=0
def tw16030675279432393247:=0
def tw12187625651796188738:=0
def tw16658841167911636357:=0
def tw6858611235227139375:=0
def tw608734562369176489:=0
def tw8968013269569644780:=0
def tw4937948007108072410:=0
def tw3320371627118194079:=0
def tw15995199365306512448:=0
def tw6683821043196485151:=0
def tw7143122002544426485:=0
def tw9695959140537914792:=0
def tw14865572395611616443:=0
def tw2374591137641426399:=0
def tw14697519429783963377:=0
def tw14295055165090219726:=0
def tw14447738803077293245:=0
def tw4589820998952201165:=0
def tw15989461726635692962:=0
def tw13978107279242098784:=0
def tw8400048213782977526:=0
def tw14501427168505369803:=0
def tw13821495771094208502:=0
def tw12335087283917133351:=0
def tw9202505160669552387:=0
def tw4995212572696570286:=0
def tw15372828904677883922:=0
def tw12846880837462796128:=0
def tw13693212318298279071:=0
def tw13639103582533511321:=0
def tw5861211456262578191:=0
def tw18155194450262322957:=0
def tw8165586795316106164:=0
def tw10884619621136598915:=0
def tw16215026687344364520:=0
def tw16261521234423719786:=0
def tw4243585854790721047:=0
def tw14794635915835708572:=0
def tw14573165887738843910:=0
def tw11645685234827789611:=0
def tw14492846982776235585:=0
def tw1124733008929176521:=0
def tw15617812623897411644:=0
def tw7311040779196127108:=0
def tw4202945678163229295:=0
def tw2408299823085322449:=0
def tw9072049661202453598:=0
def tw15282080049673626981:=0
def tw15684861908902618488:=0
def tw2012417412579743668:=0
def tw12514741100440411306:=0
def tw12159033065587437197:=0
def tw17342614625046907095:=0
def tw13910643633599610596:=0
def tw4466112381834025293:=0
def tw5662600824534601405:=0
def tw18215226989187744579:=0
def tw9915361403765746302:=0
def tw11519400727056759667:=0
def tw623213011517367039:=0
def tw16176266182379108438:=0
def tw8088311405287653455:=0
def tw1147920529197609591:=0
def tw6854785800853850131:=0
def tw5603634855675158434:=0
def tw11541822358745636809:=0
def tw17859027299231610637:=0
def tw11457315240803891417:=0
def tw12724098230615214051:=0
def tw8451460634008547044:=0
def tw7192320999541991233:=0
def tw16793332922726016585:=0
def tw17228215965362415206:=0
def tw16883308708897911512:=0
def tw16659933847725118355:=0
def tw16430268738307272392:=0
def tw13152972696551377832:=0
def tw2298918339416765135:=0
def tw13019747198683148125:=0
def tw9353548574454705942:=0
def tw3359640036215483650:=0
def tw2490244568548629710:=0
def tw13223328932290507595:=0
def tw8460772308035203062:=0
def tw11434486477075069441:=0
def tw17911958964400443208:=0
def tw2091267803335727256:=0
def tw16321633663540714389:=0
def tw10989346842898058514:=0
def tw695183773261683651:=0
def tw8304616659237821673:=0
def tw4440203772894570328:=0
def tw15871647048090561737:=0
def tw13950333528191059653:=0
def tw13959126942165181835:=0
def tw1331392376231536677:=0
def tw10637052082574772308:=0
def tw7510134800802715737:=0
def tw7463488762669163923:=0
def tw3672989965745745165:=0
def tw7436996396933004726:=0
def tw18305471611656468998:=0
def tw15520440712205655513:=0
def tw9858010714883946142:=0
def tw9812970513776370722:=0
def tw9698404682633792968:=0
def tw9651162979509885934:=0
def tw9470722323624723626:=0
def tw9396478822901809293:=0
def tw8974591997257347581:=0
def tw8646000573459714306:=0
def tw8633851766946974134:=0
def tw8429072576699771170:=0
def tw8180732722540175881:=0
def tw8096931575239204344:=0
def tw807961641822707371:=0
def tw774894517035118120:=0
def tw7592873722131865386:=0
def tw746320646075652982:=0
def tw7232070512527635683:=0
def tw7023716300906890596:=0
def tw6957227479785719236:=0
def tw6904367993950741163:=0
def tw6617218041404430381:=0
def tw6469654103972780004:=0
def tw6417326525822092381:=0
def tw6268258479419172245:=0
def tw6261386292474837647:=0
def tw6226528133976523318:=0
def tw5944472381126911116:=0
def tw5776752918368606419:=0
def tw5726442441967724249:=0
def tw5636820886074286996:=0
def tw5560934733454732170:=0
def tw5396699294358663936:=0
def tw5092363332294887616:=0
def tw5066110997215282411:=0
def tw5050512746448167953:=0
def tw473196711848070605:=0
def tw4720935553130700869:=0
def tw4672889782114463187:=0
def tw4554984276468375179:=0
def tw4282989436722467210:=0
def tw3534136114258503931:=0
def tw3141165772643804686:=0
def tw3136001075497200353:=0
def tw308316476153082424:=0
def tw2948519373076348264:=0
def tw2524809268949566638:=0
def tw2506234744184503474:=0
def tw2259918596681661903:=0
def tw2225413803697933723:=0
def tw18389287820203377279:=0
def tw18257325544940092520:=0
def tw18184621520582979149:=0
def tw18083745822107821240:=0
def tw17923393926944039536:=0
def tw17800549669649072007:=0
def tw17576064034767644350:=0
def tw16672045428956731832:=0
def tw16546889923137368935:=0
def tw1640411435037830563:=0
def tw16131104407289734615:=0
def tw16097709590288280649:=0
def tw15680318490261982902:=0
def tw1544877435916026735:=0
def tw15174381971948740139:=0
def tw1515553310954915719:=0
def tw15154634912062213600:=0
def tw15115645353677402852:=0
def tw14869073689286164308:=0
def tw14693176907539170292:=0
def tw14500641869306019694:=0
def tw14281883799660570576:=0
def tw14003266366618102487:=0
def tw13949474816801986959:=0
def tw13722832080141066338:=0
def tw13404912580347233558:=0
def tw1328907413369390933:=0
def tw1305720608302546263:=0
def tw13040171569131262836:=0
def tw12931740316576389662:=0
def tw12862326714088398114:=0
def tw12437768372108762446:=0
def tw12425625082719542102:=0
def tw12416581201894323990:=0
def tw1237536449541507051:=0
def tw12201569152258975043:=0
def tw12061175616323602659:=0
def tw11943271486222759990:=0
def tw1183664013618879934:=0
def tw1181935303168627681:=0
def tw11593877474082623272:=0
def tw11562671462917286457:=0
def tw11547918577844479823:=0
def tw11100478337710518219:=0
def tw10956338051075972375:=0
def tw1079408851616894659:=0
def tw10594984346121262954:=0
def tw10179514476514935870:=0
def tw10010710397080382696:=0
end PySem.W.Fast
open PySem PySem.W PyProof.Rows
set_option maxRecDepth 100000 in
set_option maxHeartbeats 0 in
theorem PySem.Challenge.cw_deedloom_k52_tables_do_the_same_holds : PySem.Challenge.rw_deedloom_k52_tables_do_the_same.Holds := by
 w_on; o_law; k_head; (case hw=>w_witness2)
 k_fill
 refine K52.GC (l := PySem.Challenge.rw_deedloom_k52_tables_do_the_same) rfl rfl rfl (fun w h Y=>PySem.W.kIn_of Y) ?F
 case F =>
  intro w mg h KX G
  exact ⟨⟨w.params,_,_,_,_,_,_,_,_,_,_,_,_,_,_,_,_,_,_,_,_,_,_,_,_,_,_,_,_,_,_,_,_,_,_,_,_,_,_,_,_,_,_,_,_,_,_,_,_,_,_,_,_,_,_,_,_,_,_,_,_,_,_,_,_,_,_,_,_,_,_,_,_,_,_,_,_,_,_,_,_,_,_,_,_,_,_,_,_,_,_,_,_,_,_,_,_,_,_,_,_,_,_,_,_,_,_,_,_,_,_,_⟩,⟨PySem.W.mg_of KX G ∅,K52.vR ∅ (by first | rfl | kernel_rfl | decide) (by first | rfl | kernel_rfl | decide),PySem.W.mg_of KX G ∅,L2.Bs KX G ∅ ∅ ∅ ∅ ∅ ∅ ∅,by show PySem.W.findIn _ _ _ = some none; simp_arith [],L2.Bs KX G ∅ ∅ ∅ ∅ ∅ ∅ ∅,by show PySem.W.findIn _ _ _ = some none; simp_arith [],by show PySem.W.findIn _ _ _ = some none; simp_arith [],by show PySem.W.findIn _ _ _ = some none; simp_arith [],by show PySem.W.findIn _ _ _ = some none; simp_arith [],L2.Bs KX G ∅ ∅ ∅ ∅ ∅ ∅ ∅,by show PySem.W.findIn _ _ _ = some none; simp_arith [],by show PySem.W.findIn _ _ _ = some none; simp_arith [],by show PySem.W.findIn _ _ _ = some none; simp_arith [],L2.cf KX G ∅ ∅ ∅ ∅ (L2.bn1 fun _ _ _ _ _ _ _=>rfl),L2.gY ∅ ∅ ∅ ∅ ∅ (L2.bn1 fun _ _ _ _ _ _ _=>rfl),L2.gY ∅ ∅ ∅ ∅ ∅ (L2.bn1 fun _ _ _ _ _ _ _=>rfl),L2.gY ∅ ∅ ∅ ∅ ∅ (L2.bn2 fun _ _ _ _ _ _ _ _=>rfl),L2.gY ∅ ∅ ∅ ∅ ∅ (L2.bn2 fun _ _ _ _ _ _ _ _=>rfl),L2.gY ∅ ∅ ∅ ∅ ∅ (L2.bn3 fun _ _ _ _ _ _ _ _ _=>rfl),L2.gY ∅ ∅ ∅ ∅ ∅ (L2.bn3 fun _ _ _ _ _ _ _ _ _=>rfl),L2.gY ∅ ∅ ∅ ∅ ∅ (L2.bn3 fun _ _ _ _ _ _ _ _ _=>rfl),L2.gY ∅ ∅ ∅ ∅ ∅ (L2.bn3 fun _ _ _ _ _ _ _ _ _=>rfl),L2.gY ∅ ∅ ∅ ∅ ∅ (L2.bn5 fun _ _ _ _ _ _ _ _ _ _ _=>rfl),L2.cf KX G ∅ ∅ ∅ ∅ (L2.bn1 fun _ _ _ _ _ _ _=>rfl),L2.cf KX G ∅ ∅ ∅ ∅ (L2.bn1 fun _ _ _ _ _ _ _=>rfl),L2.cf KX G ∅ ∅ ∅ ∅ (L2.bn1 fun _ _ _ _ _ _ _=>rfl),L2.cf KX G ∅ ∅ ∅ ∅ (L2.bn1 fun _ _ _ _ _ _ _=>rfl),L2.cf KX G ∅ ∅ ∅ ∅ (L2.bn1 fun _ _ _ _ _ _ _=>rfl),L2.cf KX G ∅ ∅ ∅ ∅ (L2.bn1 fun _ _ _ _ _ _ _=>rfl),L2.cf KX G ∅ ∅ ∅ ∅ (L2.bn2 fun _ _ _ _ _ _ _ _=>rfl),L2.cf KX G ∅ ∅ ∅ ∅ (L2.bn3 fun _ _ _ _ _ _ _ _ _=>rfl),L2.cf KX G ∅ ∅ ∅ ∅ (L2.bn2 fun _ _ _ _ _ _ _ _=>rfl),L2.gY ∅ ∅ ∅ ∅ ∅ (L2.bn3 fun _ _ _ _ _ _ _ _ _=>rfl),L2.gY ∅ ∅ ∅ ∅ ∅ (L2.bn2 fun _ _ _ _ _ _ _ _=>rfl),L2.gY ∅ ∅ ∅ ∅ ∅ (L2.bn4 fun _ _ _ _ _ _ _ _ _ _=>rfl),L2.gY ∅ ∅ ∅ ∅ ∅ (L2.bn4 fun _ _ _ _ _ _ _ _ _ _=>rfl),L2.gY ∅ ∅ ∅ ∅ ∅ (L2.bn4 fun _ _ _ _ _ _ _ _ _ _=>rfl),L2.cf KX G ∅ ∅ ∅ ∅ (L2.bn2 fun _ _ _ _ _ _ _ _=>rfl),L2.cf KX G ∅ ∅ ∅ ∅ (L2.bn2 fun _ _ _ _ _ _ _ _=>rfl),L2.cf KX G ∅ ∅ ∅ ∅ (L2.bn2 fun _ _ _ _ _ _ _ _=>rfl),L2.cf KX G ∅ ∅ ∅ ∅ (L2.bn1 fun _ _ _ _ _ _ _=>rfl),L2.cf KX G ∅ ∅ ∅ ∅ (L2.bn2 fun _ _ _ _ _ _ _ _=>rfl),L2.cf KX G ∅ ∅ ∅ ∅ (L2.bn2 fun _ _ _ _ _ _ _ _=>rfl),L2.cf KX G ∅ ∅ ∅ ∅ (L2.bn2 fun _ _ _ _ _ _ _ _=>rfl),L2.cf KX G ∅ ∅ ∅ ∅ (L2.bn3 fun _ _ _ _ _ _ _ _ _=>rfl),L2.cf KX G ∅ ∅ ∅ ∅ (L2.bn3 fun _ _ _ _ _ _ _ _ _=>rfl),L2.cf KX G ∅ ∅ ∅ ∅ (L2.bn4 fun _ _ _ _ _ _ _ _ _ _=>rfl),L2.cf KX G ∅ ∅ ∅ ∅ (L2.bn3 fun _ _ _ _ _ _ _ _ _=>rfl),L2.cf KX G ∅ ∅ ∅ ∅ (L2.bn2 fun _ _ _ _ _ _ _ _=>rfl),L2.cf KX G ∅ ∅ ∅ ∅ (L2.bn3 fun _ _ _ _ _ _ _ _ _=>rfl),L2.cf KX G ∅ ∅ ∅ ∅ (L2.bn2 fun _ _ _ _ _ _ _ _=>rfl),L2.cf KX G ∅ ∅ ∅ ∅ (L2.bn4 fun _ _ _ _ _ _ _ _ _ _=>rfl),L2.cf KX G ∅ ∅ ∅ ∅ (L2.bn5 fun _ _ _ _ _ _ _ _ _ _ _=>rfl),L2.cf KX G ∅ ∅ ∅ ∅ (L2.bn5 fun _ _ _ _ _ _ _ _ _ _ _=>rfl),L2.cf KX G ∅ ∅ ∅ ∅ (L2.bn2 fun _ _ _ _ _ _ _ _=>rfl),L2.cf KX G ∅ ∅ ∅ ∅ (L2.bn3 fun _ _ _ _ _ _ _ _ _=>rfl),L2.cf KX G ∅ ∅ ∅ ∅ (L2.bn3 fun _ _ _ _ _ _ _ _ _=>rfl),L2.cf KX G ∅ ∅ ∅ ∅ (L2.bn3 fun _ _ _ _ _ _ _ _ _=>rfl),L2.cf KX G ∅ ∅ ∅ ∅ (L2.bn3 fun _ _ _ _ _ _ _ _ _=>rfl),L2.cf KX G ∅ ∅ ∅ ∅ (L2.bn2 fun _ _ _ _ _ _ _ _=>rfl),L2.cf KX G ∅ ∅ ∅ ∅ (L2.bn2 fun _ _ _ _ _ _ _ _=>rfl),L2.cf KX G ∅ ∅ ∅ ∅ (L2.bn1 fun _ _ _ _ _ _ _=>rfl),L2.cf KX G ∅ ∅ ∅ ∅ (L2.bn1 fun _ _ _ _ _ _ _=>rfl),L2.cf KX G ∅ ∅ ∅ ∅ (L2.bn2 fun _ _ _ _ _ _ _ _=>rfl),L2.cf KX G ∅ ∅ ∅ ∅ (L2.bn4 fun _ _ _ _ _ _ _ _ _ _=>rfl),L2.cf KX G ∅ ∅ ∅ ∅ (L2.bn1 fun _ _ _ _ _ _ _=>rfl),PySem.W.mg_none_of KX G ∅,PySem.W.mg_none_of KX G ∅,PySem.W.mg_none_of KX G ∅,PySem.W.mg_none_of KX G ∅,PySem.W.mg_none_of KX G ∅,PySem.W.mg_none_of KX G ∅,PySem.W.mg_none_of KX G ∅,PySem.W.mg_none_of KX G ∅,PySem.W.mg_none_of KX G ∅,PySem.W.mg_none_of KX G ∅,PySem.W.mg_none_of KX G ∅,PySem.W.mg_none_of KX G ∅,PySem.W.mg_none_of KX G ∅,PySem.W.mg_none_of KX G ∅,PySem.W.mg_none_of KX G ∅,PySem.W.mg_none_of KX G ∅⟩,rfl⟩
