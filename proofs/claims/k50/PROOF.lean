import PyProof.Rows.All
import Wide.All
import OpenK.AllK
import Wide.FinOn
import PyProof.EqAt
import PyProof.EqKinds
import PyProof.TupleCall
import PyProof.NeKinds
import PyProof.CompUse
import PyProof.IsiSeqPairs
import PyProof.IsiNone
import PyProof.Rows.SumAny
import KE.KDictOf
import KE.KEqDict
import PyProof.DictCopy
import PyProof.Rows.StrJoin2
import PyProof.Rows.SortWalk
import PyProof.ConsumeWalk
import PyProof.EnumMake
import KE.KDictList
import PyProof.DictValues
import PyProof.Cells
import KE.IntBitsLaws
import PyProof.Rows.SortStr
import PyProof.DictItems
import PyProof.CollectIter
import PyProof.TupleOfStr
import PyProof.ListRange
import PyProof.Rows.TupDisplay
import PyProof.Rows.CallKwBuiltin
import KE.KMinBuiltin
import PyProof.ZipIter
import PyProof.Rows.ZipGen
import PyProof.Rows.FactsT2
import PyProof.Rows.SetFrom
import PyProof.SetRoads
import PySem.Challenge.RW_deedloom_k50_tables_formed
set_option genSizeOf false
set_option compiler.extract_closed false
set_option Elab.async false
set_option linter.all false
set_option maxRecDepth 100000
namespace L2
open PySem PySem.Spec PyProof.Rows
abbrev Key:=Sum Int Str
def iB:Key->Value->Bool
 | .inl k,v=>Value.isInt k v
 | .inr x,v=>Value.isStrOf x v
def D8(w:World):Key->Int
 | .inl k=>hashInt k
 | .inr x=>hashStr w x
theorem bA:∀{k:Key} {v:Value},iB k v=true->(∃i t,k=Sum.inl i/\v=Value.int i t)\/(∃x t,k=Sum.inr x/\v=Value.str x t)
 | .inl i,v,h=>by
  obtain ⟨t,e⟩:=Value.isInt_shape (k:=i) (v:=v) h
  exact .inl ⟨i,t,rfl,e⟩
 | .inr x,v,h=>by
  obtain ⟨t,e⟩:=Value.isStrOf_shape (x:=x) (v:=v) h
  exact .inr ⟨x,t,rfl,e⟩
theorem ua(i:Int)(t:Tok):iB (.inl i) (.int i t)=true:=by simp [iB,Value.isInt]
theorem uc(x:Str)(t:Tok):iB (.inr x) (.str x t)=true:=by simp [iB,Value.isStrOf]
theorem B9(a b:Int):decide ((Sum.inl a:Key)=Sum.inl b)=(a == b):=by
 by_cases e:a=b
 ·subst e;simp
 ·have h:¬(Sum.inl a:Key)=Sum.inl b:=fun q=>e (Sum.inl.inj q)
  rw [decide_eq_false h]
  exact (beq_eq_false_iff_ne.mpr e).symm
theorem Bc(a b:Str):decide ((Sum.inr a:Key)=Sum.inr b)=decide (a=b):=by
 by_cases e:a=b
 ·subst e;simp
 ·have h:¬(Sum.inr a:Key)=Sum.inr b:=fun q=>e (Sum.inr.inj q)
  rw [decide_eq_false h,decide_eq_false e]
theorem Ba(a:Int)(b:Str):decide ((Sum.inl a:Key)=Sum.inr b)=false:=decide_eq_false (fun q=>nomatch q)
theorem Bb(a:Str)(b:Int):decide ((Sum.inr a:Key)=Sum.inl b)=false:=decide_eq_false (fun q=>nomatch q)
def br(prog:Program)(w:World):PySem.KeyKind prog w Key where
 is:=iB
 hash:=D8 w
 inj:=fun v a b ha hb=>by
  rcases bA ha with ⟨i,t,rfl,rfl⟩ | ⟨x,t,rfl,rfl⟩
  ·rcases bA hb with ⟨j,u,rfl,e⟩ | ⟨y,u,rfl,e⟩
   ·injection e with e1 _;rw [e1]
   ·exact nomatch e
  ·rcases bA hb with ⟨j,u,rfl,e⟩ | ⟨y,u,rfl,e⟩
   ·exact nomatch e
   ·injection e with e1 _;rw [e1]
 byValue:=fun k v h=>by
  rcases bA h with ⟨i,t,rfl,rfl⟩ | ⟨x,t,rfl,rfl⟩ <;> rfl
 pyHash:=fun hv h=>by
  rcases bA hv with ⟨i,t,rfl,rfl⟩ | ⟨x,t,rfl,rfl⟩
  ·exact wpAny_pyHash_int h
  ·exact wpAny_pyHash_str h
 eqBool:=fun hu hv h=>by
  rcases bA hu with ⟨i,t,rfl,rfl⟩ | ⟨x,t,rfl,rfl⟩
  ·rcases bA hv with ⟨j,u,rfl,rfl⟩ | ⟨y,u,rfl,rfl⟩
   ·rw [B9] at h;exact wpAny_eqBool_int h
   ·rw [Ba] at h;exact SeqAt.EqAt.int_str i t y u _ _ _ _ h
  ·rcases bA hv with ⟨j,u,rfl,rfl⟩ | ⟨y,u,rfl,rfl⟩
   ·rw [Bb] at h;exact SeqAt.EqAt.str_int x t j u _ _ _ _ h
   ·rw [Bc] at h;exact wpAny_eqBool_str h
 «strs»:=fun k x t v h=>by
  rcases bA h with ⟨i,u,rfl,e⟩ | ⟨y,u,rfl,e⟩
  ·exact nomatch e
  ·injection e with e1 _
   subst e1
   cases v <;> rfl
theorem o1(prog:Program)(w:World)(i:Int)(t:Tok):(br prog w).is (.inl i) (.int i t)=true:=ua i t
theorem oe(prog:Program)(w:World)(x:Str)(t:Tok):(br prog w).is (.inr x) (.str x t)=true:=uc x t
end L2
variable {H:Hp} {o u:HO}
namespace L2
open PySem PySem.Spec PyProof.Rows
inductive V where
 | non | bl (b:Bool) | int (i:Int) | str (x:Str) | byt (b:Array UInt8) | flt (b:UInt64) | ref (a:Addr) | ty (n:String)
 deriving DecidableEq
def RelV:V->Value->Prop
 | .non,u=>u=Value.none
 | .bl b,u=>u=Value.bool b
 | .int i,u=>∃t,u=Value.int i t
 | .str x,u=>∃t,u=Value.str x t
 | .byt b,u=>∃t,u=Value.bytes b t
 | .flt b,u=>∃t,u=Value.float b t
 | .ref a,u=>u=Value.ref a
 | .ty n,u=>u=Value.type n
abbrev Vals:List V->List Value->Prop:=Paired RelV
theorem Vals.length{xs:List V}{us:List Value}(r:Vals xs us):xs.length=us.length:=Paired.length r
theorem Vals.get:∀{xs:List V} {us:List Value} {i:Nat} {x:V},Vals xs us->xs[i]?=some x->∃u,us[i]?=some u/\RelV x u
 | _,_,_,_,.nil,e=>by simp at e
 | _,_,0,_,.cons r _,e=>by simp at e;subst e;exact ⟨_,rfl,r⟩
 | _,_,i+1,x,.cons _ t,e=>by
  obtain ⟨u,h1,h2⟩:=Vals.get (i:=i) (x:=x) t (by simpa using e)
  exact ⟨u,by simpa using h1,h2⟩
theorem Vals.set{x:V}{u:Value}(r:RelV x u):∀{xs:List V} {us:List Value} (i:Nat),Vals xs us->Vals (xs.set i x) (us.set i u)
 | _,_,_,.nil=>.nil
 | _,_,0,.cons _ t=>.cons r t
 | _,_,i+1,.cons q t=>.cons q (Vals.set r i t)
theorem Vals.append:∀{xs ys:List V} {us ws:List Value},Vals xs us->Vals ys ws->Vals (xs ++ ys) (us ++ ws)
 | _,_,_,_,.nil,s=>s
 | _,_,_,_,.cons r t,s=>.cons r (Vals.append t s)
theorem Vals.take:∀{xs:List V} {us:List Value} (n:Nat),Vals xs us->Vals (xs.take n) (us.take n)
 | _,_,0,_=>.nil
 | _,_,_+1,.nil=>.nil
 | _,_,n+1,.cons r t=>.cons r (Vals.take n t)
theorem Vals.drop:∀{xs:List V} {us:List Value} (n:Nat),Vals xs us->Vals (xs.drop n) (us.drop n)
 | _,_,0,r=>r
 | _,_,_+1,.nil=>.nil
 | _,_,n+1,.cons _ t=>Vals.drop n t
def RelO:Option V->Option Value->Prop
 | some v,some u=>RelV v u
 | none,none=>True
 | _,_=>False
def KV{κ:Type}:List (κ×V)->List (κ×Value)->Prop:=Paired fun (p:κ×V) (q:κ×Value)=>p.1=q.1/\RelV p.2 q.2
def kV:Key->V
 | .inl i=>.int i
 | .inr x=>.str x
inductive HO where
 /-- a list -/
 | lst (xs:List V)
 /-- a tuple (never changes) -/
 | tup (xs:List V)
 /-- a dict whose keys are ints and texts;one whose keys are tuples of ints and texts (the empty one is both) -/
 | dK (kvs:List (Key×V)) | dT (kvs:List (List Key×V))
 /-- a set of ints: its members,its size -/
 | set (S:Int->Bool) (n:Nat)
 /-- an instance of the class at C,its dict at dx,its attributes -/
 | ins (C dx:Addr) (fs:List (Str×V))
 /-- the dict of the instance at x -/
 | own (x:Addr)
 /-- the dict of an exception -/
 | xd (fs:List (Str×V))
 /-- a bound method,f of x -/
 | met (f x:Addr)
 /-- a range object lo,lo+1,.. below hi -/
 | rng (lo hi:Int)
 /-- a thing that is known to the object (the script;a dict while a loop walks it): read,never written while it is so -/
 | frz (o:Obj) (u:HO)
 /-- a code object's table -/
 | tbl (ps:Array Value)
 /-- any other thing,by what is true of its one object (a def of one's own: SetO a S n:=HO.ext fun h=>..) -/
 | ext (φ:Heap->Prop)
abbrev Hp:=Addr->Option HO
def upd(H:Hp)(a:Addr)(o:HO):Hp:=fun b=>if b=a then some o else H b
theorem ae{a:Addr}:upd H a o a=some o:=by unfold upd;rw [if_pos rfl]
theorem al{a b:Addr}(h:b≠a):upd H a o b=H b:=by unfold upd;rw [if_neg h]
theorem zV{a:Addr}:upd (upd H a o) a u=upd H a u:=by
 funext b;unfold upd;split <;> rfl
theorem dl{H:Hp}{a b:Addr}{o:HO}(h:H a=some o)(h':H b=some u)(d:o≠u):a≠b:=by
 intro e;subst e;rw [h] at h';exact d (Option.some.inj h')
theorem ai{H:Hp}{a b:Addr}(h:H a=some o)(h':H b=none):a≠b:=by
 intro e;subst e;rw [h] at h';cases h'
section
variable (P:Program) (w:World)
def ObjOk(H:Hp)(h:Heap)(a:Addr):HO->Prop
 | .lst xs=>xs.length<=sizeLine/\∃(its:List Value)(n:Nat),Vals xs its/\h.get? a=some {cls:=.type "list",data:=.seq its.toArray n}
 | .tup xs=>xs.length<=sizeLine/\∃its:List Value,Vals xs its/\IsTup h a its.toArray
 | .dK kvs=>kvs.length<=sizeLine/\(a == sysModules)=false/\∃vs,KV kvs vs/\h.DictOf (br P w) a vs
 | .dT kvs=>kvs.length<=sizeLine/\(a == sysModules)=false/\∃xs:List (List Key×Addr×Value),
   Paired (fun (p:List Key×V) (q:List Key×Addr×Value)=>p.1=q.1/\H q.2.1=some (.tup (p.1.map kV))/\RelV p.2 q.2.2) kvs xs/\
   ∃o es ep,h.get? a=some o/\o.ExactDict/\o.data=.dict es ep/\es.toList=xs.map (entryOfKey (tupleKind (br P w)))/\(xs.map (·.1)).Nodup
 | .set S n=>h.SetOf (intKind P w) a S n
 | .ins C dx fs=>H dx=some (.own a)/\fs.length<=1000/\dx≠a/\h.get? a=some (PySem.W.instObj C dx)/\
   ∃mA,h.Ns1 dx mA/\(∀f,RelO (fs.lookup f) (mA f))/\PySem.Within mA (fs.map (·.1))
 | .own _=>∃o,h.get? a=some o
 | .xd fs=>∃mA,h.Ns1 a mA/\∀f,RelO (fs.lookup f) (mA f)
 | .rng lo hi=>∃t u v,h.get? a=some {cls:=.type "range",data:=.fields #[.int lo t,.int hi u,.int 1 v]}
 | .frz o u=>h.get? a=some o/\ObjOk H h a u
 | .tbl ps=>h.get? a=some {cls:=.none,data:=.fields ps}
 | .met f x=>h.get? a=some (PySem.W.methodObj (.ref f) (.ref x))
 | .ext φ=>φ h/\(∃o,h.get? a=some o)/\∀h1 h2:Heap,φ h1->(∀o,h1.get? a=some o->h2.get? a=some o)->φ h2
def HOk(H:Hp)(h:Heap):Prop:=∀a o,H a=some o->ObjOk P w H h a o
end
section
variable {P:Program} {w:World} {H H':Hp} {h h':Heap} {a:Addr} {o:HO}
theorem ObjOk.lt(x:ObjOk P w H h a o):a < h.objs.size:=by
 cases o with
 | lst xs=>obtain ⟨_,_,_,_,e⟩:=x;exact Heap.lt_size e
 | tup xs=>obtain ⟨_,_,_,p⟩:=x;exact p.lt
 | dK kvs=>obtain ⟨_,_,_,_,o,_,_,e,_⟩:=x;exact Heap.lt_size e
 | dT kvs=>obtain ⟨_,_,_,_,o,_,_,e,_⟩:=x;exact Heap.lt_size e
 | set S n=>obtain ⟨o,_,_,_,e,_⟩:=x;exact Heap.lt_size e
 | ins C dx fs=>obtain ⟨_,_,_,e,_⟩:=x;exact Heap.lt_size e
 | own y=>obtain ⟨_,e⟩:=x;exact Heap.lt_size e
 | xd fs=>obtain ⟨_,⟨_,_,_,e,_⟩,_⟩:=x;exact Heap.lt_size e
 | rng lo hi=>obtain ⟨_,_,_,e⟩:=x;exact Heap.lt_size e
 | frz ob u=>obtain ⟨e,_⟩:=x;exact Heap.lt_size e
 | tbl ps=>exact Heap.lt_size (show h.get? a=some _ from x)
 | met f y=>exact Heap.lt_size (show h.get? a=some _ from x)
 | ext φ=>obtain ⟨_,⟨_,e⟩,_⟩:=x;exact Heap.lt_size e
theorem Paired.mapP{α β:Type}{F G:α->β->Prop}:∀{l₁:List α} {l₂:List β},Paired F l₁ l₂->(∀a b,F a b->G a b)->Paired G l₁ l₂
 | _,_,.nil,_=>.nil
 | _,_,.cons r t,f=>.cons (f _ _ r) (Paired.mapP t f)
theorem ObjOk.stay(x:ObjOk P w H h a o)(k:∀b u,(b=a\/H b=some (.own a))->h.get? b=some u->h'.get? b=some u)
  (ho:∀b,H b=some (.own a)->H' b=some (.own a)) (ht:∀b xs,H b=some (.tup xs)->H' b=some (.tup xs)):ObjOk P w H' h' a o:=by
 induction o with
 | lst xs=>obtain ⟨z,its,n,r,e⟩:=x;exact ⟨z,its,n,r,k _ _ (.inl rfl) e⟩
 | tup xs=>obtain ⟨z,its,r,ob,e,c⟩:=x;exact ⟨z,its,r,ob,k _ _ (.inl rfl) e,c⟩
 | dK kvs=>obtain ⟨z,y,vs,r,ob,es,ep,e,c⟩:=x;exact ⟨z,y,vs,r,ob,es,ep,k _ _ (.inl rfl) e,c⟩
 | dT kvs=>
  obtain ⟨z,y,xs,r,ob,es,ep,e,c⟩:=x
  exact ⟨z,y,xs,Paired.mapP r fun p q z=>⟨z.1,ht _ _ z.2.1,z.2.2⟩,ob,es,ep,k _ _ (.inl rfl) e,c⟩
 | set S n=>obtain ⟨ob,es,ep,t,e,c⟩:=x;exact ⟨ob,es,ep,t,k _ _ (.inl rfl) e,c⟩
 | ins C dx fs=>
  obtain ⟨d,z,ne,e,mA,⟨od,es,ep,e2,c⟩,r⟩:=x
  exact ⟨ho _ d,z,ne,k _ _ (.inl rfl) e,mA,⟨od,es,ep,k _ _ (.inr d) e2,c⟩,r⟩
 | own y=>obtain ⟨ob,e⟩:=x;exact ⟨ob,k _ _ (.inl rfl) e⟩
 | xd fs=>obtain ⟨mA,⟨od,es,ep,e,c⟩,r⟩:=x;exact ⟨mA,⟨od,es,ep,k _ _ (.inl rfl) e,c⟩,r⟩
 | rng lo hi=>obtain ⟨t,u,v,e⟩:=x;exact ⟨t,u,v,k _ _ (.inl rfl) e⟩
 | frz ob u ih=>obtain ⟨e,q⟩:=x;exact ⟨k _ _ (.inl rfl) e,ih q⟩
 | tbl ps=>
  have e:h.get? a=some {cls:=.none,data:=.fields ps}:=x
  show h'.get? a=some {cls:=.none,data:=.fields ps}
  exact k a _ (.inl rfl) e
 | met f y=>
  have e:h.get? a=some (PySem.W.methodObj (.ref f) (.ref y)):=x
  show h'.get? a=some (PySem.W.methodObj (.ref f) (.ref y))
  exact k a _ (.inl rfl) e
 | ext φ=>obtain ⟨p,⟨o,e⟩,st⟩:=x;exact ⟨st _ _ p fun o q=>k _ _ (.inl rfl) q,⟨o,k _ _ (.inl rfl) e⟩,st⟩
theorem HOk.lt(x:HOk P w H h)(e:H a=some o):a < h.objs.size:=(x a o e).lt
theorem HOk.fresh(x:HOk P w H h)(e:h.objs.size<=a):H a=none:=by
 cases q:H a with
 | none=>rfl
 | some u=>exact absurd (Nat.lt_of_lt_of_le (x.lt q) e) (Nat.lt_irrefl _)
theorem HOk.kept(x:HOk P w H h)(k:∀b u,h.get? b=some u->h'.get? b=some u):HOk P w H h':=fun a o e=>
 (x a o e).stay (fun b u _ q=>k b u q) (fun _ q=>q) fun _ _ q=>q
theorem HOk.laid(x:HOk P w H h)(k:∀b u,h.get? b=some u->h'.get? b=some u)(hp:h.objs.size<=a)(new:ObjOk P w (upd H a o) h' a o):HOk P w (upd H a o) h':=fun b u e=>by
 have hn:=x.fresh hp
 by_cases hb:b=a
 ·subst hb;rw [ae] at e;cases e;exact new
 ·rw [al hb] at e
  exact (x b u e).stay (fun c v _ q=>k c v q) (fun c q=>by rw [al (ai q hn)];exact q) fun c xs q=>by rw [al (ai q hn)];exact q
end
def Rd(H:Hp)(a:Addr)(u:HO):Prop:=H a=some u\/∃o,H a=some (.frz o u)
theorem Rd.ok{P:Program}{w:World}{H:Hp}{h:Heap}{a:Addr}(r:Rd H a u)(x:HOk P w H h):ObjOk P w H h a u:=by
 rcases r with r | ⟨o,r⟩
 ·exact x a u r
 ·obtain ⟨_,q⟩:=x a _ r
  exact q
def Mut:Option HO->Prop
 | some (.lst _)=>True
 | some (.dK _)=>True
 | some (.dT _)=>True
 | some (.set _ _)=>True
 | some (.ins _ _ _)=>True
 | some (.ext _)=>True
 | _=>False
section
variable {P:Program} {w:World} {H:Hp} {h h':Heap} {x e:Addr} {o':HO}
theorem HOk.write(ok:HOk P w H h)(mu:Mut (H x))(he:e=x\/H e=some (.own x))(k:∀b u,b≠e->h.get? b=some u->h'.get? b=some u)(heo:∃u,h'.get? e=some u)
  (new:ObjOk P w (upd H x o') h' x o'):HOk P w (upd H x o') h':=fun b u q=>by
 have nown:∀c y,H c=some (.own y)->c≠x:=fun c y r z=>by subst z;rw [r] at mu;exact mu
 have ntup:∀c xs,H c=some (.tup xs)->c≠x:=fun c xs r z=>by subst z;rw [r] at mu;exact mu
 by_cases hb:b=x
 ·subst hb;rw [ae] at q;cases q;exact new
 ·rw [al hb] at q
  by_cases hbe:b=e
  ·have q':H b=some (.own x):=by
    rcases he with z | z
    ·exact absurd (hbe.trans z) hb
    ·rw [hbe];exact z
   rw [q] at q';cases q'
   obtain ⟨v,hv⟩:=heo
   exact ⟨v,by rw [hbe];exact hv⟩
  ·refine (ok b u q).stay (fun c v hc r=>k c v ?_ r) (fun c r=>by rw [al (nown c b r)];exact r) fun c xs r=>by rw [al (ntup c xs r)];exact r
   rcases hc with rfl | hc
   ·exact hbe
   ·rintro rfl
    rcases he with z | z
    ·exact nown c b hc z
    ·rw [hc] at z;cases z;exact hb rfl
end
structure Un(fs ex:List Addr)(H H':Hp)(h h':Heap):Prop where
 keep:∀b o,h.get? b=some o->H b=none->b∉fs->b∉ex->h'.get? b=some o
 slot:∀b o,h.get? b=some o->H b=none->b∈fs->b∉ex->∃sl,h'.get? b=some {o with slots:=sl}
 free:∀b o,h.get? b=some o->H b=none->b∉ex->H' b=none
 there:∀b o,h.get? b=some o->b∉ex->∃o',h'.get? b=some o'
 tups:∀b xs,H b=some (.tup xs)->H' b=some (.tup xs)
 frzs:∀b o u,H b=some (.frz o u)->H' b=some (.frz o u)
 tbls:∀b ps,H b=some (.tbl ps)->∃more,H' b=some (.tbl (ps ++ more))
section
variable {fs fs' ex ex':List Addr} {H H1 H2:Hp} {h h1 h2 h':Heap} {a x e:Addr} {o:HO}
theorem Un.any(u:Un fs ex H H1 h h1){b:Addr}{ob:Obj}(q:h.get? b=some ob)(n:H b=none)(hx:b∉ex):∃sl,h1.get? b=some {ob with slots:=sl}:=by
 by_cases hb:b∈fs
 ·exact u.slot b ob q n hb hx
 ·exact ⟨ob.slots,u.keep b ob q n hb hx⟩
theorem Un.kept(k:∀b u,h.get? b=some u->h'.get? b=some u):Un fs ex H H h h':=
 ⟨fun b ob q _ _ _=>k b ob q,fun b ob q _ _ _=>⟨ob.slots,k b ob q⟩,fun _ _ _ n _=>n,fun b ob q _=>⟨ob,k b ob q⟩,fun _ _ q=>q,fun _ _ _ q=>q,fun _ ps q=>⟨#[],by rw [q];simp⟩⟩
theorem Un.refl:Un fs ex H H h h:=Un.kept fun _ _ q=>q
theorem Un.laid(k:∀b u,h.get? b=some u->h'.get? b=some u)(hp:h.objs.size<=a)(hn:H a=none):Un fs ex H (upd H a o) h h' where
 keep:=fun b u q _ _ _=>k b u q
 slot:=fun b u q _ _ _=>⟨u.slots,k b u q⟩
 free:=fun b u q n _=>by rw [al (Nat.ne_of_lt (Nat.lt_of_lt_of_le (Heap.lt_size q) hp))];exact n
 there:=fun b u q _=>⟨u,k b u q⟩
 tups:=fun b xs q=>by rw [al (ai q hn)];exact q
 frzs:=fun b u xs q=>by rw [al (ai q hn)];exact q
 tbls:=fun b ps q=>⟨#[],by rw [al (ai q hn),q];simp⟩
theorem Un.write(mu:Mut (H x))(he:e=x\/H e=some (.own x))(k:∀b u,b≠e->h.get? b=some u->h'.get? b=some u)(heo:∃u,h'.get? e=some u):Un fs ex H (upd H x o) h h':=by
 have hx:∀b,H b=none->b≠x:=fun b n z=>by subst z;rw [n] at mu;exact mu
 have hb:∀b,H b=none->b≠e:=fun b n z=>by
  subst z
  rcases he with r | r
  ·exact hx b n r
  ·rw [n] at r;cases r
 have hm:∀b u,H b=some u->¬Mut (some u)->b≠x:=fun b u q nm z=>by subst z;rw [q] at mu;exact nm mu
 refine ⟨fun b u q n _ _=>k b u (hb b n) q,fun b u q n _ _=>⟨u.slots,k b u (hb b n) q⟩,fun b u q n _=>by rw [al (hx b n)];exact n,fun b u q _=>?_,
  fun b xs q=>by rw [al (hm b _ q fun z=>z)];exact q,fun b u xs q=>by rw [al (hm b _ q fun z=>z)];exact q,fun b ps q=>⟨#[],by rw [al (hm b _ q fun z=>z),q];simp⟩⟩
 by_cases hbe:b=e
 ·subst hbe;exact heo
 ·exact ⟨u,k b u hbe q⟩
end
def trk(h:Heap)(H:Hp):List Addr:=(List.range h.objs.size).filter fun a=>(H a).isSome
def ma(h:Heap)(H:Hp):Heap:=PySem.W.hideAll h (trk h H)
theorem tY(h:Heap)(H:Hp):(ma h H).objs.size=h.objs.size:=PySem.W.hideAll_size _ _
theorem vq{h:Heap}{H:Hp}{b:Addr}{o:Obj}(e:h.get? b=some o)(n:H b=none):(ma h H).get? b=some o:=
 PySem.W.hideAll_get _ e fun hm=>by
  have q:(H b).isSome=true:=(List.mem_filter.mp hm).2
  rw [n] at q;simp at q
theorem yZ{h:Heap}{b:Addr}{o:Obj}(e:(ma h H).get? b=some o):h.get? b=some o/\H b=none:=by
 have e':h.get? b=some o:=PySem.W.of_hideAll (trk h H) e
 refine ⟨e',?_⟩
 cases q:H b with
 | none=>rfl
 | some x=>
  have hm:b∈trk h H:=List.mem_filter.mpr ⟨List.mem_range.mpr (Heap.lt_size e'),by simp [q]⟩
  have z:(ma h H).get? b=none:=PySem.W.hideAll_none (trk h H) hm
  rw [z] at e;cases e
def yz(g h:Heap)(L:Addr):List (Addr×Obj):=(List.range h.objs.size).filterMap fun a=>if a=L\/(g.get? a).isSome=true then none else (h.get? a).map fun o=>(a,o)
def cr(g h:Heap)(L d:Addr):List (Addr×Obj):=(yz g h L).filter fun p=>decide (p.1≠d)
end L2
variable {t':Nat}
namespace L2
open PySem PySem.Spec PyProof.Rows
structure Mod(K:PySem.W.Frag)(mg:Str->Option Value)(base:Heap):Prop where
 kin:K.In base
 glob:base.Ns mainGlobals mg
 blt:∃mb,base.Ns builtinsNs mb/\∀x:Str,x≠"__name__"->mb x=bootBuiltins x
 nolimit:base.NoLimit
structure Cx where
 prog:Program
 w:World
 K:PySem.W.Frag
 mg:Str->Option Value
 base:Heap
 A:Around
 N:List Str
 s₀:Shared
 H₀:Hp
 env:Env
 outer:List Env
 stack:List Env
 ex:List Addr
 fn:Str->Bool
 calm:Bool
 pn:List (Addr×Obj)
 xe:Value->Shared->Prop
def frs(l:List Env):List Addr:=l.filterMap (·.frame)
abbrev Cx.fs (X:Cx):List Addr:=frs X.outer
def Vis(sc:Scope)(x:Str):Prop:=sc.names.lookup x=some .local\/sc.names.lookup x=some .cell\/sc.names.lookup x=some .free
def Loc(sc:Scope)(x:Str):Prop:=sc.names.lookup x=some .local\/sc.names.lookup x=some .cell
def D2(env:Env)(h:Heap)(m:Str->Option Value)(x:Str)(u:Value):Prop:=
 (env.kindOf x=some .local/\m x=some u)\/((env.kindOf x=some .cell\/env.kindOf x=some .free)/\∃c,env.cells.lookup x=some c/\h.IsCell c (some u))
structure Cx.Ok(X:Cx):Prop where
 mod:Mod X.K X.mg X.base
 kind:X.env.scope.kind=.function
 glob:X.env.globals=mainGlobals
 blt:X.env.builtins=builtinsNs
 above:X.s₀.heap.objs.size<=X.env.locals
 inj:∀x y c,X.env.cells.lookup x=some c->X.env.cells.lookup y=some c->x=y
 has:∀x,(X.env.kindOf x=some .cell\/X.env.kindOf x=some .free)->∃c,X.env.cells.lookup x=some c
 cab:∀x c,X.fn x=true->X.env.cells.lookup x=some c->X.s₀.heap.objs.size<=c
 hd:X.calm=true->X.A.handled=none
 frames:X.A.frames=some X.stack
 stk:X.stack=X.outer\/(X.stack=X.env :: X.outer/\X.env.frame=some X.env.locals)
 exf:∀b∈X.ex,b≠X.env.locals/\∀x c,X.env.cells.lookup x=some c->c≠b
 bs:∀b o,X.base.get? b=some o->X.s₀.heap.get? b=some o/\X.H₀ b=none
 bsz:X.base.objs.size<=X.s₀.heap.objs.size
 noex:∀b o,X.base.get? b=some o->b∉X.ex
 exfs:∀b∈X.ex,b∉X.fs
 funs:X.s₀.heap.FunFrames X.base X.outer
 frf:∀b∈X.fs,X.H₀ b=none
structure Inv(X:Cx)(pins:List (Addr×Obj))(σ:List (Option V))(H:Hp)(s:Shared):Prop where
 ok:X.Ok
 os:s.os=X.s₀.os
 bare:AllBare s.gens
 base:Un X.fs X.ex X.H₀ H X.s₀.heap s.heap
 loc:∃m,s.heap.Ns X.env.locals m/\∀(i:Nat)(x:Str)(v:V),X.N[i]?=some x->σ[i]?=some (some v)->Vis X.env.scope x->∃u,RelV v u/\D2 X.env s.heap m x u
 cell:∀x c,X.env.cells.lookup x=some c->∃v,s.heap.IsCell c v
 free:H X.env.locals=none
 freeC:∀x c,X.env.cells.lookup x=some c->H c=none
 pin:∀p∈X.pn ++ pins,s.heap.get? p.1=some p.2/\H p.1=none/\p.1≠X.env.locals/\p.1∉X.fs/\∀v,p.2.data≠.cell v
 hok:HOk X.prog X.w H s.heap
 len:σ.length=X.N.length
section
variable {X:Cx} {pins:List (Addr×Obj)} {σ:List (Option V)} {H H':Hp} {s:Shared} {h':Heap}
theorem Cx.Ok.nofr(ok:X.Ok){b:Addr}{o:Obj}(e:X.base.get? b=some o):b∉X.fs:=fun hb=>by
 have:=(ok.funs.mem hb).1
 rw [e] at this;cases this
theorem Inv.bs(I:Inv X pins σ H s):∀b o,X.base.get? b=some o->s.heap.get? b=some o/\H b=none:=fun b o e=>
 ⟨I.base.keep b o (I.ok.bs b o e).1 (I.ok.bs b o e).2 (I.ok.nofr e) (I.ok.noex b o e),I.base.free b o (I.ok.bs b o e).1 (I.ok.bs b o e).2 (I.ok.noex b o e)⟩
theorem Inv.bk(I:Inv X pins σ H s):∀b o,X.base.get? b=some o->s.heap.get? b=some o:=fun b o e=>(I.bs b o e).1
theorem Inv.mod(I:Inv X pins σ H s):Mod X.K X.mg X.base:=I.ok.mod
theorem Inv.kIn(I:Inv X pins σ H s):X.K.In s.heap:=I.ok.mod.kin.keeps I.bk
theorem Inv.lt(I:Inv X pins σ H s):X.env.locals < s.heap.objs.size:=let ⟨_,hn,_⟩:=I.loc;hn.lt
theorem Inv.sz(I:Inv X pins σ H s):X.s₀.heap.objs.size<=s.heap.objs.size:=Nat.le_trans I.ok.above (Nat.le_of_lt I.lt)
theorem Inv.nofs(I:Inv X pins σ H s){a:Addr}(h:s.heap.objs.size<=a):a∉X.fs:=fun hb=>by
 obtain ⟨_,o,ho,_⟩:=I.ok.funs.mem hb
 exact absurd (Nat.lt_of_lt_of_le (Heap.lt_size ho) (Nat.le_trans I.sz h)) (Nat.lt_irrefl _)
theorem Inv.cne(I:Inv X pins σ H s):∀x c,X.env.cells.lookup x=some c->c≠X.env.locals:=fun x c e z=>by
 obtain ⟨v,o,ho,hd⟩:=I.cell x c e
 obtain ⟨m,⟨o',es,ep,ho',hd',_⟩,_⟩:=I.loc
 rw [z,ho'] at ho;cases ho;rw [hd'] at hd;cases hd
theorem Inv.funs(I:Inv X pins σ H s):s.heap.FunFrames X.base X.outer:=by
 have all:∀(l:List Env),(∀b∈frs l,b∈X.fs)->X.s₀.heap.FunFrames X.base l->s.heap.FunFrames X.base l:=by
  intro l
  induction l with
  | nil=>intro _ _;trivial
  | cons env r ih=>
   intro hs hl
   obtain ⟨hk,⟨L,o,hf,hn,ho,hd⟩,hr⟩:=hl
   have hL:L∈X.fs:=hs L (by unfold frs;rw [List.filterMap_cons,hf];exact List.mem_cons_self)
   obtain ⟨sl,e⟩:=I.base.slot L o ho (I.ok.frf L hL) hL fun z=>I.ok.exfs L z hL
   exact ⟨hk,⟨L,_,hf,hn,e,hd⟩,ih (fun b hb=>hs b (by unfold frs;rw [List.filterMap_cons,hf];exact List.mem_cons_of_mem _ hb)) hr⟩
 exact all X.outer (fun _ hb=>hb) I.ok.funs
theorem Inv.stack(I:Inv X pins σ H s):s.heap.FunFrames X.base X.stack:=by
 rcases I.ok.stk with e | ⟨e,hf⟩
 ·rw [e];exact I.funs
 ·rw [e]
  obtain ⟨m,hn,_⟩:=I.loc
  refine .cons (by rw [I.ok.kind];decide) hf hn ?_ I.funs
  exact Heap.get?_none_of_le (Nat.le_trans I.ok.bsz I.ok.above)
theorem Inv.stkSub(I:Inv X pins σ H s):∀b∈frs X.stack,b∈X.env.locals :: X.fs:=fun b hb=>by
 rcases I.ok.stk with e | ⟨e,hf⟩
 ·rw [e] at hb;exact List.mem_cons_of_mem _ hb
 ·rw [e] at hb
  unfold frs at hb
  rw [List.filterMap_cons,hf] at hb
  exact hb
theorem Inv.stkFree(I:Inv X pins σ H s):∀b∈frs X.stack,H b=none:=fun b hb=>by
 rcases List.mem_cons.mp (I.stkSub b hb) with e | hb
 ·rw [e];exact I.free
 ·obtain ⟨_,o,ho,_⟩:=I.ok.funs.mem hb
  exact I.base.free b o ho (I.ok.frf b hb) fun z=>I.ok.exfs b z hb
theorem Inv.step{g':Array GenState}{t':Nat}{d':Drawn}{ch:List Addr}(I:Inv X pins σ H s)
  (hch:∀b∈ch,(b∈X.ex\/X.s₀.heap.objs.size<=b)/\b≠X.env.locals/\(∀x c,X.env.cells.lookup x=some c->c≠b)/\∀p∈X.pn ++ pins,p.1≠b)
  (keep:∀b o,b≠X.env.locals->b∉X.fs->b∉ch->s.heap.get? b=some o->H b=none->h'.get? b=some o)
  (slot:∀b o,b≠X.env.locals->b∈X.fs->b∉ch->s.heap.get? b=some o->H b=none->∃sl,h'.get? b=some {o with slots:=sl}) (free:∀b o,b∉ch->s.heap.get? b=some o->H b=none->H' b=none)
  (there:∀b o,b∉ch->s.heap.get? b=some o->∃o',h'.get? b=some o')
  (tups:∀b xs,H b=some (.tup xs)->H' b=some (.tup xs)) (frzs:∀b o u,H b=some (.frz o u)->H' b=some (.frz o u)) (tbls:∀b ps,H b=some (.tbl ps)->∃more,H' b=some (.tbl (ps ++ more)))
  (ns:∀m,s.heap.Ns X.env.locals m->h'.Ns X.env.locals m) (hok:HOk X.prog X.w H' h') (hg:AllBare g') :
  Inv X pins σ H' {s with heap:=h',gens:=g',drawn:=d',toks:=t'}:=by
 have neL:∀b o,X.s₀.heap.get? b=some o->b≠X.env.locals:=fun b o e=>Nat.ne_of_lt (Nat.lt_of_lt_of_le (Heap.lt_size e) I.ok.above)
 have neC:∀b o,X.s₀.heap.get? b=some o->b∉X.ex->b∉ch:=fun b o e hx hb=>by
  rcases (hch b hb).1 with z | z
  ·exact hx z
  ·exact absurd (Nat.lt_of_lt_of_le (Heap.lt_size e) z) (Nat.lt_irrefl _)
 have cellK:∀x c,X.env.cells.lookup x=some c->∀v,s.heap.IsCell c v->h'.IsCell c v:=fun x c e v ⟨o,ho,hd⟩=>by
  have nch:c∉ch:=fun z=>(hch c z).2.2.1 x c e rfl
  by_cases hc:c∈X.fs
  ·obtain ⟨sl,q⟩:=slot c o (I.cne x c e) hc nch ho (I.freeC x c e)
   exact ⟨_,q,hd⟩
  ·exact ⟨o,keep c o (I.cne x c e) hc nch ho (I.freeC x c e),hd⟩
 refine ⟨I.ok,I.os,hg,⟨fun b o e n hb hx=>?_,fun b o e n hb hx=>?_,fun b o e n hx=>?_,fun b o e hx=>?_,fun b xs e=>tups b xs (I.base.tups b xs e),fun b o xs e=>frzs b o xs (I.base.frzs b o xs e),fun b ps e=>?_⟩,?_,fun x c e=>?_,?_,fun x c e=>?_,fun p hp=>?_,hok,I.len⟩
 ·exact keep b o (neL b o e) hb (neC b o e hx) (I.base.keep b o e n hb hx) (I.base.free b o e n hx)
 ·obtain ⟨sl,e1⟩:=I.base.slot b o e n hb hx
  obtain ⟨sl',e2⟩:=slot b _ (neL b o e) hb (neC b o e hx) e1 (I.base.free b o e n hx)
  exact ⟨sl',e2⟩
 ·obtain ⟨o',e1⟩:=I.base.there b o e hx
  exact free b o' (neC b o e hx) e1 (I.base.free b o e n hx)
 ·obtain ⟨o',e1⟩:=I.base.there b o e hx
  exact there b o' (neC b o e hx) e1
 ·obtain ⟨m1,e1⟩:=I.base.tbls b ps e
  obtain ⟨m2,e2⟩:=tbls b _ e1
  exact ⟨m1 ++ m2,by rw [e2,Array.append_assoc]⟩
 ·obtain ⟨m,hn,hl⟩:=I.loc
  refine ⟨m,ns m hn,fun i x v e1 e2 e3=>?_⟩
  obtain ⟨u,r,l⟩:=hl i x v e1 e2 e3
  refine ⟨u,r,?_⟩
  rcases l with l | ⟨k,c,e,z⟩
  ·exact .inl l
  ·exact .inr ⟨k,c,e,cellK x c e _ z⟩
 ·obtain ⟨v,z⟩:=I.cell x c e
  exact ⟨v,cellK x c e v z⟩
 ·obtain ⟨m,⟨o,_,_,ho,_⟩,_⟩:=I.loc
  exact free _ o (fun z=>(hch _ z).2.1 rfl) ho I.free
 ·obtain ⟨v,o,ho,hd⟩:=I.cell x c e
  exact free c o (fun z=>(hch c z).2.2.1 x c e rfl) ho (I.freeC x c e)
 ·obtain ⟨e,n,ne,nf,d⟩:=I.pin p hp
  have nch:p.1∉ch:=fun z=>(hch p.1 z).2.2.2 p hp rfl
  exact ⟨keep p.1 p.2 ne nf nch e n,free p.1 p.2 nch e n,ne,nf,d⟩
theorem Inv.un(I:Inv X pins σ H s)(u:Un X.fs [] H H' s.heap h')(hok:HOk X.prog X.w H' h'):Inv X pins σ H' {s with heap:=h',toks:=t'}:=by
 obtain ⟨m,⟨o,es,ep,ho,r⟩,_⟩:=id I.loc
 obtain ⟨sl,hL⟩:=u.any ho I.free (by simp)
 exact I.step (g':=s.gens) (d':=s.drawn) (ch:=[]) (fun _ z=>nomatch z) (fun b o _ hb _ e n=>u.keep b o e n hb (by simp)) (fun b o _ hb _ e n=>u.slot b o e n hb (by simp)) (fun b o _ e n=>u.free b o e n (by simp)) (fun b o _ e=>u.there b o e (by simp)) u.tups u.frzs u.tbls (fun m' hm=>by
  obtain ⟨o',es',ep',ho',r'⟩:=hm
  rw [ho] at ho';cases ho'
  exact ⟨_,es',ep',hL,r'⟩) hok I.bare
theorem Inv.call{g':Array GenState}{t':Nat}{d':Drawn}{ch:List Addr}(I:Inv X pins σ H s)(u:Un (frs X.stack) ch H H' s.heap h')(hok:HOk X.prog X.w H' h')(hg:AllBare g')
  (hch:∀b∈ch,(b∈X.ex\/X.s₀.heap.objs.size<=b)/\b≠X.env.locals/\(∀x c,X.env.cells.lookup x=some c->c≠b)/\∀p∈X.pn ++ pins,p.1≠b) :
  Inv X pins σ H' {s with heap:=h',gens:=g',drawn:=d',toks:=t'}:=by
 obtain ⟨m,⟨o,es,ep,ho,r⟩,_⟩:=id I.loc
 obtain ⟨sl,hL⟩:=u.any ho I.free fun z=>(hch _ z).2.1 rfl
 exact I.step (ch:=ch) hch (fun b o hL hb hc e n=>u.keep b o e n (fun z=>(List.mem_cons.mp (I.stkSub b z)).elim hL hb) hc) (fun b o _ _ hc e n=>u.any e n hc) (fun b o hc e n=>u.free b o e n hc) (fun b o hc e=>u.there b o e hc) u.tups u.frzs u.tbls (fun m' hm=>by
  obtain ⟨o',es',ep',ho',r'⟩:=hm
  rw [ho] at ho';cases ho'
  exact ⟨_,es',ep',hL,r'⟩) hok hg
theorem Inv.turned{it:Addr}(I:Inv X pins σ H s)(k:∀b o,b≠it->s.heap.get? b=some o->h'.get? b=some o)(hn:H it=none)(hL:it≠X.env.locals)
 (h1:it∈X.ex\/X.s₀.heap.objs.size<=it) (h2:∀x c,X.env.cells.lookup x=some c->c≠it) (h3:∀p∈X.pn ++ pins,p.1≠it):Inv X pins σ H {s with heap:=h',toks:=t'}:=by
 have nit:∀b u,H b=some u->b≠it:=fun b u e z=>by rw [z,hn] at e;cases e
 refine I.step (g':=s.gens) (d':=s.drawn) (ch:=[it]) (fun b hb=>?_) (fun b o _ _ hc e _=>k b o (fun z=>hc (by simp [z])) e) (fun b o _ _ hc e _=>⟨o.slots,k b o (fun z=>hc (by simp [z])) e⟩) (fun _ _ _ _ n=>n)
  (fun b o hc e=>⟨o,k b o (fun z=>hc (by simp [z])) e⟩) (fun _ _ e=>e) (fun _ _ _ e=>e) (fun b ps e=>⟨#[],by rw [e];simp⟩) (fun m hm=>?_) (fun b u e=>?_) I.bare
 ·have e:b=it:=by simpa using hb
  subst e
  exact ⟨h1,hL,h2,h3⟩
 ·obtain ⟨o,es,ep,ho,r⟩:=hm
  exact ⟨o,es,ep,k _ o (Ne.symm hL) ho,r⟩
 ·refine (I.hok b u e).stay (fun c v hc q=>k c v ?_ q) (fun _ q=>q) fun _ _ q=>q
  rcases hc with z | z
  ·rw [z];exact nit b u e
  ·exact nit c _ z
theorem Inv.tok(I:Inv X pins σ H s)(t:Nat):Inv X pins σ H {s with toks:=t}:=I.un (h':=s.heap) (t':=t) Un.refl I.hok
theorem Inv.kept(I:Inv X pins σ H s)(k:∀b u,s.heap.get? b=some u->h'.get? b=some u):Inv X pins σ H {s with heap:=h',toks:=t'}:=I.un (Un.kept k) (I.hok.kept k)
theorem Inv.laid{a:Addr}{o:HO}{t':Nat}(I:Inv X pins σ H s)(k:∀b u,s.heap.get? b=some u->h'.get? b=some u)(hp:s.heap.objs.size<=a)(new:ObjOk X.prog X.w (upd H a o) h' a o):
  Inv X pins σ (upd H a o) {s with heap:=h',toks:=t'}:=I.un (Un.laid k hp (I.hok.fresh hp)) (I.hok.laid k hp new)
theorem Inv.write{x e:Addr}{o:HO}(I:Inv X pins σ H s)(mu:Mut (H x))(he:e=x\/H e=some (.own x))(k:∀b u,b≠e->s.heap.get? b=some u->h'.get? b=some u)(heo:∃u,h'.get? e=some u)
 (new:ObjOk X.prog X.w (upd H x o) h' x o):Inv X pins σ (upd H x o) {s with heap:=h',toks:=t'}:=I.un (Un.write mu he k heo) (I.hok.write mu he k heo new)
theorem Inv.pins_of{pins':List (Addr×Obj)}(I:Inv X pins σ H s)(h:∀p∈pins',s.heap.get? p.1=some p.2/\H p.1=none/\p.1≠X.env.locals/\p.1∉X.fs/\∀v,p.2.data≠.cell v):Inv X pins' σ H s:=
 ⟨I.ok,I.os,I.bare,I.base,I.loc,I.cell,I.free,I.freeC,fun p hp=>(List.mem_append.mp hp).elim (fun z=>I.pin p (List.mem_append_left _ z)) (h p),I.hok,I.len⟩
theorem oj{N:List Str}(hN:N.Nodup){i j:Nat}{x:Str}(a:N[i]?=some x)(b:N[j]?=some x):i=j:=by
 obtain ⟨h1,e1⟩:=List.getElem?_eq_some_iff.mp a
 obtain ⟨h2,e2⟩:=List.getElem?_eq_some_iff.mp b
 exact (List.getElem_inj hN).mp (e1.trans e2.symm)
theorem uL{M:Model}{A:Around}{E:Value->Shared->Prop}{i:Nat}{x:Str}{v:V}{u:Value}{Q:Unit->Shared->Prop}(I:Inv X pins σ H s)(hN:X.N.Nodup)(hi:X.N[i]?=some x)(hx:Loc X.env.scope x)(r:RelV v u)
 (h:∀s',Inv X pins (σ.set i (some v)) H s'->(∃a,Heap.SameBut a s.heap s'.heap/\(a=X.env.locals\/X.env.cells.lookup x=some a))->Q () s') (hf:X.fn x=true\/X.env.scope.names.lookup x=some .local:=by first | exact .inl rfl | exact .inr rfl | assumption):wpAny M A (storeName X.env x u) Q E s:=by
 obtain ⟨m,hn,hl⟩:=id I.loc
 have hcls:(X.env.scope.kind == .class || (X.env.scope.kind == .module && X.env.locals != X.env.globals))=false:=by rw [I.ok.kind];rfl
 have hiσ:i < σ.length:=by rw [I.len];exact (List.getElem?_eq_some_iff.mp hi).1
 have cne:=I.cne
 have tracked:∀{a:Addr} {h':Heap},(∃o,s.heap.get? a=some o/\H a=none)->Heap.SameBut a s.heap h'->HOk X.prog X.w H h':=fun {a h'} ha hs b ob e=>by
  obtain ⟨_,_,hfree⟩:=ha
  refine (I.hok b ob e).stay (fun c w' hc q=>(hs.2 c ?_).trans q) (fun _ q=>q) fun _ _ q=>q
  rintro rfl
  rcases hc with rfl | hc
  ·rw [hfree] at e;cases e
  ·rw [hfree] at hc;cases hc
 rcases hx with hk | hk
 ·refine wpAny_storeName_local hk hn (fun h' hn' hs=>?_) hcls
  obtain ⟨oL,_,_,hoL,_⟩:=id hn
  refine h _ ⟨I.ok,I.os,I.bare,⟨fun b o e n hb hx=>?_,fun b o e n hb hx=>?_,I.base.free,fun b o e hx=>?_,I.base.tups,I.base.frzs,I.base.tbls⟩,⟨_,hn',fun j y v' e1 e2 e3=>?_⟩,fun y c e=>?_,I.free,I.freeC,fun p hp=>?_,tracked ⟨oL,hoL,I.free⟩ hs,by simpa using I.len⟩ ⟨_,hs,.inl rfl⟩
  ·exact (hs.2 b (Nat.ne_of_lt (Nat.lt_of_lt_of_le (Heap.lt_size e) I.ok.above))).trans (I.base.keep b o e n hb hx)
  ·obtain ⟨sl,e1⟩:=I.base.slot b o e n hb hx
   exact ⟨sl,(hs.2 b (Nat.ne_of_lt (Nat.lt_of_lt_of_le (Heap.lt_size e) I.ok.above))).trans e1⟩
  ·obtain ⟨o',e1⟩:=I.base.there b o e hx
   exact ⟨o',(hs.2 b (Nat.ne_of_lt (Nat.lt_of_lt_of_le (Heap.lt_size e) I.ok.above))).trans e1⟩
  ·by_cases hj:j=i
   ·subst hj
    rw [hi] at e1;cases e1
    rw [List.getElem?_set_self hiσ] at e2
    cases e2
    exact ⟨u,r,.inl ⟨hk,by simp⟩⟩
   ·rw [List.getElem?_set_ne (Ne.symm hj)] at e2
    obtain ⟨u',r',q⟩:=hl j y v' e1 e2 e3
    refine ⟨u',r',?_⟩
    rcases q with ⟨k,e⟩ | ⟨k,c,e,z⟩
    ·refine .inl ⟨k,?_⟩
     have:y≠x:=fun e=>hj (oj hN e1 (e ▸ hi))
     simp [this,e]
    ·exact .inr ⟨k,c,e,z.sameBut hs (cne y c e)⟩
  ·obtain ⟨w',z⟩:=I.cell y c e
   exact ⟨w',z.sameBut hs (cne y c e)⟩
  ·obtain ⟨e,n,ne,nf,d⟩:=I.pin p hp
   exact ⟨(hs.2 p.1 ne).trans e,n,ne,nf,d⟩
 ·have hfn:X.fn x=true:=by
   rcases hf with z | z
   ·exact z
   ·rw [z] at hk;cases hk
  obtain ⟨c,hc⟩:=I.ok.has x (.inl hk)
  obtain ⟨w',z⟩:=I.cell x c hc
  refine wpAny_storeName_cell I.ok.kind hk hc z (fun h' hc' hs=>?_)
  obtain ⟨oc,hoc,hocd⟩:=id z
  refine h {s with heap:=h'} ⟨I.ok,I.os,I.bare,⟨fun b o e n hb hx=>?_,fun b o e n hb hx=>?_,I.base.free,fun b o e hx=>?_,I.base.tups,I.base.frzs,I.base.tbls⟩,⟨m,hn.sameBut hs (Ne.symm (cne x c hc)),fun j y v' e1 e2 e3=>?_⟩,fun y c' e=>?_,I.free,I.freeC,fun p hp=>?_,tracked ⟨oc,hoc,I.freeC x c hc⟩ hs,by simpa using I.len⟩ ⟨c,hs,.inr hc⟩
  ·exact (hs.2 b (Nat.ne_of_lt (Nat.lt_of_lt_of_le (Heap.lt_size e) (I.ok.cab x c hfn hc)))).trans (I.base.keep b o e n hb hx)
  ·obtain ⟨sl,e1⟩:=I.base.slot b o e n hb hx
   exact ⟨sl,(hs.2 b (Nat.ne_of_lt (Nat.lt_of_lt_of_le (Heap.lt_size e) (I.ok.cab x c hfn hc)))).trans e1⟩
  ·obtain ⟨o',e1⟩:=I.base.there b o e hx
   exact ⟨o',(hs.2 b (Nat.ne_of_lt (Nat.lt_of_lt_of_le (Heap.lt_size e) (I.ok.cab x c hfn hc)))).trans e1⟩
  ·by_cases hj:j=i
   ·subst hj
    rw [hi] at e1;cases e1
    rw [List.getElem?_set_self hiσ] at e2
    cases e2
    exact ⟨u,r,.inr ⟨.inl hk,c,hc,hc'⟩⟩
   ·rw [List.getElem?_set_ne (Ne.symm hj)] at e2
    obtain ⟨u',r',q⟩:=hl j y v' e1 e2 e3
    refine ⟨u',r',?_⟩
    rcases q with q | ⟨k,c',e,z'⟩
    ·exact .inl q
    ·refine .inr ⟨k,c',e,z'.sameBut hs ?_⟩
     rintro rfl
     exact hj (oj hN e1 (I.ok.inj _ _ _ e hc ▸ hi))
  ·by_cases hcc:c'=c
   ·subst hcc;exact ⟨_,hc'⟩
   ·obtain ⟨w2,z2⟩:=I.cell y c' e
    exact ⟨w2,z2.sameBut hs hcc⟩
  ·obtain ⟨e,n,ne,nf,d⟩:=I.pin p hp
   refine ⟨(hs.2 p.1 ?_).trans e,n,ne,nf,d⟩
   intro q
   rw [q,hoc] at e
   have q':oc=p.2:=Option.some.inj e
   exact d w' (by rw [<- q'];exact hocd)
theorem pW{M:Model}{A:Around}{E:Value->Shared->Prop}{i:Nat}{x:Str}{v:V}{u:Value}{Q:Unit->Shared->Prop}(I:Inv X pins σ H s)(hN:X.N.Nodup)(hi:X.N[i]?=some x)(hx:Loc X.env.scope x)(r:RelV v u)
 (h:∀s',Inv X pins (σ.set i (some v)) H s'->Q () s') (hf:X.fn x=true\/X.env.scope.names.lookup x=some .local:=by first | exact .inl rfl | exact .inr rfl | assumption):wpAny M A (storeName X.env x u) Q E s:=
 uL I hN hi hx r (fun s' I' _=>h s' I') hf
theorem Inv.call'{s':Shared}{ch:List Addr}(I:Inv X pins σ H s)(ho:s'.os=s.os)(u:Un (frs X.stack) ch H H' s.heap s'.heap)(hok:HOk X.prog X.w H' s'.heap)(hg:AllBare s'.gens)
 (hch:∀b∈ch,(b∈X.ex\/X.s₀.heap.objs.size<=b)/\b≠X.env.locals/\(∀x c,X.env.cells.lookup x=some c->c≠b)/\∀p∈X.pn ++ pins,p.1≠b):Inv X pins σ H' s':=by
 obtain ⟨h',g',d',t',o'⟩:=s'
 have e:o'=s.os:=ho
 subst e
 exact I.call (g':=g') (t':=t') (d':=d') u hok hg hch
end
abbrev XK:=Value->Option Addr->Hp->Prop
abbrev St:=List (Option V)
abbrev VK:=V->Hp->Prop
abbrev TE:=St->Hp->VK->Prop
abbrev TT:=St->Hp->(Bool->Hp->Prop)->Prop
abbrev TA:=St->Hp->(List V->Hp->Prop)->Prop
structure cA where
 nx:St->Hp->Prop
 rt:VK
 bk:St->Hp->Prop:=fun _ _=>False
 ct:St->Hp->Prop:=fun _ _=>False
abbrev TS:=cA->St->Hp->Prop
def EP(X:Cx)(pins:List (Addr×Obj))(σ:St)(Q:VK)(u:Value)(s':Shared):Prop:=∃v H',Inv X pins σ H' s'/\RelV v u/\Q v H'
def TP(X:Cx)(pins:List (Addr×Obj))(σ:St)(Q:Bool->Hp->Prop)(b:Bool)(s':Shared):Prop:=∃H',Inv X pins σ H' s'/\Q b H'
def AP(X:Cx)(pins:List (Addr×Obj))(σ:St)(Q:List V->Hp->Prop)(us:List Value)(s':Shared):Prop:=∃vs H',Inv X pins σ H' s'/\Vals vs us/\Q vs H'
def SP(X:Cx)(pins:List (Addr×Obj))(D:cA)(f:Flow)(s':Shared):Prop:=
 match f with
 | .next=>∃σ' H',Inv X pins σ' H' s'/\D.nx σ' H'
 | .brk=>∃σ' H',Inv X pins σ' H' s'/\D.bk σ' H'
 | .cont=>∃σ' H',Inv X pins σ' H' s'/\D.ct σ' H'
 | .ret u=>∃v σ' H',Inv X pins σ' H' s'/\RelV v u/\D.rt v H'
def PE(X:Cx)(e:Expr)(t:TE):Prop:=
 ∀(pins:List (Addr×Obj)) (s:Shared) (σ:St) (H:Hp) (Q:VK),Inv X pins σ H s->t σ H Q->wpAny (model X.prog X.w) X.A (eval e X.env) (EP X pins σ Q) X.xe s
def PT(X:Cx)(e:Expr)(t:TT):Prop:=
 ∀(pins:List (Addr×Obj)) (s:Shared) (σ:St) (H:Hp) (Q:Bool->Hp->Prop),Inv X pins σ H s->t σ H Q->wpAny (model X.prog X.w) X.A (isTrue e X.env (eval e X.env)) (TP X pins σ Q) X.xe s
def PW(X:Cx)(e:Expr)(t:TT):Prop:=
 ∀(whole:Sem Value)(pins:List (Addr×Obj)) (s:Shared) (σ:St) (H:Hp) (Q:Bool->Hp->Prop),Inv X pins σ H s->t σ H Q->wpAny (model X.prog X.w) X.A (isTrue e X.env whole) (TP X pins σ Q) X.xe s
theorem PW.pt{X:Cx}{e:Expr}{t:TT}(h:PW X e t):PT X e t:=h _
def PA(X:Cx)(es:List Expr)(t:TA):Prop:=
 ∀(pos:Pos)(pins:List (Addr×Obj)) (s:Shared) (σ:St) (H:Hp) (Q:List V->Hp->Prop),Inv X pins σ H s->t σ H Q->wpAny (model X.prog X.w) X.A (spliced (backTo pos (starEach es X.env))) (AP X pins σ Q) X.xe s
def PS(X:Cx)(st:Stmt)(t:TS):Prop:=
 ∀(pins:List (Addr×Obj)) (s:Shared) (σ:St) (H:Hp) (D:cA),Inv X pins σ H s->t D σ H->wpAny (model X.prog X.w) X.A (exec st X.env) (SP X pins D) X.xe s
def PSs(X:Cx)(st:List Stmt)(t:TS):Prop:=
 ∀(pins:List (Addr×Obj)) (s:Shared) (σ:St) (H:Hp) (D:cA),Inv X pins σ H s->t D σ H->wpAny (model X.prog X.w) X.A (execs st X.env) (SP X pins D) X.xe s
theorem thn{α:Type}{t:Sem α}{Q Q':α->Shared->Prop}{M:Model}{A:Around}{E:Value->Shared->Prop}{s:Shared}(h:wpAny M A t Q E s)(hQ:∀a s,Q a s->Q' a s):wpAny M A t Q' E s:=wpAny_mono h hQ fun _ _ x=>x
end L2
variable {u:Value}
namespace L2
open PySem PySem.Spec PyProof.Rows
section
variable {X:Cx}
theorem bin{a b:Expr}{ta tb:TE}(ha:PE X a ta)(hb:PE X b tb){pins:List (Addr×Obj)}{s:Shared}{σ:St}{H:Hp}{R:V->V->Hp->Prop}(I:Inv X pins σ H s)(h:ta σ H fun x H1=>tb σ H1 fun y H2=>R x y H2)
  {α:Type} {Q:α->Shared->Prop} {f:Value->Value->Sem α}
  (hf:∀v u s2 x y H2,Inv X pins σ H2 s2->RelV x v->RelV y u->R x y H2->wpAny (model X.prog X.w) X.A (f v u) Q X.xe s2) :
  wpAny (model X.prog X.w) X.A (eval a X.env) (fun v s₁=>wpAny (model X.prog X.w) X.A (eval b X.env) (fun u s₂=>wpAny (model X.prog X.w) X.A (f v u) Q X.xe s₂) X.xe s₁) X.xe s:=by
 refine thn (ha pins s σ H _ I h) fun v s1 hhx=>?_
 obtain ⟨x,H1,I1,r1,q1⟩:=hhx
 refine thn (hb pins s1 σ H1 _ I1 q1) fun u s2 hhx=>?_
 obtain ⟨y,H2,I2,r2,q2⟩:=hhx
 exact hf v u s2 x y H2 I2 r1 r2 q2
def Cc(i:Nat):TE:=fun σ H Q=>∃v,σ[i]?=some (some v)/\Q v H
def tC(v:V):TE:=fun _ H Q=>Q v H
theorem Bw{i:Nat}{x:Str}{pos:Pos}(hN:X.N[i]?=some x)(hv:Vis X.env.scope x)(hd:(x == ("__debug__":Str))=false:=by decide) (hcd:(x == ("__classdict__":Str))=false:=by decide):PE X (.Name x pos) (Cc i):=by
 intro pins s σ H Q I h
 obtain ⟨v,e,h⟩:=h
 obtain ⟨m,hn,hl⟩:=I.loc
 obtain ⟨u,r,l⟩:=hl i x v hN e hv
 have fin:EP X pins σ Q u s:=⟨v,H,I,r,h⟩
 rcases l with ⟨hk,hm⟩ | ⟨hk,c,hc,hcell⟩
 ·exact wpAny_Name (wpAny_loadName_local I.ok.kind hk hn hm fin) hd
 ·rcases hk with hk | hk
  ·exact wpAny_Name (wpAny_loadName_cell I.ok.kind hk hc hcell fin) hd
  ·exact wpAny_Name (wpAny_loadName_free I.ok.kind hk hc hcell fin hcd) hd
theorem wn{i j pos}:PE X (.Constant (.int i) j pos) (tC (.int i)):=fun _ _ _ H _ I h=>wpAny_Constant_int ⟨.int i,H,I.tok _,⟨_,rfl⟩,h⟩
theorem A7{b j pos}:PE X (.Constant (.bool b) j pos) (tC (.bl b)):=fun _ _ _ H _ I h=>Constant_bool ⟨.bl b,H,I,rfl,h⟩
theorem wu{j pos}:PE X (.Constant .none j pos) (tC .non):=fun _ _ _ H _ I h=>Constant_none ⟨.non,H,I,rfl,h⟩
theorem ww{x j pos}:PE X (.Constant (.str x) j pos) (tC (.str x)):=fun _ _ _ H _ I h=>Calls.Constant_str ⟨.str x,H,I.tok _,⟨_,rfl⟩,h⟩
def Gl(X:Cx)(x:Str):Prop:=X.env.kindOf x=some .globalImplicit
theorem gi{E:Value->Shared->Prop}{pins:List (Addr×Obj)}{s:Shared}{σ:St}{H:Hp}{x:Str}{u:Value}{pos:Pos}{Q:Value->Shared->Prop}(I:Inv X pins σ H s)(hg:Gl X x)(hm:X.mg x=some u)(h:Q u s)
 (hd:(x == ("__debug__":Str))=false:=by decide):wpAny (model X.prog X.w) X.A (eval (.Name x pos) X.env) Q E s:=
 Calls.Name_function_global I.ok.kind hg (Calls.loadGlobal_global (by rw [I.ok.glob];exact I.mod.glob.keeps I.bk) hm h) hd
theorem df{E:Value->Shared->Prop}{pins:List (Addr×Obj)}{s:Shared}{σ:St}{H:Hp}{x:Str}{u:Value}{pos:Pos}{Q:Value->Shared->Prop}(I:Inv X pins σ H s)(hg:Gl X x)(hm:X.mg x=none)(hv:bootBuiltins x=some u)(h:Q u s)
 (hn:x≠"__name__":=by decide) (hd:(x == ("__debug__":Str))=false:=by decide):wpAny (model X.prog X.w) X.A (eval (.Name x pos) X.env) Q E s:=by
 obtain ⟨mb,h1,h2⟩:=I.mod.blt
 exact Calls.Name_function_global I.ok.kind hg (Calls.loadGlobal_builtin (by rw [I.ok.glob];exact I.mod.glob.keeps I.bk) hm (by rw [I.ok.blt];exact h1.keeps I.bk) ((h2 x hn).trans hv) h) hd
theorem zm{x:Str}{v:V}{pos:Pos}(hg:Gl X x)(hm:X.mg x=some u)(r:RelV v u)(hd:(x == ("__debug__":Str))=false:=by decide):PE X (.Name x pos) (tC v):=
 fun _ _ _ H _ I h=>gi I hg hm ⟨v,H,I,r,h⟩ hd
theorem zi{x:Str}{v:V}{pos:Pos}(hg:Gl X x)(hm:X.mg x=none)(hv:bootBuiltins x=some u)(r:RelV v u)(hn:x≠"__name__":=by decide) (hd:(x == ("__debug__":Str))=false:=by decide):PE X (.Name x pos) (tC v):=
 fun _ _ _ H _ I h=>df I hg hm hv ⟨v,H,I,r,h⟩ hn hd
variable {a b:Expr} {ta tb:TE} {pos:Pos}
def PC(X:Cx)(op:CmpOp)(a b:Expr)(t:TE):Prop:=
 ∀(pins:List (Addr×Obj)) (s:Shared) (σ:St) (H:Hp) (Q:VK),Inv X pins σ H s->t σ H Q->
  wpAny (model X.prog X.w) X.A (eval a X.env) (fun v s₁=>wpAny (model X.prog X.w) X.A (eval b X.env) (fun u s₂=>wpAny (model X.prog X.w) X.A (compareOp op v u) (EP X pins σ Q) X.xe s₂) X.xe s₁) X.xe s
theorem oi(b:Expr){op:CmpOp}(h:op≠.In)(h2:op≠.NotIn):behindInMarks op b=false:=by
 have e1:(op == CmpOp.In)=false:=by cases op <;> first | rfl | exact absurd rfl h
 have e2:(op == CmpOp.NotIn)=false:=by cases op <;> first | rfl | exact absurd rfl h2
 cases b <;> simp [behindInMarks,e1,e2]
def tB(t:TE):TT:=fun σ H Q=>t σ H fun x H1=>∃c,x=.bl c/\Q c H1
theorem BK{op:CmpOp}{t:TE}(h:PC X op a b t)(h1:behindInMarks op b=false:=by first | exact oi _ (by decide) (by decide) | rfl):PT X (.Compare a [op] [b] pos) (tB t):=by
 intro pins s σ H Q I hw
 refine wpAny_isTrue_Compare1 (thn (h pins s σ H _ I hw) fun v s1 h1=>thn h1 fun u s2 h2=>thn h2 fun c s3 hhx=>?_) h1
 obtain ⟨x,H1,I1,r1,q1⟩:=hhx
 obtain ⟨d,rfl,q⟩:=q1
 cases r1
 exact wpAny_truthy_bool ⟨H1,I1,q⟩
theorem BM{e:Expr}{t:TE}(h:PE X e t)(he:∀whole,isTrue e X.env whole=(do let v <- whole;standAt e.pos;holding [v] (truthy v)):=by intro _;rfl):PT X e (tB t):=by
 intro pins s σ H Q I hw
 refine isTrue_plain (thn (h pins s σ H _ I hw) fun v s1 hhx=>?_) (he _)
 obtain ⟨x,H1,I1,r1,q1⟩:=hhx
 obtain ⟨d,rfl,q⟩:=q1
 cases r1
 exact wpAny_truthy_bool ⟨H1,I1,q⟩
variable {tA tB':TT} {cr:List Expr}
def C1(t u:TT):TT:=fun σ H Q=>t σ H fun c H1=>if c=true then u σ H1 Q else Q false H1
def tOr(t u:TT):TT:=fun σ H Q=>t σ H fun c H1=>if c=true then Q true H1 else u σ H1 Q
def C8(t:TT):TT:=fun σ H Q=>t σ H fun c H1=>Q (!c) H1
theorem zB(ha:PT X a tA):PW X (.BoolOp .And [a] pos) tA:=by
 intro wh pins s σ H Q I h
 refine isTrue_and (thn (ha pins s σ H Q I h) fun c s1 e=>?_)
 cases c with
 | true=>exact isTrue_and_nil e
 | false=>exact e
theorem BP(ha:PT X a tA):PW X (.BoolOp .Or [a] pos) tA:=by
 intro wh pins s σ H Q I h
 refine isTrue_or (thn (ha pins s σ H Q I h) fun c s1 e=>?_)
 cases c with
 | false=>exact isTrue_or_nil e
 | true=>exact e
theorem BO(ha:PT X a tA)(hb:PW X (.BoolOp .And (b :: cr) pos) tB'):PW X (.BoolOp .And (a :: b :: cr) pos) (C1 tA tB'):=by
 intro wh pins s σ H Q I h
 refine isTrue_and (thn (ha pins s σ H _ I h) fun c s1 hhx=>?_)
 obtain ⟨H1,I1,q1⟩:=hhx
 cases c with
 | true=>exact hb wh pins s1 σ H1 Q I1 q1
 | false=>exact ⟨H1,I1,q1⟩
theorem CJ(ha:PT X a tA)(hb:PW X (.BoolOp .Or (b :: cr) pos) tB'):PW X (.BoolOp .Or (a :: b :: cr) pos) (tOr tA tB'):=by
 intro wh pins s σ H Q I h
 refine isTrue_or (thn (ha pins s σ H _ I h) fun c s1 hhx=>?_)
 obtain ⟨H1,I1,q1⟩:=hhx
 cases c with
 | true=>exact ⟨H1,I1,q1⟩
 | false=>exact hb wh pins s1 σ H1 Q I1 q1
theorem BL(ha:PT X a tA):PT X (.UnaryOp .Not a pos) (C8 tA):=by
 intro pins s σ H Q I h
 exact isTrue_not (ha pins s σ H (fun c H1=>Q (!c) H1) I h)
def xO(ta tb:TE):TE:=fun σ H Q=>ta σ H fun x H1=>∃c,x=.bl c/\if c=true then tb σ H1 Q else Q (.bl false) H1
def C9(ta tb:TE):TE:=fun σ H Q=>ta σ H fun x H1=>∃c,x=.bl c/\if c=true then Q (.bl true) H1 else tb σ H1 Q
def xW(ta:TE):TE:=fun σ H Q=>ta σ H fun x H1=>∃c,x=.bl c/\Q (.bl (!c)) H1
theorem Bu{op}{t:TE}(h:PE X a t):PE X (.BoolOp op [a] pos) t:=fun pins s σ H Q I hw=>BoolOp_one (h pins s σ H Q I hw)
theorem Bq(ha:PE X a ta)(hb:PE X (.BoolOp .And (b :: cr) pos) tb):PE X (.BoolOp .And (a :: b :: cr) pos) (xO ta tb):=by
 intro pins s σ H Q I h
 refine BoolOp_and (thn (ha pins s σ H _ I h) fun v s1 hhx=>?_)
 obtain ⟨x,H1,I1,r1,q1⟩:=hhx
 obtain ⟨c,rfl,q1⟩:=q1
 cases r1
 refine wpAny_truthy_bool ?_
 cases c with
 | true=>exact hb pins s1 σ H1 Q I1 q1
 | false=>exact ⟨.bl false,H1,I1,rfl,q1⟩
theorem CG(ha:PE X a ta)(hb:PE X (.BoolOp .Or (b :: cr) pos) tb):PE X (.BoolOp .Or (a :: b :: cr) pos) (C9 ta tb):=by
 intro pins s σ H Q I h
 refine BoolOp_or (thn (ha pins s σ H _ I h) fun v s1 hhx=>?_)
 obtain ⟨x,H1,I1,r1,q1⟩:=hhx
 obtain ⟨c,rfl,q1⟩:=q1
 cases r1
 refine wpAny_truthy_bool ?_
 cases c with
 | false=>exact hb pins s1 σ H1 Q I1 q1
 | true=>exact ⟨.bl true,H1,I1,rfl,q1⟩
theorem Bt(ha:PE X a ta):PE X (.UnaryOp .Not a pos) (xW ta):=by
 intro pins s σ H Q I h
 refine UnaryOp_ (thn (ha pins s σ H _ I h) fun v s1 hhx=>?_)
 obtain ⟨x,H1,I1,r1,q1⟩:=hhx
 obtain ⟨c,rfl,q1⟩:=q1
 cases r1
 exact not_of (wpAny_truthy_bool ⟨.bl (!c),H1,I1,rfl,q1⟩)
def tIf(t:TT)(ta tb:TE):TE:=fun σ H Q=>t σ H fun c H1=>if c=true then ta σ H1 Q else tb σ H1 Q
theorem wm{c:Expr}(hc:PT X c tA)(ha:PE X a ta)(hb:PE X b tb):PE X (.IfExp c a b pos) (tIf tA ta tb):=by
 intro pins s σ H Q I h
 refine wpAny_IfExp (thn (hc pins s σ H _ I h) fun d s1 hhx=>?_)
 obtain ⟨H1,I1,q1⟩:=hhx
 cases d with
 | true=>exact ha pins s1 σ H1 Q I1 q1
 | false=>exact hb pins s1 σ H1 Q I1 q1
end
end L2
variable {P:Program} {X:Cx} {u:Value}
namespace L2
open PySem PySem.Spec PyProof.Rows
def SqL(K:PySem.W.Frag)(H:Hp)(a:Addr)(xs:List V):Prop:=
 Rd H a (.lst xs)\/
  ∃(o:Obj)(its:Array Value)(n:Nat),K.lookup a=some o/\o.cls=.type "list"/\o.dict=none/\o.data=.seq its n/\its.size<=sizeLine/\Vals xs its.toList
def SqT(K:PySem.W.Frag)(H:Hp)(a:Addr)(xs:List V):Prop:=
 Rd H a (.tup xs)\/
  ∃(o:Obj)(its:Array Value)(n:Nat),K.lookup a=some o/\o.cls=.type "tuple"/\o.data=.seq its n/\its.size<=sizeLine/\Vals xs its.toList
def D4:Value->Option V
 | .none=>some .non
 | .bool b=>some (.bl b)
 | .int i _=>some (.int i)
 | .str x _=>some (.str x)
 | .bytes b _=>some (.byt b)
 | .float b _=>some (.flt b)
 | .ref a=>some (.ref a)
 | .type n=>some (.ty n)
 | _=>none
theorem RelV.abs{x:V}(r:RelV x u):D4 u=some x:=by
 cases x with
 | non=>cases r;rfl
 | bl _=>cases r;rfl
 | int _=>obtain ⟨t,rfl⟩:=r;rfl
 | str _=>obtain ⟨t,rfl⟩:=r;rfl
 | byt _=>obtain ⟨t,rfl⟩:=r;rfl
 | flt _=>obtain ⟨t,rfl⟩:=r;rfl
 | ref _=>cases r;rfl
 | ty _=>cases r;rfl
theorem RelV.inj{x y:V}(r:RelV x u)(q:RelV y u):x=y:=Option.some.inj (r.abs.symm.trans q.abs)
theorem Vals.inj:∀{xs ys:List V} {us:List Value},Vals xs us->Vals ys us->xs=ys
 | _,_,_,.nil,.nil=>rfl
 | _,_,_,.cons r t,.cons r' t'=>by rw [r.inj r',Vals.inj t t']
section
variable {X:Cx} {pins:List (Addr×Obj)} {σ:St} {H:Hp} {s:Shared} {a:Addr} {xs ys:List V}
theorem SqL.of{K:PySem.W.Frag}(h:H a=some (.lst xs)):SqL K H a xs:=.inl (.inl h)
theorem SqT.of{K:PySem.W.Frag}(h:H a=some (.tup xs)):SqT K H a xs:=.inl (.inl h)
theorem Inv.list(I:Inv X pins σ H s)(h:SqL X.K H a xs):∃its:List Value,Vals xs its/\PlainL s.heap a its.toArray/\xs.length<=sizeLine:=by
 rcases h with h | ⟨o,its,n,hk,hc,hd,hs,hz,r⟩
 ·obtain ⟨z,its,n,r,e⟩:=h.ok I.hok
  exact ⟨its,r,⟨_,n,e,rfl,rfl,rfl⟩,z⟩
 ·refine ⟨its.toList,r,⟨o,n,I.kIn a o hk,hc,hd,by simpa using hs⟩,?_⟩
  have e:=r.length
  simp only [Array.length_toList] at e
  omega
theorem Inv.tuple(I:Inv X pins σ H s)(h:SqT X.K H a xs):∃its:List Value,Vals xs its/\IsTup s.heap a its.toArray/\xs.length<=sizeLine:=by
 rcases h with h | ⟨o,its,n,hk,hc,hs,hz,r⟩
 ·obtain ⟨z,its,r,p⟩:=h.ok I.hok
  exact ⟨its,r,p,z⟩
 ·refine ⟨its.toList,r,⟨o,I.kIn a o hk,hc,n,by simpa using hs⟩,?_⟩
  have e:=r.length
  simp only [Array.length_toList] at e
  omega
theorem Inv.list_inj(I:Inv X pins σ H s)(h:SqL X.K H a xs)(h':SqL X.K H a ys):xs=ys:=by
 obtain ⟨its,r,⟨o,n,e,_,_,d⟩,_⟩:=I.list h
 obtain ⟨its',r',⟨o',n',e',_,_,d'⟩,_⟩:=I.list h'
 rw [e] at e';cases e'
 rw [d] at d'
 injection d' with d1 _
 have:its=its':=by simpa using congrArg Array.toList d1
 subst this
 exact r.inj r'
theorem Inv.tuple_inj(I:Inv X pins σ H s)(h:SqT X.K H a xs)(h':SqT X.K H a ys):xs=ys:=by
 obtain ⟨its,r,⟨o,e,_,n,d⟩,_⟩:=I.tuple h
 obtain ⟨its',r',⟨o',e',_,n',d'⟩,_⟩:=I.tuple h'
 rw [e] at e';cases e'
 rw [d] at d'
 injection d' with d1 _
 have:its=its':=by simpa using congrArg Array.toList d1
 subst this
 exact r.inj r'
end
abbrev Cx.wish (X:Cx) (E:Value->Shared->Prop):Cx:={X with xe:=E}
abbrev Cx.nox (X:Cx):Cx:=X.wish fun _ _=>False
theorem Cx.Ok.wish(ok:X.Ok)(E:Value->Shared->Prop):(X.wish E).Ok:=
 ⟨ok.mod,ok.kind,ok.glob,ok.blt,ok.above,ok.inj,ok.has,ok.cab,ok.hd,ok.frames,ok.stk,ok.exf,ok.bs,ok.bsz,ok.noex,ok.exfs,ok.funs,ok.frf⟩
theorem Cx.Ok.unwish{E:Value->Shared->Prop}(ok:(X.wish E).Ok):X.Ok:=
 ⟨ok.mod,ok.kind,ok.glob,ok.blt,ok.above,ok.inj,ok.has,ok.cab,ok.hd,ok.frames,ok.stk,ok.exf,ok.bs,ok.bsz,ok.noex,ok.exfs,ok.funs,ok.frf⟩
section
variable {X:Cx} {pins:List (Addr×Obj)} {σ:St} {H:Hp} {s:Shared} {E:Value->Shared->Prop}
theorem Inv.wish(I:Inv X pins σ H s)(E:Value->Shared->Prop):Inv (X.wish E) pins σ H s:=⟨I.ok.wish E,I.os,I.bare,I.base,I.loc,I.cell,I.free,I.freeC,I.pin,I.hok,I.len⟩
theorem Inv.unwish(I:Inv (X.wish E) pins σ H s):Inv X pins σ H s:=⟨I.ok.unwish,I.os,I.bare,I.base,I.loc,I.cell,I.free,I.freeC,I.pin,I.hok,I.len⟩
theorem SP.unwish{D:cA}{f:Flow}{s':Shared}(h:SP (X.wish E) pins D f s'):SP X pins D f s':=by
 cases f with
 | next=>obtain ⟨σ',H',I,q⟩:=h;exact ⟨σ',H',I.unwish,q⟩
 | brk=>obtain ⟨σ',H',I,q⟩:=h;exact ⟨σ',H',I.unwish,q⟩
 | cont=>obtain ⟨σ',H',I,q⟩:=h;exact ⟨σ',H',I.unwish,q⟩
 | ret u=>obtain ⟨v,σ',H',I,r,q⟩:=h;exact ⟨v,σ',H',I.unwish,r,q⟩
theorem PSs.nox{st:List Stmt}{t:TS}(h:PSs X.nox st t):PSs X st t:=fun pins s σ H D I hw=>
 wpAny_mono (h pins s σ H D (I.wish _) hw) (fun _ _ q=>q.unwish) fun _ _ z=>False.elim z
end
section
variable {X:Cx} {st:Stmt} {cr:List Stmt} {t u:TS} {e:Expr} {te:TE} {pos:Pos}
def xV:TS:=fun D σ H=>D.nx σ H
def zU(t u:TS):TS:=fun D σ H=>t {D with nx:=u D} σ H
theorem zy:PSs X [] xV:=fun _ _ σ H _ I h=>wpAny_execs_nil ⟨σ,H,I,h⟩
theorem wB(h1:PS X st t)(h2:PSs X cr u):PSs X (st :: cr) (zU t u):=by
 intro pins s σ H D I h
 refine wpAny_execs_cons (thn (h1 pins s σ H {D with nx:=u D} I h) fun f s1 q=>?_)
 cases f with
 | next=>
  obtain ⟨σ',H',I',q⟩:=q
  exact h2 pins s1 σ' H' D I' q
 | ret v=>exact q
 | brk=>exact q
 | cont=>exact q
theorem zz(h1:PS X st t):PSs X [st] t:=by
 intro pins s σ H D I h
 refine wpAny_execs_cons (thn (h1 pins s σ H D I h) fun f s1 q=>?_)
 cases f with
 | next=>exact wpAny_execs_nil q
 | ret v=>exact q
 | brk=>exact q
 | cont=>exact q
def C2:TS:=fun D σ H=>D.bk σ H
def CV:TS:=fun D σ H=>D.ct σ H
theorem Inv.quiet{pins:List (Addr×Obj)}{σ:St}{H:Hp}{s:Shared}(I:Inv X pins σ H s):interactive X.env=false:=by simp [interactive,I.ok.kind]
def xS(te:TE):TS:=fun D σ H=>te σ H fun _ H1=>D.nx σ H1
theorem zw(he:PE X e te)(hs:swapsWith e none pos.line X.env=pure false:=by rfl):PS X (.Expr e pos) (xS te):=by
 intro pins s σ H D I h
 exact wpAny_Expr_any (thn (he pins s σ H _ I h) fun v s1 ⟨x,H1,I1,r1,q1⟩=>⟨σ,H1,I1,q1⟩) I.quiet hs
def uO(te:TE):TS:=fun D σ H=>te σ H D.rt
theorem BI(he:PE X e te):PS X (.Return (some e) pos) (uO te):=by
 intro pins s σ H D I h
 exact wpAny_Return_some (thn (he pins s σ H _ I h) fun v s1 ⟨x,H1,I1,r1,q1⟩=>⟨x,σ,H1,I1,r1,q1⟩)
def CY:TS:=fun D _ H=>D.rt .non H
def zS(c:TT)(t u:TS):TS:=fun D σ H=>c σ H fun b H1=>if b=true then t D σ H1 else u D σ H1
theorem CI{c:Expr}{a b:List Stmt}{tc:TT}(hc:PT X c tc)(ha:PSs X a t)(hb:PSs X b u):PS X (.If c a b pos) (zS tc t u):=by
 intro pins s σ H D I h
 refine wpAny_If (thn (hc pins s σ H _ I h) fun d s1 hhx=>?_)
 obtain ⟨H1,I1,q1⟩:=hhx
 cases d with
 | true=>exact ha pins s1 σ H1 D I1 q1
 | false=>exact hb pins s1 σ H1 D I1 q1
end
abbrev TG:=V->St->Hp->(St->Hp->Prop)->Prop
abbrev TGs:=List V->St->Hp->(St->Hp->Prop)->Prop
def PG(X:Cx)(target:Expr)(t:TG):Prop:=
 ∀(pins:List (Addr×Obj)) (s:Shared) (σ:St) (H:Hp) (v:V) (u:Value) (Q:St->Hp->Prop),Inv X pins σ H s->RelV v u->t v σ H Q->
  wpAny (model X.prog X.w) X.A (assign target X.env u) (fun _ s'=>∃σ' H',Inv X pins σ' H' s'/\Q σ' H') X.xe s
def PGs(X:Cx)(ts:List Expr)(t:TGs):Prop:=
 ∀(pins:List (Addr×Obj)) (s:Shared) (σ:St) (H:Hp) (vs:List V) (us:List Value) (Q:St->Hp->Prop),Inv X pins σ H s->Vals vs us->t vs σ H Q->
  wpAny (model X.prog X.w) X.A (assignInOrder ((assignEach ts X.env).map (·.2)) us) (fun _ s'=>∃σ' H',Inv X pins σ' H' s'/\Q σ' H') X.xe s
abbrev uZ:=V->V->V->Hp->(Hp->Prop)->Prop
def AS(X:Cx)(t:uZ):Prop:=
 ∀(pins:List (Addr×Obj)) (s:Shared) (σ:St) (H:Hp) (o i v:V) (ov iv u:Value) (Q:Hp->Prop),Inv X pins σ H s->RelV o ov->RelV i iv->RelV v u->t o i v H Q->
  wpAny (model X.prog X.w) X.A (setItem ov iv u) (fun _ s'=>∃H',Inv X pins σ H' s'/\Q H') X.xe s
section
variable {X:Cx} {pos:Pos}
def aQ(i:Nat):TG:=fun v σ H Q=>Q (σ.set i (some v)) H
theorem sy{i:Nat}{x:Str}(hN:X.N.Nodup)(hi:X.N[i]?=some x)(hx:Loc X.env.scope x)(hf:X.fn x=true\/X.env.scope.names.lookup x=some .local:=by first | exact .inl rfl | exact .inr rfl | assumption):PG X (.Name x pos) (aQ i):=by
 intro pins s σ H v u Q I r h
 exact wpAny_assign_Name (pW I hN hi hx r (fun s' I'=>⟨_,H,I',h⟩) hf)
def AY:TGs:=fun vs σ H Q=>vs=[]/\Q σ H
def vo(t:TG)(u:TGs):TGs:=fun vs σ H Q=>∃v r,vs=v :: r/\t v σ H fun σ' H'=>u r σ' H' Q
theorem zo:PGs X [] AY:=by
 intro pins s σ H vs us Q I r h
 obtain ⟨e,h⟩:=h
 subst e
 cases r
 exact assignInOrder_nil ⟨σ,H,I,h⟩
theorem wx{e:Expr}{es:List Expr}{t:TG}{u:TGs}(h1:PG X e t)(h2:PGs X es u)
 (hs:(assignEach (e :: es) X.env).map (·.2)=assign e X.env :: (assignEach es X.env).map (·.2):=by rfl):PGs X (e :: es) (vo t u):=by
 intro pins s σ H vs us Q I r h
 obtain ⟨v,vr,e1,h⟩:=h
 subst e1
 cases r with
 | cons r rr=>
  rw [hs]
  refine assignInOrder_cons (thn (h1 pins s σ H _ _ _ I r h) fun _ s1 hhx=>?_)
  obtain ⟨σ1,H1,I1,q1⟩:=hhx
  exact h2 pins s1 σ1 H1 _ _ Q I1 rr q1
def B0(K:PySem.W.Frag)(n:Nat)(t:TGs):TG:=fun v σ H Q=>∃a xs,v=.ref a/\SqT K H a xs/\xs.length=n/\t xs σ H Q
theorem BA{es:List Expr}{k:Nat}{t:TGs}{n:Nat}(hc:X.calm=true)(h:PGs X es t)
 (hn:(assignEach es X.env).length=n:=by rfl) (hst:(assignEach es X.env).findIdx? (·.1)=none:=by rfl):PG X (.Tuple es k pos) (B0 X.K n t):=by
 intro pins s σ H v u Q I r hw
 obtain ⟨a,xs,e1,hq,hl,hw⟩:=hw
 subst e1
 cases r
 obtain ⟨its,rv,ht,hz⟩:=I.tuple hq
 refine assign_Tuple_tuple (I.ok.hd hc) ht (by simp [hn,<- hl,rv.length]) hst fun h' hx=>?_
 have I1:Inv X pins σ H {s with heap:=h'}:=I.kept (t':=s.toks) fun b o e=>hx b o (Nat.ne_of_lt (Heap.lt_size e)) e
 exact h pins _ σ H xs _ Q I1 (by simpa using rv) hw
def AZ(to ti:TE)(t:uZ):TG:=fun v σ H Q=>to σ H fun o H1=>ti σ H1 fun i H2=>t o i v H2 fun H3=>Q σ H3
theorem Bz{o i:Expr}{to ti:TE}{t:uZ}(ho:PE X o to)(hi:PE X i ti)(hs:AS X t)
 (ha:∀v,assign (.Subscript o i pos) X.env v=(do
 let ov <- holding [v] (eval o X.env)
 let iv <- holding [v,ov] (eval i X.env)
 standAt pos
 holding [v,ov,iv] (setItem ov iv v)
 release [v,ov,iv] []):=by intro _;rfl):PG X (.Subscript o i pos) (AZ to ti t):=by
 intro pins s σ H v u Q I r h
 rw [ha]
 refine wpAny_bind (wpAny_holding (thn (ho pins s σ H _ I h) fun ov s1 hhx=>?_))
 obtain ⟨x,H1,I1,r1,q1⟩:=hhx
 refine wpAny_bind (wpAny_holding (thn (hi pins s1 σ H1 _ I1 q1) fun iv s2 hhx=>?_))
 obtain ⟨y,H2,I2,r2,q2⟩:=hhx
 refine wpAny_bind (wpAny_standAt (wpAny_bind (wpAny_holding (thn (hs pins s2 σ H2 x y v ov iv u _ I2 r1 r2 r q2) fun _ s3 hhx=>?_))))
 obtain ⟨H3,I3,q3⟩:=hhx
 exact wpAny_release ⟨σ,H3,I3,q3⟩
def xP(te:TE)(g:TG):TS:=fun D σ H=>te σ H fun x H1=>g x σ H1 D.nx
theorem BF{tg e:Expr}{te:TE}{g:TG}(he:PE X e te)(hg:PG X tg g)(hs:swapsWithSole [tg] e pos.line X.env=pure false:=by rfl)(hw:swappedStores [tg] e X.env=pure none:=by rfl)
 (h1:(assignEach [tg] X.env).map (·.2)=[assign tg X.env]:=by rfl):PS X (.Assign [tg] e pos) (xP te g):=by
 intro pins s σ H D I h
 refine wpAny_Assign_stores (thn (he pins s σ H _ I h) fun v s1 hhx=>?_) hs hw
 obtain ⟨x,H1,I1,r1,q1⟩:=hhx
 rw [h1]
 exact thn (hg pins s1 σ H1 x v _ I1 r1 q1) fun _ s2 q=>q
theorem BJ{i:Nat}{x:Str}{e:Expr}{te:TE}{pos':Pos}(hN:X.N.Nodup)(hi:X.N[i]?=some x)(hx:Loc X.env.scope x)(he:PE X e te)(hs:swapsWith e (some (.Name x pos')) pos.line X.env=pure false:=by rfl)(hf:X.fn x=true\/X.env.scope.names.lookup x=some .local:=by first | exact .inl rfl | exact .inr rfl | assumption):
  PS X (.Assign [.Name x pos'] e pos) (xP te (aQ i)):=by
 intro pins s σ H D I h
 refine wpAny_Assign_Name (thn (he pins s σ H _ I h) fun v s1 hhx=>?_) hs
 obtain ⟨y,H1,I1,r1,q1⟩:=hhx
 exact pW I1 hN hi hx r1 (fun s2 I2=>⟨_,H1,I2,q1⟩) hf
end
section
variable {X:Cx} {pos:Pos}
def xZ(c:TT)(tb:TS):TS:=fun D σ H=>∃W:Nat->St->Hp->Prop,(∃m,W m σ H)/\∀m σ H,W m σ H->
 c σ H fun b H1=>if b=true then ∃N:St->Hp->Prop,(∀σ' H',N σ' H'->∃m',m' < m/\W m' σ' H')/\tb {D with nx:=N,ct:=N,bk:=D.nx} σ H1 else D.nx σ H1
theorem wA{c:Expr}{body:List Stmt}{tc:TT}{tb:TS}(hp:PassesOwn (model X.prog X.w) X.A X.env X.xe)(hc:PT X c tc)(hb:PSs X body tb):PS X (.While c body [] pos) (xZ tc tb):=by
 intro pins s σ H D I h
 obtain ⟨W,⟨m0,w0⟩,turn⟩:=h
 refine wpAny_While (codeAny_whileLoop (fun n s'=>∃σ' H',Inv X pins σ' H' s'/\W n σ' H') ?_ m0 ⟨σ,H,I,w0⟩)
 rintro n s1 ⟨σ1,H1,I1,w1⟩
 refine wpAny_passesOwn hp (thn (hc pins s1 σ1 H1 _ I1 (turn n σ1 H1 w1)) fun b s2 hhx=>?_)
 obtain ⟨H2,I2,q2⟩:=hhx
 cases b with
 | true=>
  obtain ⟨N,hN,q2⟩:=q2
  rw [if_pos rfl]
  refine wpAny_passesOwn hp (thn (hb pins s2 σ1 H2 _ I2 q2) fun f s3 q3=>?_)
  cases f with
  | next=>
   obtain ⟨σ3,H3,I3,n3⟩:=q3
   obtain ⟨m',hm,w3⟩:=hN σ3 H3 n3
   exact ⟨m',hm,σ3,H3,I3,w3⟩
  | cont=>
   obtain ⟨σ3,H3,I3,n3⟩:=q3
   obtain ⟨m',hm,w3⟩:=hN σ3 H3 n3
   exact ⟨m',hm,σ3,H3,I3,w3⟩
  | brk=>exact q3
  | ret v=>exact q3
 | false=>
  rw [if_neg Bool.false_ne_true]
  exact wpAny_execs_nil ⟨σ1,H2,I2,q2⟩
end
structure It where
 go:Nat->Hp->Prop
 yld:Nat->Hp->V->Hp->Prop
 stop:Nat->Hp->Prop
def iL(X:Cx)(pins:List (Addr×Obj))(H:Hp)(b:Addr):Prop:=
 H b=none/\b≠X.env.locals/\b∉X.fs/\(b∈X.ex\/X.s₀.heap.objs.size<=b)/\(∀x c,X.env.cells.lookup x=some c->c≠b)/\∀p∈X.pn ++ pins,p.1≠b
theorem Inv.fpOk{X:Cx}{pins:List (Addr×Obj)}{σ:St}{H H':Hp}{s:Shared}{b:Addr}(I:Inv X pins σ H s)(hb:s.heap.objs.size<=b)(hn:H' b=none):iL X pins H' b:=by
 refine ⟨hn,Nat.ne_of_gt (Nat.lt_of_lt_of_le I.lt hb),I.nofs hb,.inr (Nat.le_trans I.sz hb),fun x c e z=>?_,fun p hp z=>?_⟩
 ·obtain ⟨v,q⟩:=I.cell x c e
  exact absurd (Nat.lt_of_lt_of_le q.lt (by rw [z];exact hb)) (Nat.lt_irrefl _)
 ·exact absurd (Nat.lt_of_lt_of_le (Heap.lt_size (I.pin p hp).1) (by rw [z];exact hb)) (Nat.lt_irrefl _)
structure kE(P:Program)(w:World)(K:PySem.W.Frag)(tg:Expr)(J:It)(fp:List Addr)(it:Addr)(tn:Nat->Heap->Prop):Prop where
 mem:it∈fp
 obj:∀i h,tn i h->∀b∈fp,∃o,h.get? b=some o/\∀v,o.data≠.cell v
 keep:∀i h h',tn i h->(∀b∈fp,∀o,h.get? b=some o->h'.get? b=some o)->tn i h'
 item:∀(X:Cx),X.prog=P->X.w=w->X.K=K->X.calm=true->∀(i:Nat)(pins:List (Addr×Obj)) (s:Shared) (σ:St) (H:Hp) (E:Value->Shared->Prop),Inv X pins σ H s->(∀b∈fp,iL X pins H b)->tn i s.heap->J.go i H->
  wpAny (model P w) X.A (pyNext (.ref it)) (fun r s1=>∃u,r=some u/\
   wpAny (model P w) X.A (letOwnedTupleGo tg (.ref it) u) (fun _ s2=>∃x H',Inv X pins σ H' s2/\RelV x u/\J.yld i H x H'/\tn (i+1) s2.heap/\∀b∈fp,H' b=none) E s1) E s
 done:∀(X:Cx),X.prog=P->X.w=w->X.K=K->X.calm=true->∀(i:Nat)(pins:List (Addr×Obj)) (s:Shared) (σ:St) (H:Hp) (E:Value->Shared->Prop),Inv X pins σ H s->(∀b∈fp,iL X pins H b)->tn i s.heap->J.stop i H->
  wpAny (model P w) X.A (pyNext (.ref it)) (fun r s1=>r=none/\Inv X pins σ H s1) E s
 self:∀(A:Around)(i:Nat)(s:Shared)(Q:Value->Shared->Prop)(E:Value->Shared->Prop),tn i s.heap->Q (.ref it) s->wpAny (model P w) A (pyIter (.ref it)) Q E s
abbrev TI:=St->Hp->(It->Hp->Prop)->Prop
def PIE(X:Cx)(pins:List (Addr×Obj))(σ:St)(tg:Expr)(R:It->Hp->Prop)(itv:Value)(s2:Shared):Prop:=
 ∃(it:Addr)(fp:List Addr)(tn:Nat->Heap->Prop)(J:It)(H':Hp),itv=.ref it/\Inv X pins σ H' s2/\kE X.prog X.w X.K tg J fp it tn/\tn 0 s2.heap/\(∀b∈fp,iL X pins H' b)/\R J H'
def PI(X:Cx)(tg iter:Expr)(wi:TI):Prop:=
 ∀(pins:List (Addr×Obj)) (s:Shared) (σ:St) (H:Hp) (R:It->Hp->Prop),Inv X pins σ H s->wi σ H R->
  wpAny (model X.prog X.w) X.A (eval iter X.env) (fun v s1=>wpAny (model X.prog X.w) X.A (pyIter v) (PIE X pins σ tg R) X.xe s1) X.xe s
theorem rY{M:Model}{A:Around}{E:Value->Shared->Prop}{s:Shared}{tg:Expr}{it:Addr}{o:Obj}{n:String}{vs:Array Value}{Q:Unit->Shared->Prop}(ho:s.heap.get? it=some o)(hc:o.cls=.type n)(hd:o.data=.fields vs)
 (hn:["enumerate","zip","dict_itemiterator","dict_reverseitemiterator","odict_iterator","itertools.zip_longest","itertools.pairwise"].contains n=false) (hQ:Q () s):wpAny M A (letOwnedTupleGo tg (.ref it) u) Q E s:=by
  unfold letOwnedTupleGo
  cases tg <;> first
    | exact wpAny_pure hQ
    | (cases u <;> first
        | exact wpAny_pure hQ
        | (refine wpAny_bind (wpAny_load ho ?_)
           rw [hc,hd]
           show wpAny M A (if (["enumerate","zip","dict_itemiterator","dict_reverseitemiterator","odict_iterator","itertools.zip_longest","itertools.pairwise"].contains n && vs[0]? == some (rawInt _))=true then _ else _) Q E s
           rw [if_neg (by intro h;rw [hn,Bool.false_and] at h;cases h)]
           exact wpAny_pure hQ))
def Itl(K:PySem.W.Frag)(a:Addr):It:=
 ⟨fun i H=>∃xs x,SqL K H a xs/\xs[i]?=some x,fun i H x H'=>H'=H/\∀xs,SqL K H a xs->xs[i]?=some x,fun i H=>∃xs,SqL K H a xs/\xs.length<=i⟩
def Itt(K:PySem.W.Frag)(a:Addr):It:=
 ⟨fun i H=>∃xs x,SqT K H a xs/\xs[i]?=some x,fun i H x H'=>H'=H/\∀xs,SqT K H a xs->xs[i]?=some x,fun i H=>∃xs,SqT K H a xs/\xs.length<=i⟩
def Itr(lo:Int)(n:Nat):It:=⟨fun i _=>i < n,fun i H x H'=>H'=H/\x=.int (lo+i),fun i _=>n<=i⟩
theorem uQ{w:World}{K:PySem.W.Frag}{tg:Expr}(a it:Addr):kE P w K tg (Itl K a) [it] it (fun i h=>h.IsListIter it a i) where
 mem:=by simp
 obj:=fun i h st b hb=>by
  have e:b=it:=by simpa using hb
  subst e
  obtain ⟨o,e,c,d⟩:=st
  exact ⟨o,e,fun v z=>by rw [d] at z;cases z⟩
 keep:=fun i h h' st k=>st.at fun o e=>k it (by simp) o e
 item:=by
  intro X hP hw hK hc i pins s σ H E I hf st hg
  subst hP hw hK
  obtain ⟨xs,x,hq,hx⟩:=hg
  obtain ⟨its,rv,p,hz⟩:=I.list hq
  obtain ⟨u,hu,ru⟩:=rv.get hx
  obtain ⟨f0,f1,f2,f3,f4,f5⟩:=hf it (by simp)
  refine wpAny_pyNext_list_item st p.isList (x:=u) (by simpa using hu) fun h' st' sb=>?_
  have I1:Inv X pins σ H {s with heap:=h'}:=I.turned (t':=s.toks) (fun b o hb e=>(sb.2 b hb).trans e) f0 f1 f3 f4 f5
  obtain ⟨o,e,c,d⟩:=id st'
  exact ⟨u,rfl,rY (s:={s with heap:=h'}) e c d (by decide) ⟨x,H,I1,ru,⟨rfl,fun ys hy=>by rw [I.list_inj hy hq];exact hx⟩,st',fun b hb=>(hf b hb).1⟩⟩
 done:=by
  intro X hP hw hK hc i pins s σ H E I hf st hg
  subst hP hw hK
  obtain ⟨xs,hq,hx⟩:=hg
  obtain ⟨its,rv,p,hz⟩:=I.list hq
  obtain ⟨f0,f1,f2,f3,f4,f5⟩:=hf it (by simp)
  have hl:=rv.length
  exact wpAny_pyNext_list_end (I.ok.hd hc) st p.isList (by simp;omega) fun h' eb=>⟨rfl,I.turned (t':=s.toks) (fun b o hb e=>eb b o hb e) f0 f1 f3 f4 f5⟩
 self:=fun _ _ _ _ _ st h=>wpAny_pyIter_listiter st h
theorem r9{w:World}{K:PySem.W.Frag}{tg:Expr}(a it:Addr):kE P w K tg (Itt K a) [it] it (fun i h=>h.IsTupleIter it a i) where
 mem:=by simp
 obj:=fun i h st b hb=>by
  have e:b=it:=by simpa using hb
  subst e
  obtain ⟨o,e,c,d⟩:=st
  exact ⟨o,e,fun v z=>by rw [d] at z;cases z⟩
 keep:=fun i h h' st k=>st.at fun o e=>k it (by simp) o e
 item:=by
  intro X hP hw hK hc i pins s σ H E I hf st hg
  subst hP hw hK
  obtain ⟨xs,x,hq,hx⟩:=hg
  obtain ⟨its,rv,p,hz⟩:=I.tuple hq
  obtain ⟨u,hu,ru⟩:=rv.get hx
  obtain ⟨f0,f1,f2,f3,f4,f5⟩:=hf it (by simp)
  refine wpAny_pyNext_tuple_item st (show s.heap.IsTuple a its.toArray from p) (x:=u) (by simpa using hu) fun h' st' sb=>?_
  have I1:Inv X pins σ H {s with heap:=h'}:=I.turned (t':=s.toks) (fun b o hb e=>(sb.2 b hb).trans e) f0 f1 f3 f4 f5
  obtain ⟨o,e,c,d⟩:=id st'
  exact ⟨u,rfl,rY (s:={s with heap:=h'}) e c d (by decide) ⟨x,H,I1,ru,⟨rfl,fun ys hy=>by rw [I.tuple_inj hy hq];exact hx⟩,st',fun b hb=>(hf b hb).1⟩⟩
 done:=by
  intro X hP hw hK hc i pins s σ H E I hf st hg
  subst hP hw hK
  obtain ⟨xs,hq,hx⟩:=hg
  obtain ⟨its,rv,p,hz⟩:=I.tuple hq
  obtain ⟨f0,f1,f2,f3,f4,f5⟩:=hf it (by simp)
  have hl:=rv.length
  exact wpAny_pyNext_tuple_end (I.ok.hd hc) st (show s.heap.IsTuple a its.toArray from p) (by simp;omega) fun h' eb=>⟨rfl,I.turned (t':=s.toks) (fun b o hb e=>eb b o hb e) f0 f1 f3 f4 f5⟩
 self:=fun _ _ _ _ _ st h=>wpAny_pyIter_tupleiter st h
theorem r8{w:World}{K:PySem.W.Frag}{tg:Expr}(it:Addr)(lo:Int)(n:Nat):kE P w K tg (Itr lo n) [it] it (fun i h=>IsRangeIter h it (lo+(i:Nat) * 1) ((n:Int) - (i:Nat)) 1) where
 mem:=by simp
 obj:=fun i h st b hb=>by
  have e:b=it:=by simpa using hb
  subst e
  exact ⟨_,st,fun v z=>by
   have z':Data.fields _=Data.cell v:=z
   cases z'⟩
 keep:=fun i h h' st k=>k it (by simp) _ st
 item:=by
  intro X hP hw hK hc i pins s σ H E I hf st hg
  subst hP hw hK
  obtain ⟨f0,f1,f2,f3,f4,f5⟩:=hf it (by simp)
  have W:=Walks.range (prog:=X.prog) (w:=X.w) (I.ok.hd hc) it lo 1 n
  refine W.item i s _ _ hg st fun v h' tk hv st' kk=>?_
  obtain ⟨t,rfl⟩:=hv
  have I1:Inv X pins σ H {s with heap:=h',toks:=tk}:=I.turned (fun b o hb e=>kk b o (by simpa using hb) e) f0 f1 f3 f4 f5
  refine ⟨_,rfl,rY (s:={s with heap:=h',toks:=tk}) (n:="range_iterator") st' rfl rfl (by decide) ⟨.int (lo+i),H,I1,⟨t,?_⟩,⟨rfl,rfl⟩,st',fun b hb=>(hf b hb).1⟩⟩
  rw [Int.mul_one]
 done:=by
  intro X hP hw hK hc i pins s σ H E I hf st hg
  subst hP hw hK
  obtain ⟨f0,f1,f2,f3,f4,f5⟩:=hf it (by simp)
  exact wpAny_pyNext_range_end (I.ok.hd hc) st (by have:n<=i:=hg;omega) fun h' eb=>⟨rfl,I.turned (t':=s.toks) (fun b o hb e=>eb b o hb e) f0 f1 f3 f4 f5⟩
 self:=fun _ _ _ _ _ st h=>wpAny_pyIter_rangeiter st h
end L2
variable {H:Hp} {g:TG} {pins:List (Addr×Obj)} {σ:St}
namespace L2
open PySem PySem.Spec PyProof.Rows
section
variable {X:Cx} {tg:Expr}
def vv(K:PySem.W.Frag)(tl:TE):TI:=fun σ H R=>tl σ H fun x H1=>∃a,x=.ref a/\(∃xs,SqL K H1 a xs)/\R (Itl K a) H1
def B4(K:PySem.W.Frag)(tl:TE):TI:=fun σ H R=>tl σ H fun x H1=>∃a,x=.ref a/\(∃xs,SqT K H1 a xs)/\R (Itt K a) H1
theorem zr{l:Expr}{tl:TE}(hl:PE X l tl):PI X tg l (vv X.K tl):=by
 intro pins s σ H R I h
 refine thn (hl pins s σ H _ I h) fun v s1 hhx=>?_
 obtain ⟨x,H1,I1,r1,q1⟩:=hhx
 obtain ⟨a,e,⟨xs,hq⟩,q⟩:=q1
 subst e
 cases r1
 obtain ⟨its,rv,p,hz⟩:=I1.list hq
 refine wpAny_pyIter_list p.isList ?_
 refine ⟨s1.heap.objs.size,[s1.heap.objs.size],_,_,H1,rfl,I1.kept (t':=s1.toks) fun b o e=>Heap.get?_push_of_some _ e,uQ a _,⟨_,Heap.get?_push_size _ rfl,rfl,rfl⟩,fun b hb=>?_,q⟩
 have e:b=s1.heap.objs.size:=by simpa using hb
 subst e
 exact I1.fpOk (Nat.le_refl _) (I1.hok.fresh (Nat.le_refl _))
theorem BC{l:Expr}{tl:TE}(hl:PE X l tl):PI X tg l (B4 X.K tl):=by
 intro pins s σ H R I h
 refine thn (hl pins s σ H _ I h) fun v s1 hhx=>?_
 obtain ⟨x,H1,I1,r1,q1⟩:=hhx
 obtain ⟨a,e,⟨xs,hq⟩,q⟩:=q1
 subst e
 cases r1
 obtain ⟨its,rv,p,hz⟩:=I1.tuple hq
 refine wpAny_pyIter_tuple (show s1.heap.IsTuple a its.toArray from p) ?_
 refine ⟨s1.heap.objs.size,[s1.heap.objs.size],_,_,H1,rfl,I1.kept (t':=s1.toks) fun b o e=>Heap.get?_push_of_some _ e,r9 a _,⟨_,Heap.get?_push_size _ rfl,rfl,rfl⟩,fun b hb=>?_,q⟩
 have e:b=s1.heap.objs.size:=by simpa using hb
 subst e
 exact I1.fpOk (Nat.le_refl _) (I1.hok.fresh (Nat.le_refl _))
theorem pv{pins:List (Addr×Obj)}{σ:St}{H:Hp}{s:Shared}{R:It->Hp->Prop}{E:Value->Shared->Prop}{lo hi:Int}{t u v:Tok}{tk:Nat}(I:Inv X pins σ H s)(h1:-(2 ^ 62)<=lo)(h2:lo < 2 ^ 62)(h3:-(2 ^ 62)<=hi)(h4:hi < 2 ^ 62)
 (q:R (Itr lo (hi - lo).toNat) H):wpAny (model X.prog X.w) X.A (pyIter (.ref s.heap.objs.size)) (PIE X pins σ tg R) E {s with heap:=s.heap.push {cls:=.type "range",data:=.fields #[.int lo t,.int hi u,.int 1 v]},toks:=tk}:=by
 refine wpAny_pyIter_range (IsRange.new ..) (small_one h1 h2 h3 h4) ?_
 have I1:Inv X pins σ H {s with heap:=s.heap.push {cls:=.type "range",data:=.fields #[.int lo t,.int hi u,.int 1 v]},toks:=tk}:=I.kept fun b o e=>Heap.get?_push_of_some _ e
 refine ⟨(s.heap.push {cls:=.type "range",data:=.fields #[.int lo t,.int hi u,.int 1 v]}).objs.size,[(s.heap.push {cls:=.type "range",data:=.fields #[.int lo t,.int hi u,.int 1 v]}).objs.size],_,_,H,rfl,
  I1.kept (t':=tk) fun b o e=>Heap.get?_push_of_some _ e,r8 _ lo (hi - lo).toNat,?_,fun b hb=>?_,q⟩
 ·have e1:lo+((0:Nat):Int) * 1=lo:=by simp
  have e2:(((hi - lo).toNat:Nat):Int) - ((0:Nat):Int)=Builtin.Range.rangeSize lo hi 1:=by rw [rangeSize_one];split <;> omega
  show IsRangeIter _ _ (lo+((0:Nat):Int) * 1) ((((hi - lo).toNat:Nat):Int) - ((0:Nat):Int)) 1
  rw [e1,e2]
  exact Heap.get?_push_size _ rfl
 ·have e:b=(s.heap.push {cls:=.type "range",data:=.fields #[.int lo t,.int hi u,.int 1 v]}).objs.size:=by simpa using hb
  subst e
  exact I1.fpOk (Nat.le_refl _) (I1.hok.fresh (Nat.le_refl _))
def vw(ta:TA):TI:=fun σ H R=>ta σ H fun vs H1=>∃j:Int,vs=[.int j]/\-(2 ^ 62)<=j/\j < 2 ^ 62/\R (Itr 0 j.toNat) H1
def vx(ta:TA):TI:=fun σ H R=>ta σ H fun vs H1=>∃i j:Int,vs=[.int i,.int j]/\(-(2 ^ 62)<=i/\i < 2 ^ 62/\-(2 ^ 62)<=j/\j < 2 ^ 62)/\R (Itr i (j - i).toNat) H1
theorem uw{a:Expr}{ta:TA}{p pos:Pos}(hg:Gl X "range") (hm:X.mg "range"=none) (ha:PA X [a] ta) (hs:starEach [a] X.env=[(false,eval a X.env)]:=by rfl):PI X tg (.Call (.Name "range" p) [a] [] pos) (vw ta):=by
 intro pins s σ H R I h
 refine Call_ (df I hg hm boot_range (PyProof.Rows.callWith_type1 (thn (ha pos pins s σ H _ I h) fun us s1 hhx=>?_) hs rfl))
 obtain ⟨vs,H1,I1,r1,q1⟩:=hhx
 obtain ⟨j,e,q1,q2,q⟩:=q1
 subst e
 cases r1 with
 | cons r rr=>
  cases rr
  obtain ⟨t,rfl⟩:=r
  exact call_range_1 (pv I1 (by omega) (by omega) q1 q2 (by simpa using q))
theorem ux{a b:Expr}{ta:TA}{p pos:Pos}(hg:Gl X "range") (hm:X.mg "range"=none) (ha:PA X [a,b] ta) (hs:starEach [a,b] X.env=[(false,eval a X.env),(false,eval b X.env)]:=by rfl) (hs2:starEach [b] X.env=[(false,eval b X.env)]:=by rfl) :
  PI X tg (.Call (.Name "range" p) [a,b] [] pos) (vx ta):=by
 intro pins s σ H R I h
 refine Call_ (df I hg hm boot_range (PyProof.Rows.callWith_type1 (thn (ha pos pins s σ H _ I h) fun us s1 hhx=>?_) (by rw [hs,hs2]) (by rw [hs2];rfl)))
 obtain ⟨vs,H1,I1,r1,q1⟩:=hhx
 obtain ⟨i,j,e,⟨q1,q2,q3,q4⟩,q⟩:=q1
 subst e
 cases r1 with
 | cons r rr=>
  cases rr with
  | cons r' rr=>
   cases rr
   obtain ⟨t,rfl⟩:=r
   obtain ⟨t',rfl⟩:=r'
   exact call_range_2 (pv I1 q1 q2 q3 q4 q)
def C6(wi:TI)(g:TG)(tb:TS):TS:=fun D σ H=>wi σ H fun J H1=>∃W:Nat->Nat->St->Hp->Prop,(∃m,W 0 m σ H1)/\∀i m σ H,W i m σ H->
 (J.stop i H/\D.nx σ H)\/(J.go i H/\∃N:St->Hp->Prop,(∀σ' H',N σ' H'->∃m',m' < m/\W (i+1) m' σ' H')/\∀x H',J.yld i H x H'->g x σ H' fun σ2 H2=>tb {D with nx:=N,ct:=N,bk:=D.nx} σ2 H2)
def fV(fp:List Addr)(h:Heap):List (Addr×Obj):=fp.filterMap fun b=>(h.get? b).map fun o=>(b,o)
theorem cb{fp:List Addr}{h:Heap}{b:Addr}{o:Obj}(hb:b∈fp)(e:h.get? b=some o):(b,o)∈fV fp h:=List.mem_filterMap.mpr ⟨b,hb,by rw [e];rfl⟩
theorem ui{fp:List Addr}{h:Heap}{p:Addr×Obj}(hp:p∈fV fp h):p.1∈fp/\h.get? p.1=some p.2:=by
 obtain ⟨b,hb,e⟩:=List.mem_filterMap.mp hp
 cases q:h.get? b with
 | none=>rw [q] at e;cases e
 | some o=>
  rw [q] at e
  have e':(b,o)=p:=Option.some.inj e
  subst e'
  exact ⟨hb,q⟩
theorem Inv.pinned{pins:List (Addr×Obj)}{σ:St}{H:Hp}{s:Shared}{fp:List Addr}(I:Inv X pins σ H s)(hf:∀b∈fp,iL X pins H b)(ho:∀b∈fp,∃o,s.heap.get? b=some o/\∀v,o.data≠.cell v):Inv X (pins ++ fV fp s.heap) σ H s:=
 I.pins_of fun p hp=>(List.mem_append.mp hp).elim (fun z=>I.pin p (List.mem_append_right _ z)) fun z=>by
  obtain ⟨hb,e⟩:=ui z
  obtain ⟨f0,f1,f2,_⟩:=hf p.1 hb
  obtain ⟨o,e',d⟩:=ho p.1 hb
  rw [e] at e';cases e'
  exact ⟨e,f0,f1,f2,d⟩
theorem Inv.unpinned{pl:List (Addr×Obj)}{σ:St}{H:Hp}{s:Shared}(I:Inv X (pins ++ pl) σ H s):Inv X pins σ H s:=I.pins_of fun p hp=>I.pin p (List.mem_append_right _ (List.mem_append_left _ hp))
theorem BH{iter:Expr}{body:List Stmt}{wi:TI}{tb:TS}{pos:Pos}(hp:PassesOwn (model X.prog X.w) X.A X.env X.xe)(hc:X.calm=true)(hi:PI X tg iter wi)(hg:PG X tg g)(hb:PSs X body tb)
 (hs:∀x,foldedSetIterable iter X.env x=pure x:=by intro _;rfl):PS X (.For tg iter body [] pos) (C6 wi g tb):=by
 intro pins s σ H D I h
 refine wpAny_For (thn (hi pins s σ H _ I h) fun v s1 h1=>thn h1 fun itv s2 h2=>?_) hs
 obtain ⟨it,fp,tn,J,H2,e,I2,T,st2,f2,W,⟨m0,w0⟩,turn⟩:=h2
 subst e
 have stat:∀{H':Hp},(∀b∈fp,H' b=none)->∀b∈fp,iL X pins H' b:=fun hn b hb=>⟨hn b hb,(f2 b hb).2⟩
 refine codeAny_forLoop_any (fun n s'=>∃i σ' H',Inv X pins σ' H' s'/\tn i s'.heap/\(∀b∈fp,H' b=none)/\W i n σ' H') ?_ m0 ⟨0,σ,H2,I2,st2,fun b hb=>(f2 b hb).1,w0⟩
 rintro n s3 ⟨i,σ3,H3,I3,st3,fr3,w3⟩
 rcases turn i n σ3 H3 w3 with ⟨stop,qn⟩ | ⟨go,N,hN,step⟩
 ·refine wpAny_passesOwn hp (thn (T.done X rfl rfl rfl hc i pins s3 σ3 H3 X.xe I3 (stat fr3) st3 stop) fun r s4 ⟨hr,I4⟩=>?_)
  subst hr
  exact wpAny_execs_nil ⟨σ3,H3,I4,qn⟩
 ·refine wpAny_passesOwn hp (thn (T.item X rfl rfl rfl hc i pins s3 σ3 H3 X.xe I3 (stat fr3) st3 go) fun r s4 ⟨u,hr,h4⟩=>?_)
  subst hr
  refine wpAny_passesOwn hp (thn h4 fun _ s5 hhx=>?_)
  obtain ⟨x,H5,I5,r5,y5,st5,fr5⟩:=hhx
  have I5':=I5.pinned (stat fr5) (T.obj _ _ st5)
  refine wpAny_passesOwn hp (thn (hg _ s5 σ3 H5 x u _ I5' r5 (step x H5 y5)) fun _ s6 hhx=>?_)
  obtain ⟨σ6,H6,I6,q6⟩:=hhx
  refine wpAny_passesOwn hp (thn (hb _ s6 σ6 H6 _ I6 q6) fun f s7 q7=>?_)
  have again:∀{σ7:St} {H7:Hp},Inv X (pins ++ fV fp s5.heap) σ7 H7 s7->N σ7 H7->∃m,m < n/\∃i σ' H',Inv X pins σ' H' s7/\tn i s7.heap/\(∀b∈fp,H' b=none)/\W i m σ' H':=fun {σ7 H7} I7 n7=>by
   obtain ⟨m',hm,w7⟩:=hN σ7 H7 n7
   refine ⟨m',hm,i+1,σ7,H7,I7.unpinned,T.keep _ _ _ st5 fun b hb o e=>(I7.pin (b,o) (List.mem_append_right _ (List.mem_append_right _ (cb hb e)))).1,fun b hb=>?_,w7⟩
   obtain ⟨o,e,d⟩:=T.obj _ _ st5 b hb
   exact (I7.pin (b,o) (List.mem_append_right _ (List.mem_append_right _ (cb hb e)))).2.1
  cases f with
  | next=>obtain ⟨σ7,H7,I7,n7⟩:=q7;exact again I7 n7
  | cont=>obtain ⟨σ7,H7,I7,n7⟩:=q7;exact again I7 n7
  | brk=>obtain ⟨σ7,H7,I7,q7⟩:=q7;exact ⟨σ7,H7,I7.unpinned,q7⟩
  | ret v=>obtain ⟨x7,σ7,H7,I7,r7,q7⟩:=q7;exact ⟨x7,σ7,H7,I7.unpinned,r7,q7⟩
end
theorem vk{K:PySem.W.Frag}{a:Addr}{xs:List V}{g:TG}{tb:TS}{D:cA}{σ:St}{H:Hp}(Pv:Nat->St->Hp->Prop)(h0:Pv 0 σ H)(hl:∀i σ H,i<=xs.length->Pv i σ H->SqL K H a xs)
 (hs:∀i x σ H,xs[i]?=some x->Pv i σ H->g x σ H fun σ2 H2=>tb {D with nx:=Pv (i+1),ct:=Pv (i+1),bk:=D.nx} σ2 H2) (hd:∀σ H,Pv xs.length σ H->D.nx σ H) :
 ∃W:Nat->Nat->St->Hp->Prop,(∃m,W 0 m σ H)/\∀i m σ H,W i m σ H->
   ((Itl K a).stop i H/\D.nx σ H)\/((Itl K a).go i H/\∃N:St->Hp->Prop,(∀σ' H',N σ' H'->∃m',m' < m/\W (i+1) m' σ' H')/\∀x H',(Itl K a).yld i H x H'->g x σ H' fun σ2 H2=>tb {D with nx:=N,ct:=N,bk:=D.nx} σ2 H2):=by
 refine ⟨fun i m σ H=>m=xs.length - i/\i<=xs.length/\Pv i σ H,⟨xs.length,by simp,Nat.zero_le _,h0⟩,?_⟩
 rintro i m σ H ⟨rfl,hi,p⟩
 have q:=hl i σ H hi p
 by_cases hlt:i < xs.length
 ·refine .inr ⟨⟨xs,xs[i],q,by simp [hlt]⟩,Pv (i+1),fun σ' H' p'=>⟨xs.length - (i+1),by omega,rfl,hlt,p'⟩,fun x H' y=>?_⟩
  obtain ⟨e,y⟩:=y
  subst e
  exact hs i x σ _ (y xs q) p
 ·have e:i=xs.length:=by omega
  subst e
  exact .inl ⟨⟨xs,q,Nat.le_refl _⟩,hd σ H p⟩
theorem tV{lo:Int}{n:Nat}{g:TG}{tb:TS}{D:cA}{σ:St}{H:Hp}(Pv:Nat->St->Hp->Prop)(h0:Pv 0 σ H)
 (hs:∀i σ H,i < n->Pv i σ H->g (.int (lo+i)) σ H fun σ2 H2=>tb {D with nx:=Pv (i+1),ct:=Pv (i+1),bk:=D.nx} σ2 H2) (hd:∀σ H,Pv n σ H->D.nx σ H) :
 ∃W:Nat->Nat->St->Hp->Prop,(∃m,W 0 m σ H)/\∀i m σ H,W i m σ H->
   ((Itr lo n).stop i H/\D.nx σ H)\/((Itr lo n).go i H/\∃N:St->Hp->Prop,(∀σ' H',N σ' H'->∃m',m' < m/\W (i+1) m' σ' H')/\∀x H',(Itr lo n).yld i H x H'->g x σ H' fun σ2 H2=>tb {D with nx:=N,ct:=N,bk:=D.nx} σ2 H2):=by
 refine ⟨fun i m σ H=>m=n - i/\i<=n/\Pv i σ H,⟨n,by simp,Nat.zero_le _,h0⟩,?_⟩
 rintro i m σ H ⟨rfl,hi,p⟩
 by_cases hlt:i < n
 ·refine .inr ⟨hlt,Pv (i+1),fun σ' H' p'=>⟨n - (i+1),by omega,rfl,hlt,p'⟩,fun x H' y=>?_⟩
  obtain ⟨e,y⟩:=y
  subst e y
  exact hs i σ _ hlt p
 ·have e:i=n:=by omega
  subst e
  exact .inl ⟨Nat.le_refl _,hd σ H p⟩
end L2
namespace L2
open PySem PySem.Spec PyProof.Rows
abbrev R2:=V->V->Hp->VK->Prop
def OpR(X:Cx)(f:Value->Value->Sem Value)(r:R2):Prop:=
 ∀(pins:List (Addr×Obj)) (s:Shared) (σ:St) (H:Hp) (x y:V) (v u:Value) (Q:VK),Inv X pins σ H s->RelV x v->RelV y u->r x y H Q->
  wpAny (model X.prog X.w) X.A (f v u) (EP X pins σ Q) X.xe s
def UnR(X:Cx)(f:Value->Sem Value)(r:V->Hp->VK->Prop):Prop:=
 ∀(pins:List (Addr×Obj)) (s:Shared) (σ:St) (H:Hp) (x:V) (v:Value) (Q:VK),Inv X pins σ H s->RelV x v->r x H Q->
  wpAny (model X.prog X.w) X.A (f v) (EP X pins σ Q) X.xe s
def cw(X:Cx)(f:Value)(r:List V->Hp->VK->Prop):Prop:=
 ∀(pins:List (Addr×Obj)) (s:Shared) (σ:St) (H:Hp) (xs:List V) (us:List Value) (Q:VK),Inv X pins σ H s->Vals xs us->r xs H Q->
  wpAny (model X.prog X.w) X.A (call f us) (EP X pins σ Q) X.xe s
def tOp(r:R2)(ta tb:TE):TE:=fun σ H Q=>ta σ H fun x H1=>tb σ H1 fun y H2=>r x y H2 Q
def tUn(r:V->Hp->VK->Prop)(ta:TE):TE:=fun σ H Q=>ta σ H fun x H1=>r x H1 Q
def rI(C:Int->Int->Prop)(g:Int->Int->V):R2:=fun x y H Q=>∃i j,x=.int i/\y=.int j/\C i j/\Q (g i j) H
def rI0(g:Int->Int->V):R2:=fun x y H Q=>∃i j,x=.int i/\y=.int j/\Q (g i j) H
def rU(g:Int->V):V->Hp->VK->Prop:=fun x H Q=>∃i,x=.int i/\Q (g i) H
section
variable {X:Cx} {a b c:Expr} {ta tb tc:TE} {pos:Pos}
theorem AT(ha:PE X a ta)(hb:PE X b tb){pins:List (Addr×Obj)}{s:Shared}{σ:St}{H:Hp}{R:V->V->Hp->Prop}(I:Inv X pins σ H s)
  (h:ta σ H fun x H1=>tb σ H1 fun y H2=>R x y H2) {Q:Value->Shared->Prop} {f:Value->Value->Sem Value}
  (hf:∀v u s2 x y H2,Inv X pins σ H2 s2->RelV x v->RelV y u->R x y H2->wpAny (model X.prog X.w) X.A (f v u) Q X.xe s2) :
  wpAny (model X.prog X.w) X.A (eval a X.env) (fun v s₁=>wpAny (model X.prog X.w) X.A (eval b X.env) (fun u s₂=>wpAny (model X.prog X.w) X.A (f v u) Q X.xe s₂) X.xe s₁) X.xe s:=by
 refine thn (ha pins s σ H _ I h) fun v s1 hhx=>?_
 obtain ⟨x,H1,I1,r1,q1⟩:=hhx
 refine thn (hb pins s1 σ H1 _ I1 q1) fun u s2 hhx=>?_
 obtain ⟨y,H2,I2,r2,q2⟩:=hhx
 exact hf v u s2 x y H2 I2 r1 r2 q2
theorem CF{op:Operator}{r:R2}(ho:OpR X (binaryOp op) r)(ha:PE X a ta)(hb:PE X b tb):PE X (.BinOp a op b pos) (tOp r ta tb):=by
 intro pins s σ H Q I h
 exact wpAny_BinOp (AT ha hb I h fun v u s2 x y H2 I2 rx ry q=>ho pins s2 σ H2 x y v u Q I2 rx ry q)
theorem CH{op:UnaryOp}{r:V->Hp->VK->Prop}(ho:UnR X (unaryOp op) r)(ha:PE X a ta):PE X (.UnaryOp op a pos) (tUn r ta):=by
 intro pins s σ H Q I h
 exact UnaryOp_ (thn (ha pins s σ H _ I h) fun v s1 ⟨x,H1,I1,r1,q1⟩=>ho pins s1 σ H1 x v Q I1 r1 q1)
theorem opI{f:Value->Value->Sem Value}{C:Int->Int->Prop}{g:Int->Int->Int}
  (rule:∀(i j:Int)(t u:Tok)(s:Shared)(Q:Value->Shared->Prop)(E:Value->Shared->Prop),C i j->Q (.int (g i j) s.toks) {s with toks:=s.toks+1}->wpAny (model X.prog X.w) X.A (f (.int i t) (.int j u)) Q E s) :
  OpR X f (rI C fun i j=>.int (g i j)):=by
 intro pins s σ H x y v u Q I rx ry h
 obtain ⟨i,j,rfl,rfl,hc,q⟩:=h
 obtain ⟨t,rfl⟩:=rx
 obtain ⟨t',rfl⟩:=ry
 exact rule i j t t' s _ _ hc ⟨.int (g i j),H,I.tok _,⟨_,rfl⟩,q⟩
theorem Cw{f:Value->Value->Sem Value}{g:Int->Int->Int}
  (rule:∀(i j:Int)(t u:Tok)(s:Shared)(Q:Value->Shared->Prop)(E:Value->Shared->Prop),Q (.int (g i j) s.toks) {s with toks:=s.toks+1}->wpAny (model X.prog X.w) X.A (f (.int i t) (.int j u)) Q E s) :
  OpR X f (rI0 fun i j=>.int (g i j)):=by
 intro pins s σ H x y v u Q I rx ry h
 obtain ⟨i,j,rfl,rfl,q⟩:=h
 obtain ⟨t,rfl⟩:=rx
 obtain ⟨t',rfl⟩:=ry
 exact rule i j t t' s _ _ ⟨.int (g i j),H,I.tok _,⟨_,rfl⟩,q⟩
theorem zg{f:Value->Value->Sem Value}{g:Int->Int->Bool}
  (rule:∀(i j:Int)(t u:Tok)(s:Shared)(Q:Value->Shared->Prop)(E:Value->Shared->Prop),Q (.bool (g i j)) s->wpAny (model X.prog X.w) X.A (f (.int i t) (.int j u)) Q E s) :
  OpR X f (rI0 fun i j=>.bl (g i j)):=by
 intro pins s σ H x y v u Q I rx ry h
 obtain ⟨i,j,rfl,rfl,q⟩:=h
 obtain ⟨t,rfl⟩:=rx
 obtain ⟨t',rfl⟩:=ry
 exact rule i j t t' s _ _ ⟨.bl (g i j),H,I,rfl,q⟩
def uW(i j:Int):Prop:=0<=j/\j<=1000000/\i.natAbs < 2 ^ 64
def CMul(i j:Int):Prop:=(-(2 ^ 64) < i/\i < 2 ^ 64)\/(-(2 ^ 64) < j/\j < 2 ^ 64)
theorem CMul.ok{i j:Int}(h:CMul i j):IntMulOk i j:=by
 rcases h with ⟨h1,h2⟩ | ⟨h1,h2⟩
 ·exact .of_left (intBits_le_64 h1 h2)
 ·exact .of_right (intBits_le_64 h1 h2)
theorem Bj:OpR X (binaryOp .Add) (rI0 fun i j=>.int (i+j)):=Cw fun _ _ _ _ _ _ _ q=>add_int q
theorem Bp:OpR X (binaryOp .Sub) (rI0 fun i j=>.int (i - j)):=Cw fun _ _ _ _ _ _ _ q=>sub_int q
theorem Bm:OpR X (binaryOp .Mult) (rI CMul fun i j=>.int (i * j)):=opI fun _ _ _ _ _ _ _ hc q=>mul_int q hc.ok
theorem Bl:OpR X (binaryOp .Mod) (rI (fun _ j=>0 < j) fun i j=>.int (i % j)):=opI fun i j _ _ _ _ _ hc q=>by
 have h1:(0:Int) < j:=hc
 exact mod_int' (by omega) (by rw [Int.fmod_eq_emod_of_nonneg i (by omega)];exact q)
theorem Bn:OpR X (binaryOp .Pow) (rI uW fun i j=>.int (i ^ j.toNat)):=opI fun _ _ _ _ _ _ _ hc q=>pow_int_small hc.1 hc.2.1 hc.2.2 q
theorem Bo:OpR X (binaryOp .LShift) (rI uW fun i j=>.int (i * 2 ^ j.toNat)):=opI fun _ _ _ _ _ _ _ hc q=>lshift_int_small hc.1 hc.2.1 hc.2.2 q
theorem unI{f:Value->Sem Value}{g:Int->Int}
  (rule:∀(i:Int)(t:Tok)(s:Shared)(Q:Value->Shared->Prop)(E:Value->Shared->Prop),Q (.int (g i) s.toks) {s with toks:=s.toks+1}->wpAny (model X.prog X.w) X.A (f (.int i t)) Q E s) :
  UnR X f (rU fun i=>.int (g i)):=by
 intro pins s σ H x v Q I rx h
 obtain ⟨i,rfl,q⟩:=h
 obtain ⟨t,rfl⟩:=rx
 exact rule i t s _ _ ⟨.int (g i),H,I.tok _,⟨_,rfl⟩,q⟩
theorem Cd:UnR X (unaryOp .USub) (rU fun i=>.int (-i)):=unI fun _ _ _ _ _ q=>neg_int q
end
def qS:V->V->Bool
 | .non,.non=>true | .non,.int _=>true | .int _,.non=>true | .non,.bl _=>true | .bl _,.non=>true | .non,.str _=>true | .str _,.non=>true
 | .int _,.int _=>true | .bl _,.bl _=>true | .str _,.str _=>true | .byt _,.byt _=>true
 | .int _,.str _=>true | .str _,.int _=>true | .bl _,.str _=>true | .str _,.bl _=>true
 | _,_=>false
def rEq:R2:=fun x y H Q=>qS x y=true/\Q (.bl (decide (x=y))) H
def rNe:R2:=fun x y H Q=>qS x y=true/\Q (.bl (!decide (x=y))) H
theorem rQ{i j:Int}:decide (V.int i=V.int j)=(i == j):=by
 rw [Bool.eq_iff_iff]
 simp
theorem vg{i j:Bool}:decide (V.bl i=V.bl j)=(i == j):=by
 rw [Bool.eq_iff_iff]
 simp
theorem rR{i j:Str}:decide (V.str i=V.str j)=(i == j):=by
 rw [Bool.eq_iff_iff]
 simp
theorem rP{i j:Array UInt8}:decide (V.byt i=V.byt j)=(i.toList == j.toList):=by
 rw [Bool.eq_iff_iff]
 cases i
 cases j
 simp
section
variable {X:Cx} {a b c:Expr} {ta tb tc:TE} {pos:Pos}
theorem aT{pins:List (Addr×Obj)}{σ:St}{H:Hp}{s:Shared}{Q:VK}{k k':Bool}(I:Inv X pins σ H s)(q:Q (.bl k) H)(e:k=k'):EP X pins σ Q (.bool k') s:=by
 subst e
 exact ⟨.bl k,H,I,rfl,q⟩
theorem aV:OpR X (compareOp .Eq) rEq:=by
 intro pins s σ H x y v u Q I rx ry h
 obtain ⟨hs,q⟩:=h
 cases x with
 | non=>
  cases rx
  cases y with
  | non=>cases ry;exact PySem.EqNone.eq_none_none (aT I q (by simp))
  | bl j=>cases ry;exact PySem.EqNone.eq_none_bool (aT I q (by simp))
  | int j=>obtain ⟨t',rfl⟩:=ry;exact PySem.EqNone.eq_none_int (aT I q (by simp))
  | str j=>obtain ⟨t',rfl⟩:=ry;exact PySem.EqNone.eq_none_str (aT I q (by simp))
  | _=>exact absurd (show false=true from hs) Bool.false_ne_true
 | bl i=>
  cases rx
  cases y with
  | non=>cases ry;exact PySem.EqNone.eq_bool_none (aT I q (by simp))
  | bl j=>cases ry;exact eq_bool (aT I q vg)
  | str j=>obtain ⟨t',rfl⟩:=ry;exact PySem.EqMixed.eq_bool_str (aT I q (by simp))
  | _=>exact absurd (show false=true from hs) Bool.false_ne_true
 | int i=>
  obtain ⟨t,rfl⟩:=rx
  cases y with
  | non=>cases ry;exact PySem.EqNone.eq_int_none (aT I q (by simp))
  | int j=>obtain ⟨t',rfl⟩:=ry;exact eq_int (aT I q rQ)
  | str j=>obtain ⟨t',rfl⟩:=ry;exact PySem.EqMixed.eq_int_str (aT I q (by simp))
  | _=>exact absurd (show false=true from hs) Bool.false_ne_true
 | str i=>
  obtain ⟨t,rfl⟩:=rx
  cases y with
  | non=>cases ry;exact PySem.EqNone.eq_str_none (aT I q (by simp))
  | bl j=>cases ry;exact PySem.EqMixed.eq_str_bool (aT I q (by simp))
  | int j=>obtain ⟨t',rfl⟩:=ry;exact PySem.EqMixed.eq_str_int (aT I q (by simp))
  | str j=>obtain ⟨t',rfl⟩:=ry;exact eq_str (aT I q rR)
  | _=>exact absurd (show false=true from hs) Bool.false_ne_true
 | byt i=>
  obtain ⟨t,rfl⟩:=rx
  cases y with
  | byt j=>obtain ⟨t',rfl⟩:=ry;exact PySem.W.eq_bytes (aT I q rP)
  | _=>exact absurd (show false=true from hs) Bool.false_ne_true
 | _=>cases y <;> exact absurd (show false=true from hs) Bool.false_ne_true
theorem jq:OpR X (compareOp .NotEq) rNe:=by
 intro pins s σ H x y v u Q I rx ry h
 obtain ⟨hs,q⟩:=h
 cases x with
 | non=>
  cases rx
  cases y with
  | non=>cases ry;exact PySem.EqNone.ne_none_none (aT I q (by simp))
  | bl j=>cases ry;exact PySem.EqNone.ne_none_bool (aT I q (by simp))
  | int j=>obtain ⟨t',rfl⟩:=ry;exact PySem.EqNone.ne_none_int (aT I q (by simp))
  | str j=>obtain ⟨t',rfl⟩:=ry;exact PySem.EqNone.ne_none_str (aT I q (by simp))
  | _=>exact absurd (show false=true from hs) Bool.false_ne_true
 | bl i=>
  cases rx
  cases y with
  | non=>cases ry;exact PySem.EqNone.ne_bool_none (aT I q (by simp))
  | bl j=>cases ry;exact ne_bool (aT I q (congrArg not vg))
  | str j=>obtain ⟨t',rfl⟩:=ry;exact PySem.EqMixed.ne_bool_str (aT I q (by simp))
  | _=>exact absurd (show false=true from hs) Bool.false_ne_true
 | int i=>
  obtain ⟨t,rfl⟩:=rx
  cases y with
  | non=>cases ry;exact PySem.EqNone.ne_int_none (aT I q (by simp))
  | int j=>obtain ⟨t',rfl⟩:=ry;exact ne_int (aT I q (congrArg not rQ))
  | str j=>obtain ⟨t',rfl⟩:=ry;exact PySem.EqMixed.ne_int_str (aT I q (by simp))
  | _=>exact absurd (show false=true from hs) Bool.false_ne_true
 | str i=>
  obtain ⟨t,rfl⟩:=rx
  cases y with
  | non=>cases ry;exact PySem.EqNone.ne_str_none (aT I q (by simp))
  | bl j=>cases ry;exact PySem.EqMixed.ne_str_bool (aT I q (by simp))
  | int j=>obtain ⟨t',rfl⟩:=ry;exact PySem.EqMixed.ne_str_int (aT I q (by simp))
  | str j=>obtain ⟨t',rfl⟩:=ry;exact ne_str (aT I q (congrArg not rR))
  | _=>exact absurd (show false=true from hs) Bool.false_ne_true
 | byt i=>
  obtain ⟨t,rfl⟩:=rx
  cases y with
  | byt j=>obtain ⟨t',rfl⟩:=ry;exact PySem.W.ne_bytes (aT I q (congrArg not rP))
  | _=>exact absurd (show false=true from hs) Bool.false_ne_true
 | _=>cases y <;> exact absurd (show false=true from hs) Bool.false_ne_true
theorem CB:OpR X (compareOp .Lt) (rI0 fun i j=>.bl (decide (i < j))):=zg fun _ _ _ _ _ _ _ q=>lt_int q
theorem CA:OpR X (compareOp .LtE) (rI0 fun i j=>.bl (decide (i<=j))):=zg fun _ _ _ _ _ _ _ q=>le_int q
theorem Cz:OpR X (compareOp .Gt) (rI0 fun i j=>.bl (decide (j < i))):=zg fun _ _ _ _ _ _ _ q=>gt_int q
theorem Cy:OpR X (compareOp .GtE) (rI0 fun i j=>.bl (decide (j<=i))):=zg fun _ _ _ _ _ _ _ q=>ge_int q
theorem iU:OpR X (compareOp .IsNot) (fun x y H Q=>y=.non/\Q (.bl (!decide (x=.non))) H):=by
 intro pins s σ H x y v u Q I rx ry h
 obtain ⟨rfl,q⟩:=h
 cases ry
 refine isnot_none_gen (aT I q ?_)
 cases x <;> first
  | (cases rx;rfl)
  | (obtain ⟨t,rfl⟩:=rx;rfl)
theorem ax(b:Expr){op:CmpOp}(h:op≠.In:=by decide)(h2:op≠.NotIn:=by decide):behindInMarks op b=false:=by
 have e1:(op == CmpOp.In)=false:=by cases op <;> first | rfl | exact absurd rfl h
 have e2:(op == CmpOp.NotIn)=false:=by cases op <;> first | rfl | exact absurd rfl h2
 cases b <;> simp [behindInMarks,e1,e2]
theorem zk{op:CmpOp}{r:R2}(ho:OpR X (compareOp op) r)(ha:PE X a ta)(hb:PE X b tb)(hm:behindInMarks op b=false):PE X (.Compare a [op] [b] pos) (tOp r ta tb):=by
 intro pins s σ H Q I h
 exact wpAny_Compare1 (AT ha hb I h fun v u s2 x y H2 I2 rx ry q=>ho pins s2 σ H2 x y v u Q I2 rx ry q) hm
def xY(t:TE):TT:=fun σ H Q=>t σ H fun x H'=>∃k,x=.bl k/\Q k H'
theorem zA{op:CmpOp}{r:R2}(ho:OpR X (compareOp op) r)(ha:PE X a ta)(hb:PE X b tb)(hm:behindInMarks op b=false):PT X (.Compare a [op] [b] pos) (xY (tOp r ta tb)):=by
 intro pins s σ H Q I h
 refine wpAny_isTrue_Compare1 (thn (ha pins s σ H _ I h) fun v s1 ⟨x,H1,I1,r1,q1⟩=>thn (hb pins s1 σ H1 _ I1 q1) fun u s2 ⟨y,H2,I2,r2,q2⟩=>
  thn (ho pins s2 σ H2 x y v u _ I2 r1 r2 q2) fun c s3 ⟨z,H3,I3,r3,k,e,q3⟩=>?_) hm
 subst e
 cases r3
 exact wpAny_truthy_bool ⟨H3,I3,q3⟩
theorem ji:(sizeLine:Nat) < 2 ^ 63:=by rw [sizeLine_eq];decide
theorem eR{x:V}{us:List Value}(r:Vals [x] us):∃u,us=[u]/\RelV x u:=by
 cases r with
 | cons r1 r2=>cases r2;exact ⟨_,rfl,r1⟩
theorem yb{x y:V}{us:List Value}(r:Vals [x,y] us):∃u w',us=[u,w']/\RelV x u/\RelV y w':=by
 cases r with
 | cons r1 r2=>
  cases r2 with
  | cons r3 r4=>cases r4;exact ⟨_,_,rfl,r1,r3⟩
theorem kW(hc:X.calm=true):cw X (.builtin "min") (fun xs H Q=>∃i j,xs=[.int i,.int j]/\Q (.int (if j < i then j else i)) H):=by
 intro pins s σ H xs us Q I r h
 obtain ⟨i,j,rfl,q⟩:=h
 obtain ⟨u,w',rfl,⟨t,rfl⟩,⟨t',rfl⟩⟩:=yb r
 refine min_two_ints (I.ok.hd hc) fun h' tk k=>⟨_,H,I.kept k,?_,q⟩
 by_cases hj:j < i
 ·rw [if_pos hj,if_pos hj];exact ⟨_,rfl⟩
 ·rw [if_neg hj,if_neg hj];exact ⟨_,rfl⟩
theorem tK:cw X (.type "int") (fun xs H Q=>(∃i,xs=[.int i]/\Q (.int i) H)\/∃k,xs=[.bl k]/\Q (.int (if k then 1 else 0)) H):=by
 intro pins s σ H xs us Q I r h
 rcases h with ⟨i,rfl,q⟩ | ⟨k,rfl,q⟩
 ·obtain ⟨u,rfl,t,rfl⟩:=eR r
  exact call_int_int ⟨.int i,H,I,⟨_,rfl⟩,q⟩
 ·obtain ⟨u,rfl,r1⟩:=eR r
  cases r1
  exact call_int_bool ⟨.int (if k then 1 else 0),H,I.tok _,⟨_,rfl⟩,q⟩
end
end L2
namespace L2
open PySem PySem.Spec PyProof.Rows
structure ObjM(h:Heap)(x dx C:Addr)(mA:Str->Option Value):Prop where
 obj:h.get? x=some (PySem.W.instObj C dx)
 ns:h.Ns1 dx mA
 ne:dx≠x
theorem ug{h:Heap}{dx:Addr}{mA:Str->Option Value}(n:h.Ns1 dx mA):∃od,h.get? dx=some od/\∀name,PySem.W.lookIn name od=some (mA name):=by
 obtain ⟨o,es,ep,ho,hd,hk,_,hm⟩:=n
 refine ⟨o,ho,fun name=>?_⟩
 have e:=hm name
 unfold nsFind findBy at e
 rw [<- Array.find?_toList] at e
 unfold PySem.W.lookIn
 rw [hd]
 dsimp only
 split
 ·rename_i y q
  rw [q] at e
  exact congrArg some e
 ·rename_i q
  rw [q] at e
  have a:es.toList.any (·.refKey)=false:=by
   rw [List.any_eq_false]
   intro y hy
   obtain ⟨z,t,hkey⟩:=hk y (Array.mem_toList_iff.mp hy)
   simp [DictEntry.refKey,hkey]
  have a':¬es.toList.any (·.refKey)=true:=by rw [a];exact Bool.false_ne_true
  rw [if_neg a']
  exact congrArg some e
theorem ObjM.look{h:Heap}{x dx C:Addr}{mA:Str->Option Value}(I:ObjM h x dx C mA):∃od,PySem.W.InstAt h x (PySem.W.instObj C dx) C (some od)/\∀name,PySem.W.lookIn name od=some (mA name):=
 let ⟨od,ho,hl⟩:=ug I.ns
 ⟨od,⟨I.obj,rfl,rfl,ho⟩,hl⟩
section
variable {prog:Program} {w:World} {A:Around} {E:Value->Shared->Prop} {s:Shared} {K:PySem.W.Frag} {x dx C f:Addr} {mA:Str->Option Value} {name:Str} {v:Value}
theorem yM{expr:Bool}{Q:Value->Shared->Prop}(X:K.In s.heap)(I:ObjM s.heap x dx C mA)(hg:PySem.W.plainGet K C name=true)(hh:PySem.W.hasDictIn K C=true)
  (ha:PySem.W.findIn K (.ref C) name=some none) (hv:mA name=some v) (hv':PySem.W.handedIn v=true) (h:Q v {s with toks:=s.toks+1}) :
  wpAny (model prog w) A (getAttr (.ref x) name expr) Q E s:=by
 obtain ⟨od,J,hl⟩:=I.look
 exact PySem.W.get_value X J (PySem.W.plainGet_of hg).1 (PySem.W.findObj_own hh ha rfl (by rw [hl,hv])) hv' h
theorem vp{pl:Sem Bool}{Q:Value×List Value->Shared->Prop}(X:K.In s.heap)(I:ObjM s.heap x dx C mA)(hg:PySem.W.plainGet K C name=true)
  (hf:PySem.W.findIn K (.ref C) name=some (some (.ref f))) (ht:PySem.W.isFn K (.ref f)=true) (hv:mA name=none) (h:Q (.ref f,[.ref x]) s) :
  wpAny (model prog w) A (getMethod (.ref x) name pl) Q E s:=by
 obtain ⟨od,J,hl⟩:=I.look
 exact PySem.W.method_fn X J (PySem.W.plainGet_of hg).1 (PySem.W.plainGet_of hg).2 hf (beq_iff_eq.mp ht) (by show (PySem.W.lookIn name od).map (·.isSome)=some false;rw [hl,hv];rfl) h
theorem zO{ns:List Str}{Q:Unit->Shared->Prop}(X:K.In s.heap)(I:ObjM s.heap x dx C mA)
  (hs:PySem.W.findIn K (.ref C) "__setattr__"=some (some (.builtin "object.__setattr__"))) (hp:PySem.W.plainOver K C=true) (ht:PySem.W.takerIn K C name=some none) (hh:PySem.W.hasDictIn K C=true)
  (hw:PySem.Within mA ns) (hsz:ns.length<=sizeLine)
  (h:∀h',ObjM h' x dx C (fun y=>if y=name then some v else mA y)->Heap.SameBut dx s.heap h'->Q () {s with heap:=h',toks:=s.toks+2}) :
  wpAny (model prog w) A (setAttr (.ref x) name v) Q E s:=by
 obtain ⟨od,J,hl⟩:=I.look
 refine PySem.W.set_plain X J hs (PySem.W.osa_open (s:={s with toks:=s.toks+1}) (r:=none) X J hp ht fun b=>?_)
 obtain ⟨cd,hc,hd'⟩:=PySem.W.any_some hh
 have hx:s.heap.get? x=some ⟨.ref C,some dx,.plain,#[]⟩:=I.obj
 refine wpAny_bind (wpAny_pure (wpAny_bind (wpAny_bind (wpAny_loadPart hx (wpAny_bind (PySem.W.Looks.here (s:={s with toks:=s.toks+1}) (PySem.W.looks_clsIn X hc) ?_))))))
 rw [hd']
 refine wpAny_pure (a:=some dx) (wpAny_bind (wpAny_pure (wpAny_bind ?_)))
 refine wpAny_nsSet1 (s:={s with toks:=s.toks+1}) I.ns fun h' hn2 hs2=>?_
 obtain ⟨oD,esD,epD,hoD,hdD,hcD⟩:=hn2.count (PySem.Within.cons name v hw)
 refine wpAny_bind (wpAny_lookBehind hoD (by rw [hdD];exact pastItsLine_dict (Nat.le_trans hcD (by rw [List.length_cons];omega))) ?_)
 exact wpAny_pure (h _ ⟨(hs2.2 _ (Ne.symm I.ne)).trans I.obj,hn2,I.ne⟩ hs2)
theorem vE{R:Result->Shared->Prop}{vs:List Value}{kw:List (Str×Value)}(X:K.In s.heap)(hm:PySem.W.makesIn K C=true)
  (hi:PySem.W.findIn K (.ref C) "__init__"=some (some (.ref f))) (hf:PySem.W.typeIn K (.ref f)=some (.type "function"))
  (h:codeAny (model prog w) (A.under (.builtin "type.__call__" ⟨.ref C :: vs,kw⟩)) (.call (.ref f) ⟨.ref (s.heap.objs.size+1) :: vs,kw⟩) (PySem.W.InitBack (s.heap.objs.size+1) R)
   {s with heap:=(s.heap.push PySem.W.emptyDict).push (PySem.W.instObj C s.heap.objs.size)}) :
  codeAny (model prog w) A (.call (.ref C) ⟨vs,kw⟩) R s:=by
 obtain ⟨hh,g,d,t,os⟩:=s
 exact PySem.W.make_core (PySem.W.makes_of X hm) (PySem.W.looks_findIn X hi) (fun self=>PySem.W.bind_fn X self hf) (.inl rfl) h
end
def cH(f:Str)(v:V):List (Str×V)->List (Str×V)
 | []=>[(f,v)]
 | (g,x) :: r=>if g=f then (g,v) :: r else (g,x) :: cH f v r
theorem iD(f g:Str)(v:V):∀fs:List (Str×V),(cH f v fs).lookup g=if g=f then some v else fs.lookup g
 | []=>by
  show List.lookup g [(f,v)]=_
  by_cases h:g=f
  ·have hb:(g == f)=true:=beq_iff_eq.mpr h
   simp only [List.lookup,hb,if_pos h]
  ·have hb:(g == f)=false:=beq_eq_false_iff_ne.mpr h
   simp only [List.lookup,hb,if_neg h]
 | (k,x) :: r=>by
  have ih:=iD f g v r
  rw [show cH f v ((k,x) :: r)=(if k=f then (k,v) :: r else (k,x) :: cH f v r) from rfl]
  by_cases hk:k=f
  ·rw [if_pos hk]
   by_cases h:g=k
   ·have hb:(g == k)=true:=beq_iff_eq.mpr h
    simp only [List.lookup,hb,if_pos (h.trans hk)]
   ·have hb:(g == k)=false:=beq_eq_false_iff_ne.mpr h
    simp only [List.lookup,hb,if_neg (fun e:g=f=>h (e.trans hk.symm))]
  ·rw [if_neg hk]
   by_cases h:g=k
   ·have hb:(g == k)=true:=beq_iff_eq.mpr h
    simp only [List.lookup,hb,if_neg (fun e:g=f=>hk (h.symm.trans e))]
   ·have hb:(g == k)=false:=beq_eq_false_iff_ne.mpr h
    simp only [List.lookup,hb]
    exact ih
theorem ic(f:Str)(v:V):∀fs:List (Str×V),f∈(cH f v fs).map (·.1)/\∀g,g∈fs.map (·.1)->g∈(cH f v fs).map (·.1)
 | []=>⟨by simp [cH],fun g h=>by simp at h⟩
 | (k,x) :: r=>by
  obtain ⟨i1,i2⟩:=ic f v r
  rw [show cH f v ((k,x) :: r)=(if k=f then (k,v) :: r else (k,x) :: cH f v r) from rfl]
  by_cases hk:k=f
  ·rw [if_pos hk]
   subst hk
   exact ⟨by simp,fun g h=>by simpa using h⟩
  ·rw [if_neg hk]
   refine ⟨?_,fun g h=>?_⟩
   ·rw [List.map_cons]
    exact List.mem_cons_of_mem _ i1
   ·rw [List.map_cons] at h ⊢
    rcases List.mem_cons.mp h with e | e
    ·exact List.mem_cons.mpr (.inl e)
    ·exact List.mem_cons_of_mem _ (i2 g e)
theorem iC(f:Str)(v:V):∀fs:List (Str×V),(cH f v fs).length<=fs.length+1
 | []=>by simp [cH]
 | (k,x) :: r=>by
  have ih:=iC f v r
  rw [show cH f v ((k,x) :: r)=(if k=f then (k,v) :: r else (k,x) :: cH f v r) from rfl]
  by_cases hk:k=f
  ·rw [if_pos hk,List.length_cons,List.length_cons];omega
  ·rw [if_neg hk,List.length_cons,List.length_cons];omega
theorem RelO.some_of{v:V}{o:Option Value}(r:RelO (some v) o):∃u,o=some u/\RelV v u:=by
 cases o with
 | none=>exact (show False from r).elim
 | some u=>exact ⟨u,rfl,r⟩
theorem RelO.none_of{o:Option Value}(r:RelO none o):o=none:=by
 cases o with
 | none=>rfl
 | some u=>exact (show False from r).elim
theorem tX{v:V}{u:Value}(r:RelV v u):PySem.W.handedIn u=true:=by
 cases v with
 | non=>cases (show u=Value.none from r);rfl
 | bl b=>cases (show u=Value.bool b from r);rfl
 | int i=>obtain ⟨t,e⟩:=(show ∃t,u=Value.int i t from r);cases e;rfl
 | str x=>obtain ⟨t,e⟩:=(show ∃t,u=Value.str x t from r);cases e;rfl
 | byt b=>obtain ⟨t,e⟩:=(show ∃t,u=Value.bytes b t from r);cases e;rfl
 | flt b=>obtain ⟨t,e⟩:=(show ∃t,u=Value.float b t from r);cases e;rfl
 | ref a=>cases (show u=Value.ref a from r);rfl
 | ty n=>cases (show u=Value.type n from r);rfl
section
variable {P:Program} {w:World} {H H':Hp} {h h':Heap} {a C dx:Addr} {fs fs':List (Str×V)}
theorem me(hok:HOk P w H h)(e:H a=some (.ins C dx fs)):∃mA,ObjM h a dx C mA/\(∀f,RelO (fs.lookup f) (mA f))/\PySem.Within mA (fs.map (·.1))/\fs.length<=1000/\H dx=some (.own a):=by
 obtain ⟨d,z,ne,ob,mA,n,r,q⟩:=(show ObjOk P w H h a (.ins C dx fs) from hok a _ e)
 exact ⟨mA,⟨ob,n,ne⟩,r,q,z,d⟩
end
structure Cls(K:PySem.W.Frag)(C:Addr):Prop where
 pg:PySem.W.plainGet K C Str.empty=true
 hd:PySem.W.hasDictIn K C=true
 po:PySem.W.plainOver K C=true
 sa:PySem.W.findIn K (.ref C) "__setattr__"=some (some (.builtin "object.__setattr__"))
theorem Cls.get{K:PySem.W.Frag}{C:Addr}(c:Cls K C)(f:Str):PySem.W.plainGet K C f=true:=c.pg
def NoAttr(K:PySem.W.Frag)(C:Addr)(f:Str):Prop:=PySem.W.findIn K (.ref C) f=some none
theorem NoAttr.taker{K:PySem.W.Frag}{C:Addr}{f:Str}(n:NoAttr K C f):PySem.W.takerIn K C f=some none:=by
 unfold PySem.W.takerIn
 rw [show PySem.W.findIn K (.ref C) f=some none from n]
 rfl
structure tI(K:PySem.W.Frag)(C:Addr)(m:Str)(f:Addr):Prop where
 at_:PySem.W.findIn K (.ref C) m=some (some (.ref f))
 fn:PySem.W.isFn K (.ref f)=true
 kp:PySem.W.keepIn K (.ref f)=true
section
variable {X:Cx} {pins:List (Addr×Obj)} {σ:St} {H:Hp} {s:Shared} {a C dx:Addr} {fs:List (Str×V)} {f:Str} {v:V} {A:Around} {E:Value->Shared->Prop}
theorem qA{b:Bool}{Q:Value->Shared->Prop}(I:Inv X pins σ H s)(e:H a=some (.ins C dx fs))(c:Cls X.K C)(n:NoAttr X.K C f)(l:fs.lookup f=some v)
  (h:∀u s',Inv X pins σ H s'->RelV v u->Q u s'):wpAny (model X.prog X.w) A (getAttr (.ref a) f b) Q E s:=by
 obtain ⟨mA,O,r,_,_,_⟩:=me I.hok e
 obtain ⟨u,hu,ru⟩:=RelO.some_of (v:=v) (o:=mA f) (by rw [<- l];exact r f)
 exact yM I.kIn O (c.get f) c.hd n hu (tX ru) (h u _ (I.tok _) ru)
theorem fR{m:Str}{g:Addr}{pl:Sem Bool}{Q:Value×List Value->Shared->Prop}(I:Inv X pins σ H s)(e:H a=some (.ins C dx fs))(c:Cls X.K C)(k:tI X.K C m g)(l:fs.lookup m=none)
  (h:Q (.ref g,[.ref a]) s):wpAny (model X.prog X.w) A (getMethod (.ref a) m pl) Q E s:=by
 obtain ⟨mA,O,r,_,_,_⟩:=me I.hok e
 have hn:mA m=none:=RelO.none_of (by rw [<- l];exact r m)
 exact vp I.kIn O (c.get m) k.at_ k.fn hn h
theorem qU{y:V}{u:Value}{Q:Unit->Shared->Prop}(I:Inv X pins σ H s)(e:H a=some (.ins C dx fs))(c:Cls X.K C)(n:NoAttr X.K C f)(hl:fs.length < 1000)(ry:RelV y u)
  (h:∀s',Inv X pins σ (upd H a (.ins C dx (cH f y fs))) s'->Q () s'):wpAny (model X.prog X.w) A (setAttr (.ref a) f u) Q E s:=by
 obtain ⟨mA,O,r,wi,_,ho⟩:=me I.hok e
 have hz:(fs.map (·.1)).length<=sizeLine:=by rw [List.length_map,sizeLine_eq];omega
 refine zO I.kIn O c.sa c.po n.taker c.hd wi hz fun h' O' sb=>h _ ?_
 have hd:∃o,h'.get? dx=some o:=let ⟨o,_,_,e',_⟩:=O'.ns;⟨o,e'⟩
 refine I.write (x:=a) (e:=dx) (by rw [e];exact True.intro) (.inr ho) (fun b q hb z=>(sb.2 b hb).trans z) hd ?_
 refine ⟨by rw [al O.ne];exact ho,?_,O.ne,O'.obj,_,O'.ns,fun g=>?_,fun g hg=>?_⟩
 ·have:=iC f y fs;omega
 ·show RelO ((cH f y fs).lookup g) (if g=f then some u else mA g)
  rw [iD]
  by_cases q:g=f
  ·rw [if_pos q,if_pos q];exact ry
  ·rw [if_neg q,if_neg q];exact r g
 ·by_cases q:g=f
  ·rw [q];exact (ic f y fs).1
  ·refine (ic f y fs).2 g (wi g fun z=>hg ?_)
   show (if g=f then some u else mA g)=none
   rw [if_neg q];exact z
theorem Inv.made(I:Inv X pins σ H s):Inv X pins σ (upd (upd H s.heap.objs.size (.own (s.heap.objs.size+1))) (s.heap.objs.size+1) (.ins C s.heap.objs.size []))
  {s with heap:=(s.heap.push PySem.W.emptyDict).push (PySem.W.instObj C s.heap.objs.size)}:=by
 have e1:(s.heap.push PySem.W.emptyDict).get? s.heap.objs.size=some PySem.W.emptyDict:=Heap.get?_push_size s.heap rfl
 have e2:((s.heap.push PySem.W.emptyDict).push (PySem.W.instObj C s.heap.objs.size)).get? (s.heap.objs.size+1)=some (PySem.W.instObj C s.heap.objs.size):=by
  have:=Heap.get?_push_size (s.heap.push PySem.W.emptyDict) (o:=PySem.W.instObj C s.heap.objs.size) rfl
  rwa [Heap.size_push] at this
 have e3:(s.heap.push PySem.W.emptyDict).Ns s.heap.objs.size (fun _=>none):=⟨PySem.W.emptyDict,#[],_,e1,rfl,(fun e he=>absurd he (by simp)),fun _=>rfl⟩
 have I1:=I.laid (a:=s.heap.objs.size) (o:=.own (s.heap.objs.size+1)) (h':=s.heap.push PySem.W.emptyDict) (t':=s.toks) (fun b u q=>Heap.get?_push_of_some _ q) (Nat.le_refl _) ⟨_,e1⟩
 refine I1.laid (a:=s.heap.objs.size+1) (o:=.ins C s.heap.objs.size []) (t':=s.toks) (fun b u q=>Heap.get?_push_of_some _ q) (Nat.le_of_eq (Heap.size_push _ _)) ?_
 have ne:s.heap.objs.size≠s.heap.objs.size+1:=Nat.ne_of_lt (Nat.lt_succ_self _)
 refine ⟨by rw [al ne,ae],Nat.zero_le _,ne,e2,fun _=>none,(Heap.Ns1.of_empty e3).at fun o q=>Heap.get?_push_of_some _ q,fun _=>True.intro,fun y hy=>absurd rfl hy⟩
theorem yB{prog:Program}{w:World}{env:Env}{e:Expr}{f:Str}{pos:Pos}{s:Shared}{Q:Value->Shared->Prop}(hb:attributeBase e f env (eval e env)=eval e env)
  (h:wpAny (model prog w) A (eval e env) (fun o s₁=>wpAny (model prog w) A (getAttr o f true) Q E s₁) E s):wpAny (model prog w) A (eval (.Attribute e f pos) env) Q E s:=
 Attribute_any_ h (by rw [arm_eval_Attribute,hb])
end
def C5(K:PySem.W.Frag)(ta:TE)(f:Str):TE:=fun σ H Q=>ta σ H fun x H1=>∃a C dx fs v,x=.ref a/\H1 a=some (.ins C dx fs)/\Cls K C/\NoAttr K C f/\fs.lookup f=some v/\Q v H1
def BY(K:PySem.W.Frag)(ta tv:TE)(f:Str):TS:=fun D σ H=>tv σ H fun y H1=>ta σ H1 fun x H2=>∃a C dx fs,x=.ref a/\H2 a=some (.ins C dx fs)/\Cls K C/\NoAttr K C f/\fs.length < 1000/\
 D.nx σ (upd H2 a (.ins C dx (cH f y fs)))
section
variable {X:Cx} {o e value:Expr} {f:Str} {pos pos' tpos:Pos} {ta tv:TE}
theorem Br(he:PE X e ta)(hb:attributeBase e f X.env (eval e X.env)=eval e X.env):PE X (.Attribute e f pos) (C5 X.K ta f):=by
 intro pins s σ H Q I h
 refine yB hb (thn (he pins s σ H _ I h) fun u s1 hhx=>?_)
 obtain ⟨x,H1,I1,rx,a,C,dx,fs,v,ex,ea,c,n,l,q⟩:=hhx
 subst ex
 obtain rfl:u=Value.ref a:=rx
 exact qA I1 ea c n l fun u' s2 I2 ru=>⟨v,H1,I2,ru,q⟩
theorem BG(ha:PE X o ta)(hv:PE X value tv)(hs:swapsWith value (some (.Attribute o f pos')) pos.line X.env=pure false):PS X (.Assign [.Attribute o f pos'] value pos) (BY X.K ta tv f):=by
 intro pins s σ H D I h
 refine plainObj_wpAny_Assign_Attribute (thn (hv pins s σ H _ I h) fun u s1 ⟨y,H1,I1,ry,q⟩=>thn (ha pins s1 σ H1 _ I1 q) fun ov s2 hhx=>?_) hs
 obtain ⟨x,H2,I2,rx,a,C,dx,fs,ex,ea,c,n,l,q2⟩:=hhx
 subst ex
 obtain rfl:ov=Value.ref a:=rx
 exact qU I2 ea c n l ry fun s3 I3=>⟨σ,_,I3,q2⟩
theorem A5{pl:Sem Bool}{m:Str}{apos:Pos}{args:List Expr}{pins:List (Addr×Obj)}{s:Shared}{σ:St}{H:Hp}{Q:Value->Shared->Prop}{te:TE}(he:PE X e te)(I:Inv X pins σ H s)
  (h:te σ H fun x H1=>∃a C dx fs g,x=.ref a/\H1 a=some (.ins C dx fs)/\Cls X.K C/\tI X.K C m g/\fs.lookup m=none/\
   ∀s1,Inv X pins σ H1 s1->wpAny (model X.prog X.w) X.A (callWith pos (.ref g) [.ref a] (backTo pos (starEach args X.env)) (backToKw pos (keywordEach [] X.env))) Q X.xe s1)
  (ht:eval (.Call (.Attribute e m apos) args [] pos) X.env=(do
   let ov <- eval e X.env
   standAt apos.atName
   let (f,first) <- holding [ov] (getMethod ov m pl)
   callWith pos f first (backTo pos (starEach args X.env)) (backToKw pos (keywordEach [] X.env)))) :
  wpAny (model X.prog X.w) X.A (eval (.Call (.Attribute e m apos) args [] pos) X.env) Q X.xe s:=by
 refine PySem.W.methodCall_KW (pl:=pl) (thn (he pins s σ H _ I h) fun u s1 hhx=>?_) ht
 obtain ⟨x,H1,I1,rx,a,C,dx,fs,g,ex,ea,c,k,l,q⟩:=hhx
 subst ex
 obtain rfl:u=Value.ref a:=rx
 exact fR I1 ea c k l (q s1 I1)
end
section
variable {X:Cx} {pins:List (Addr×Obj)} {σ:St} {H:Hp} {s:Shared} {A:Around} {E:Value->Shared->Prop} {Q:Value->Shared->Prop} {c:Value} {b:Bool}
end
end L2
variable {us:List Value}
namespace L2
open PySem PySem.Spec PyProof.Rows
structure Room(k:Nat)(A:Around):Prop where
 hd:A.handled=none
 dp:A.depth+3 * k+5 < recursionLimit
 un:A.units+16 * k+200 < cLine
theorem Room.mono{j k:Nat}{A:Around}(r:Room k A)(h:j<=k):Room j A:=⟨r.hd,by have:=r.dp;omega,by have:=r.un;omega⟩
theorem Room.deeper{k:Nat}{A:Around}(r:Room (k+1) A)(env:Env):Room k (A.deeper env):=
 ⟨r.hd,by have:=r.dp;show A.depth+1+3 * k+5 < _;omega,by have:=r.un;show A.units+3+16 * k+200 < _;omega⟩
theorem qE{A:Around}{C:Addr}{kw:List (Str×Value)}:(A.under (.builtin "type.__call__" ⟨.ref C :: us,kw⟩)).depth=A.depth+1:=by
 first | rfl | simp [Around.under,Code.weight,Code.isCreation,Code.isGuard,Code.isCaller,Code.frames,Code.isFrame,guardIds]
theorem qF{A:Around}{C:Addr}{kw:List (Str×Value)}:(A.under (.builtin "type.__call__" ⟨.ref C :: us,kw⟩)).units=A.units+1:=by
 first | rfl | simp [Around.under,Code.cUnits,Code.frames,Code.isFrame]
theorem Room.make{k:Nat}{A:Around}(r:Room (k+1) A)(C:Addr)(us:List Value)(kw:List (Str×Value)):Room k (A.under (.builtin "type.__call__" ⟨.ref C :: us,kw⟩)):=
 ⟨r.hd,by have:=r.dp;rw [qE];omega,by have:=r.un;rw [qF];omega⟩
theorem Room.depth{k:Nat}{A:Around}(r:Room k A):A.depth < recursionLimit:=by have:=r.dp;omega
theorem Room.units{k:Nat}{A:Around}(r:Room k A):A.units+64 < cLine:=by have:=r.un;omega
def mG:TA:=fun _ H Q=>Q [] H
def xQ(ta:TE)(tr:TA):TA:=fun σ H Q=>ta σ H fun x H1=>tr σ H1 fun xs H2=>Q (x :: xs) H2
section
variable {X:Cx} {e:Expr} {es:List Expr} {te:TE} {t:TA} {pos:Pos}
theorem w9:PA X [] mG:=fun _ _ _ _ H Q I h=>Calls.spliced_nil ⟨[],H,I,.nil,h⟩
theorem sv(ha:PE X e te)(hr:PA X es t)(hs:starEach (e :: es) X.env=(false,eval e X.env) :: starEach es X.env:=by rfl):PA X (e :: es) (xQ te t):=by
 intro pos pins s σ H Q I h
 rw [hs]
 show wpAny _ _ (spliced ((false,eval e X.env) :: backTo pos (starEach es X.env))) _ _ s
 refine Calls.spliced_cons (thn (ha pins s σ H _ I h) fun u s1 hhx=>?_)
 obtain ⟨x,H1,I1,r1,q1⟩:=hhx
 exact thn (hr pos pins s1 σ H1 _ I1 q1) fun us s2 ⟨xs,H2,I2,r2,q2⟩=>⟨x :: xs,H2,I2,.cons r1 r2,q2⟩
def Cb(t:TA):TE:=fun σ H Q=>t σ H fun xs H1=>xs.length<=sizeLine/\∀p,H1 p=none->Q (.ref p) (upd H1 p (.tup xs))
def C7(t:TA):TE:=fun σ H Q=>t σ H fun xs H1=>xs.length<=sizeLine/\∀p,H1 p=none->Q (.ref p) (upd H1 p (.lst xs))
theorem Bv{x1}(h:PA X es t):PE X (.Tuple es x1 pos) (Cb t):=by
 intro pins s σ H Q I hq
 refine wpAny_Tuple_spliced (thn (h pos pins s σ H _ I hq) fun us s1 ⟨xs,H1,I1,r,z,q⟩=>⟨by rw [<- r.length];exact z,?_⟩)
 have hf:H1 s1.heap.objs.size=none:=I1.hok.fresh (Nat.le_refl _)
 refine ⟨.ref s1.heap.objs.size,upd H1 s1.heap.objs.size (.tup xs),I1.laid (t':=s1.toks) (fun b u e=>Heap.get?_push_of_some _ e) (Nat.le_refl _) ?_,rfl,q _ hf⟩
 exact ⟨z,us,r,⟨_,Heap.get?_push_size _ rfl,rfl,_,rfl⟩⟩
theorem Bs(h:PA X es t):PE X (.List es pos) (C7 t):=by
 intro pins s σ H Q I hq
 refine wpAny_List_spliced (thn (h pos pins s σ H _ I hq) fun us s1 ⟨xs,H1,I1,r,z,q⟩=>⟨by rw [<- r.length];exact z,?_⟩)
 have hf:H1 s1.heap.objs.size=none:=I1.hok.fresh (Nat.le_refl _)
 refine ⟨.ref s1.heap.objs.size,upd H1 s1.heap.objs.size (.lst xs),I1.laid (t':=s1.toks) (fun b u e=>Heap.get?_push_of_some _ e) (Nat.le_refl _) ?_,rfl,q _ hf⟩
 exact ⟨z,us,0,r,Heap.get?_push_size _ rfl⟩
end
abbrev Sp:=List V->Hp->VK->XK->Prop
abbrev CXT:=List Env->Hp->Shared->XK->Value->Shared->Prop
structure Env0(P:Program)(w:World)(K:PySem.W.Frag)(mg:Str->Option Value)(base:Heap)(A:Around)(outer:List Env)(s:Shared)(H:Hp):Prop where
 frames:A.frames=some outer
 mod:Mod K mg base
 bs:∀b o,base.get? b=some o->s.heap.get? b=some o/\H b=none
 bsz:base.objs.size<=s.heap.objs.size
 funs:s.heap.FunFrames base outer
 frf:∀b∈frs outer,H b=none
 hok:HOk P w H s.heap
 bare:AllBare s.gens
def CE(outer:List Env)(P:Program)(w:World)(H:Hp)(s:Shared)(Q:VK)(u:Value)(s':Shared):Prop:=
 ∃v H',s'.os=s.os/\AllBare s'.gens/\Un (frs outer) [] H H' s.heap s'.heap/\HOk P w H' s'.heap/\RelV v u/\Q v H'
def CR(CX:CXT)(outer:List Env)(P:Program)(w:World)(H:Hp)(s:Shared)(Q:VK)(E:XK)(r:Result)(s':Shared):Prop:=
 match r with
 | .ok (.ret u)=>CE outer P w H s Q u s'
 | .ok _=>False
 | .error e=>CX outer H s E e s'
structure FnOk(P:Program)(w:World)(K:PySem.W.Frag)(mg:Str->Option Value)(base:Heap)(CX:CXT)(k:Nat)(f:Addr)(fd:FuncData)(ps:List Str)(sp:Sp):Prop where
 len:∀vs H Q E,sp vs H Q E->vs.length=ps.length
 run:∀(A:Around)(outer:List Env)(s:Shared)(H:Hp)(args:Args)(us:List Value)(vs:List V)(Q:VK)(E:XK),Room k A->Env0 P w K mg base A outer s H->BindsTo s fd args (ps.zip us)->Vals vs us->sp vs H Q E->
  codeAny (model P w) A (.call (.ref f) args) (CR CX outer P w H s Q E) s
theorem FnOk.mono{P:Program}{w:World}{K:PySem.W.Frag}{mg:Str->Option Value}{base:Heap}{CX:CXT}{j k:Nat}{f:Addr}{fd:FuncData}{ps:List Str}{sp:Sp}(F:FnOk P w K mg base CX j f fd ps sp)(h:j<=k):
  FnOk P w K mg base CX k f fd ps sp:=⟨F.len,fun A outer s H args us vs Q E hr=>F.run A outer s H args us vs Q E (hr.mono h)⟩
theorem Env0.make{P:Program}{w:World}{K:PySem.W.Frag}{mg:Str->Option Value}{base:Heap}{A:Around}{outer:List Env}{s:Shared}{H:Hp}(e:Env0 P w K mg base A outer s H)(C:Addr)(us:List Value)(kw:List (Str×Value)):
  Env0 P w K mg base (A.under (.builtin "type.__call__" ⟨.ref C :: us,kw⟩)) outer s H:=⟨by first | exact e.frames | (simpa [Around.under,Code.envs,Code.isFrame,pushEnvs] using e.frames),e.mod,e.bs,e.bsz,e.funs,e.frf,e.hok,e.bare⟩
section
variable {X:Cx} {pins:List (Addr×Obj)} {σ:St} {H:Hp} {s s':Shared}
theorem Inv.env0(I:Inv X pins σ H s):Env0 X.prog X.w X.K X.mg X.base X.A X.stack s H:=
 ⟨I.ok.frames,I.ok.mod,I.bs,Nat.le_trans I.ok.bsz I.sz,I.stack,I.stkFree,I.hok,I.bare⟩
theorem Inv.after{Q:VK}{u:Value}(I:Inv X pins σ H s)(h:CE X.stack X.prog X.w H s Q u s'):EP X pins σ Q u s':=by
 obtain ⟨v,H',os,bare,un,hok,r,q⟩:=h
 obtain ⟨hh,g,d,t,os'⟩:=s'
 obtain rfl:os'=s.os:=os
 exact ⟨v,H',I.call (h':=hh) (g':=g) (d':=d) (t':=t) (ch:=[]) un hok bare (fun b z=>absurd z (by simp)),r,q⟩
end
def pY(sp:Sp)(dvs:List V)(E:XK)(t:TA):TE:=fun σ H Q=>t σ H fun vs H1=>sp (vs ++ dvs) H1 Q E
def hW(C:Addr)(m:Str)(sp:Sp)(dvs:List V)(E:XK)(ta:TE)(t:TA):TE:=fun σ H Q=>ta σ H fun x H1=>∃a dx fs,x=.ref a/\H1 a=some (.ins C dx fs)/\fs.lookup m=none/\
 t σ H1 fun vs H2=>sp (x :: (vs ++ dvs)) H2 Q E
def iK(C:Addr)(sp:Sp)(dvs:List V)(E:XK)(t:TA):TE:=fun σ H Q=>t σ H fun vs H1=>∀x dx,H1 x=none->H1 dx=none->dx≠x->
 sp (.ref x :: (vs ++ dvs)) (upd (upd H1 dx (.own x)) x (.ins C dx [])) (fun v H2=>v=.non/\Q (.ref x) H2) E
def Binds(K:PySem.W.Frag)(fd:FuncData)(ps:List Str)(ds:List Value):Prop:=
 ∀(s:Shared)(us:List Value),K.In s.heap->(us ++ ds).length=ps.length->BindsTo s fd ⟨us,[]⟩ (ps.zip (us ++ ds))
theorem Binds.all{K:PySem.W.Frag}{fd:FuncData}{ps:List Str}(h:∀us:List Value,us.length=ps.length->bindArgs fd ⟨us,[]⟩=pure (ps.zip us)):Binds K fd ps []:=fun s us _ hl=>by
 rw [List.append_nil] at hl ⊢
 exact .of_eq (h us hl)
def dF(CX:CXT)(X:Cx)(E:XK):Prop:=∀(pins:List (Addr×Obj)) (σ:St) (H:Hp) (s:Shared) (e:Value) (s':Shared),Inv X pins σ H s->CX X.stack H s E e s'->X.xe e s'
section
variable {X:Cx} {CX:CXT} {k:Nat} {f C:Addr} {fd:FuncData} {ps:List Str} {sp:Sp} {dvs:List V} {ds:List Value} {E:XK} {x m:Str} {p pos apos:Pos} {e o:Expr} {es:List Expr} {ta:TE} {t:TA}
theorem qP{pins:List (Addr×Obj)}{σ:St}{H:Hp}{s:Shared}{Q:VK}{vs:List V}(F:FnOk X.prog X.w X.K X.mg X.base CX k f fd ps sp)(hr:Room k X.A)(hb:Binds X.K fd ps ds)(hd:Vals dvs ds)(hx:dF CX X E)
 (I:Inv X pins σ H s) (r:Vals vs us) (h:sp (vs ++ dvs) H Q E):wpAny (model X.prog X.w) X.A (call (.ref f) us) (EP X pins σ Q) X.xe s:=by
 have r2:Vals (vs ++ dvs) (us ++ ds):=r.append hd
 have hl:(us ++ ds).length=ps.length:=by rw [<- r2.length];exact F.len _ _ _ _ h
 refine wpAny_call (codeAny_mono (F.run X.A X.stack s H ⟨us,[]⟩ (us ++ ds) (vs ++ dvs) Q E hr I.env0 (hb s us I.kIn hl) r2 h) fun r s' hq=>?_)
 cases r with
 | error e=>exact hx pins σ H s e s' I hq
 | ok fl=>
  cases fl with
  | ret u=>exact I.after hq
  | next=>exact False.elim hq
  | brk=>exact False.elim hq
  | cont=>exact False.elim hq
theorem zj(F:FnOk X.prog X.w X.K X.mg X.base CX k f fd ps sp)(hr:Room k X.A)(hg:Gl X x)(hm:X.mg x=some (.ref f))(hk:PySem.W.keepIn X.K (.ref f)=true)(hb:Binds X.K fd ps ds)(hd:Vals dvs ds)(hx:dF CX X E)
  (ha:PA X (e :: es) t) (hdb:(x == ("__debug__":Str))=false:=by decide) (he:starEach (e :: es) X.env=(false,eval e X.env) :: starEach es X.env:=by rfl) (hpl:(backTo pos (starEach es X.env)).any (·.1)=false:=by rfl) :
  PE X (.Call (.Name x p) (e :: es) [] pos) (pY sp dvs E t):=by
 intro pins s σ H Q I h
 refine wpAny_Call_Name_kw (gi I hg hm ?_ hdb)
 refine PySem.W.callWith_K (h₀:=X.base) I.ok.mod.kin hk (thn (ha pos pins s σ H _ I h) fun us s1 ⟨vs,H1,I1,r,q⟩=>⟨I1.kIn,?_⟩) he hpl
 exact qP F hr hb hd hx I1 r q
theorem sw{pl:Sem Bool}(he:PE X o ta)(c:Cls X.K C)(hm:tI X.K C m f)(F:FnOk X.prog X.w X.K X.mg X.base CX k f fd ps sp)(hr:Room k X.A)(hb:Binds X.K fd ps ds)(hd:Vals dvs ds)(hx:dF CX X E)(ha:PA X (e :: es) t)
  (hst:starEach (e :: es) X.env=(false,eval e X.env) :: starEach es X.env:=by rfl) (hpl:(backTo pos (starEach es X.env)).any (·.1)=false:=by rfl)
  (ht:eval (.Call (.Attribute o m apos) (e :: es) [] pos) X.env=(do
   let ov <- eval o X.env
   standAt apos.atName
   let (f,first) <- holding [ov] (getMethod ov m pl)
   callWith pos f first (backTo pos (starEach (e :: es) X.env)) (backToKw pos (keywordEach [] X.env))):=by rfl) :
  PE X (.Call (.Attribute o m apos) (e :: es) [] pos) (hW C m sp dvs E ta t):=by
 intro pins s σ H Q I h
 refine PySem.W.methodCall_KW (pl:=pl) (thn (he pins s σ H _ I h) fun u s1 hhx=>?_) ht
 obtain ⟨x,H1,I1,rx,a,dx,fs,ex,ea,l,q⟩:=hhx
 subst ex
 obtain rfl:u=Value.ref a:=rx
 refine fR I1 ea c hm l ?_
 refine PySem.W.callWith_K (first:=[.ref a]) (h₀:=X.base) I.ok.mod.kin hm.kp (thn (ha pos pins s1 σ H1 _ I1 q) fun us s2 ⟨vs,H2,I2,r,q2⟩=>⟨I2.kIn,?_⟩) hst hpl
 exact qP (us:=.ref a :: us) (vs:=.ref a :: vs) F hr hb hd hx I2 (.cons rfl r) q2
theorem wt{pl:Sem Bool}(he:PE X o ta)(c:Cls X.K C)(hm:tI X.K C m f)(F:FnOk X.prog X.w X.K X.mg X.base CX k f fd ps sp)(hr:Room k X.A)(hb:Binds X.K fd ps ds)(hd:Vals dvs ds)(hx:dF CX X E)
  (ht:eval (.Call (.Attribute o m apos) [] [] pos) X.env=(do
   let ov <- eval o X.env
   standAt apos.atName
   let (f,first) <- holding [ov] (getMethod ov m pl)
   callWith pos f first (backTo pos (starEach [] X.env)) (backToKw pos (keywordEach [] X.env))):=by rfl) :
  PE X (.Call (.Attribute o m apos) [] [] pos) (hW C m sp dvs E ta mG):=by
 intro pins s σ H Q I h
 refine PySem.W.methodCall_KW (pl:=pl) (thn (he pins s σ H _ I h) fun u s1 hhx=>?_) ht
 obtain ⟨x,H1,I1,rx,a,dx,fs,ex,ea,l,q⟩:=hhx
 subst ex
 obtain rfl:u=Value.ref a:=rx
 refine fR I1 ea c hm l ?_
 exact PySem.W.callWith_K0 (first:=[.ref a]) I1.kIn hm.kp (qP (us:=[.ref a]) (vs:=[.ref a]) F hr hb hd hx I1 (.cons rfl .nil) q)
structure Mk(K:PySem.W.Frag)(C f:Addr):Prop where
 makes:PySem.W.makesIn K C=true
 init:PySem.W.findIn K (.ref C) "__init__"=some (some (.ref f))
 fn:PySem.W.isFn K (.ref f)=true
 kp:PySem.W.keepIn K (.ref C)=true
theorem pz{pins:List (Addr×Obj)}{σ:St}{H:Hp}{s:Shared}{Q:VK}{us:List Value}{vs:List V}(M:Mk X.K C f)(F:FnOk X.prog X.w X.K X.mg X.base CX k f fd ps sp)(hr:Room (k+1) X.A)(hb:Binds X.K fd ps ds)(hd:Vals dvs ds)
  (hx:dF CX X E) (I:Inv X pins σ H s) (r:Vals vs us)
  (h:∀x dx,H x=none->H dx=none->dx≠x->sp (.ref x :: (vs ++ dvs)) (upd (upd H dx (.own x)) x (.ins C dx [])) (fun v H2=>v=.non/\Q (.ref x) H2) E) :
  wpAny (model X.prog X.w) X.A (call (.ref C) us) (EP X pins σ Q) X.xe s:=by
 have hq:=h (s.heap.objs.size+1) s.heap.objs.size (I.hok.fresh (Nat.le_succ _)) (I.hok.fresh (Nat.le_refl _)) (Nat.ne_of_lt (Nat.lt_succ_self _))
 have I2:=Inv.made (C:=C) I
 have r2:Vals (V.ref (s.heap.objs.size+1) :: (vs ++ dvs)) (Value.ref (s.heap.objs.size+1) :: (us ++ ds)):=.cons rfl (r.append hd)
 have hl:(Value.ref (s.heap.objs.size+1) :: us ++ ds).length=ps.length:=by
  have e:=r2.length
  rw [F.len _ _ _ _ hq] at e
  exact e.symm
 refine wpAny_call (vE (f:=f) I.kIn M.makes M.init (beq_iff_eq.mp M.fn) (codeAny_mono (F.run _ X.stack _ _ ⟨Value.ref (s.heap.objs.size+1) :: us,[]⟩ (Value.ref (s.heap.objs.size+1) :: (us ++ ds)) _ _ E (hr.make C us [])
  (I2.env0.make C us []) (hb _ (Value.ref (s.heap.objs.size+1) :: us) I2.kIn hl) r2 hq) fun r s' hq'=>?_))
 cases r with
 | error e=>exact hx pins σ _ _ e s' I2 hq'
 | ok fl=>
  cases fl with
  | ret u=>
   obtain ⟨v,H',I3,rv,ev,q3⟩:=I2.after hq'
   subst ev
   exact ⟨rv,⟨V.ref (s.heap.objs.size+1),H',I3,rfl,q3⟩⟩
  | next=>exact False.elim hq'
  | brk=>exact False.elim hq'
  | cont=>exact False.elim hq'
theorem zn(M:Mk X.K C f)(F:FnOk X.prog X.w X.K X.mg X.base CX k f fd ps sp)(hr:Room (k+1) X.A)(hg:Gl X x)(hm:X.mg x=some (.ref C))(hb:Binds X.K fd ps ds)(hd:Vals dvs ds)(hx:dF CX X E)
  (ha:PA X (e :: es) t) (hdb:(x == ("__debug__":Str))=false:=by decide) (he:starEach (e :: es) X.env=(false,eval e X.env) :: starEach es X.env:=by rfl) (hpl:(backTo pos (starEach es X.env)).any (·.1)=false:=by rfl) :
  PE X (.Call (.Name x p) (e :: es) [] pos) (iK C sp dvs E t):=by
 intro pins s σ H Q I h
 refine wpAny_Call_Name_kw (gi I hg hm ?_ hdb)
 refine PySem.W.callWith_K (h₀:=X.base) I.ok.mod.kin M.kp (thn (ha pos pins s σ H _ I h) fun us s1 ⟨vs,H1,I1,r,q⟩=>⟨I1.kIn,?_⟩) he hpl
 exact pz M F hr hb hd hx I1 r q
theorem wq(M:Mk X.K C f)(F:FnOk X.prog X.w X.K X.mg X.base CX k f fd ps sp)(hr:Room (k+1) X.A)(hg:Gl X x)(hm:X.mg x=some (.ref C))(hb:Binds X.K fd ps ds)(hd:Vals dvs ds)(hx:dF CX X E)
  (hdb:(x == ("__debug__":Str))=false:=by decide):PE X (.Call (.Name x p) [] [] pos) (iK C sp dvs E mG):=by
 intro pins s σ H Q I h
 refine wpAny_Call_Name_kw (gi I hg hm ?_ hdb)
 exact PySem.W.callWith_K0 I.kIn M.kp (pz (us:=[]) M F hr hb hd hx I .nil h)
end
section
variable {X:Cx} {CX:CXT} {k:Nat} {f C:Addr} {fd:FuncData} {ps ks:List Str} {sp:Sp} {E:XK} {x m:Str} {p pos apos kpos:Pos} {e o:Expr} {es:List Expr} {kws:List Keyword} {te ta:TE} {t tk:TA} {nm:Option Str}
variable {g:List Value->List Value->List Value} {gV:List V->List V->List V}
end
structure aB(N P:List Str)(sc:Scope):Prop where
 kind:sc.kind=.function
 co:sc.isCoroutine=false
 gen:sc.isGenerator=false
 nd:N.Nodup
 pre:N.take P.length=P
 par:∀x∈P,sc.names.lookup x=some .local\/sc.names.lookup x=some .cell
 nofree:∀y∈sc.names,y.2≠.free
theorem kU{kindOf:Str->Option NameKind}{x:Str}:∀{binds:List (Str×Value)} {m:Str->Option Value},(∀v,(x,v)∉binds)->bindL kindOf binds m x=m x
 | [],_,_=>rfl
 | (n,v) :: r,m,h=>by
  unfold bindL
  rw [kU fun w hw=>h w (List.mem_cons_of_mem _ hw)]
  split
  ·have:x≠n:=by rintro rfl;exact h v List.mem_cons_self
   simp [this]
  ·rfl
theorem kS{kindOf:Str->Option NameKind}{x:Str}:∀{binds:List (Str×Value)} {m:Str->Option Value},(∀v,(x,v)∉binds)->bindC kindOf binds m x=m x
 | [],_,_=>rfl
 | (n,v) :: r,m,h=>by
  unfold bindC
  rw [kS fun w hw=>h w (List.mem_cons_of_mem _ hw)]
  split
  ·rfl
  ·have:x≠n:=by rintro rfl;exact h v List.mem_cons_self
   simp [this]
theorem kT{kindOf:Str->Option NameKind}{x:Str}{v:Value}:∀{P:List Str} {vs:List Value} {i:Nat} {m:Str->Option Value},P.Nodup->P[i]?=some x->vs[i]?=some v->kindOf x=some .local->
  bindL kindOf (P.zip vs) m x=some v
 | [],_,_,_,_,h,_,_=>by simp at h
 | _ :: _,[],_,_,_,_,h,_=>by simp at h
 | p :: P,w :: vs,0,m,nd,h1,h2,hk=>by
  simp at h1 h2;subst h1;subst h2
  show bindL kindOf ((p,w) :: P.zip vs) m p=_
  unfold bindL
  rw [kU fun v hv=>(List.nodup_cons.mp nd).1 (List.of_mem_zip hv).1,if_pos hk]
  simp
 | p :: P,w :: vs,i+1,m,nd,h1,h2,hk=>by
  show bindL kindOf ((p,w) :: P.zip vs) m x=_
  unfold bindL
  exact kT (i:=i) (List.nodup_cons.mp nd).2 (by simpa using h1) (by simpa using h2) hk
theorem kR{kindOf:Str->Option NameKind}{x:Str}{v:Value}:∀{P:List Str} {vs:List Value} {i:Nat} {m:Str->Option Value},P.Nodup->P[i]?=some x->vs[i]?=some v->kindOf x≠some .local->
  bindC kindOf (P.zip vs) m x=some v
 | [],_,_,_,_,h,_,_=>by simp at h
 | _ :: _,[],_,_,_,_,h,_=>by simp at h
 | p :: P,w :: vs,0,m,nd,h1,h2,hk=>by
  simp at h1 h2;subst h1;subst h2
  show bindC kindOf ((p,w) :: P.zip vs) m p=_
  unfold bindC
  rw [kS fun v hv=>(List.nodup_cons.mp nd).1 (List.of_mem_zip hv).1,if_neg hk]
  simp
 | p :: P,w :: vs,i+1,m,nd,h1,h2,hk=>by
  show bindC kindOf ((p,w) :: P.zip vs) m x=_
  unfold bindC
  exact kR (i:=i) (List.nodup_cons.mp nd).2 (by simpa using h1) (by simpa using h2) hk
def aG(N:List Str)(vs:List V):St:=vs.map some ++ List.replicate (N.length - vs.length) none
def qo(CX:CXT)(P:Program)(w:World)(K:PySem.W.Frag)(mg:Str->Option Value)(base:Heap)(N:List Str)(qual:Str)(scope:Scope)(f:Addr)(cd:Value)(A:Around)(outer:List Env)(s:Shared)(H:Hp)(E:XK):Cx where
 prog:=P
 w:=w
 K:=K
 mg:=mg
 base:=base
 A:=A.deeper (envOfC qual scope s.heap.objs.size f cd)
 N:=N
 s₀:=s
 H₀:=H
 env:=envOfC qual scope s.heap.objs.size f cd
 outer:=outer
 stack:=envOfC qual scope s.heap.objs.size f cd :: outer
 ex:=[]
 calm:=true
 fn:=fun _=>true
 pn:=[]
 xe:=fun e s'=>wpAny (model P w) (A.deeper (envOfC qual scope s.heap.objs.size f cd)) (leaving (envOfC qual scope s.heap.objs.size f cd) e) (fun _ s''=>CX outer H s E e s'') (fun e' s''=>CX outer H s E e' s'') s'
theorem nB{sc:Scope}{n:Nat}{x:Str}(h:sc.names.lookup x=some .cell):∃c,(cellsFrom n sc.names []).lookup x=some c:=by
 have q:=PySem.W.cellsFrom_some sc.names n [] (.inl h)
 exact Option.isSome_iff_exists.mp q
theorem tZ{CX:CXT}{P:Program}{w:World}{K:PySem.W.Frag}{mg:Str->Option Value}{base:Heap}{N ps:List Str}{qual:Str}{scope:Scope}{f:Addr}{cd:Value}{A:Around}{outer:List Env}{s s1:Shared}{H:Hp}{E:XK}{us:List Value}{vs:List V}
  (S:aB N ps scope) (hd:A.handled=none) (e0:Env0 P w K mg base A outer s H) (hl:vs.length=ps.length) (r:Vals vs us)
  (x:InCallC s s.heap.objs.size (bindL (envOfC qual scope s.heap.objs.size f cd).kindOf (ps.zip us) fun _=>none) (cellsFrom (s.heap.objs.size+1) scope.names []) (bindC (envOfC qual scope s.heap.objs.size f cd).kindOf (ps.zip us) fun _=>none) s1) :
  Inv (qo CX P w K mg base N qual scope f cd A outer s H E) [] (aG N vs) H s1:=by
 have hpl:ps.length<=N.length:=by have:=congrArg List.length S.pre;rw [List.length_take] at this;omega
 obtain ⟨h1,tk,rfl,hk⟩:=x.done
 have noA:∀b:Addr,b∉(qo CX P w K mg base N qual scope f cd A outer s H E).ex:=fun b z=>absurd (show b∈([]:List Addr) from z) (by simp)
 refine ⟨⟨e0.mod,S.kind,rfl,rfl,Nat.le_refl _,fun y z c h1 h2=>?_,fun y hy=>?_,fun y c _ h=>?_,fun _=>hd,Around.frames_deeper e0.frames,.inr ⟨rfl,rfl⟩,fun b z=>absurd z (noA b),e0.bs,e0.bsz,fun b _ _=>noA b,fun b z=>absurd z (noA b),e0.funs,e0.frf⟩,
  rfl,e0.bare,Un.kept hk,⟨_,x.toInCall.ns,fun i y v h1 h2 h3=>?_⟩,fun y c h=>⟨_,x.cell y c h⟩,e0.hok.fresh (Nat.le_refl _),fun y c h=>?_,fun p hp=>absurd (show p∈([]:List (Addr×Obj)) from hp) (by simp),e0.hok.kept hk,?_⟩
 ·exact name_of_addr x.apart (PySem.mem_of_lookup h1) (PySem.mem_of_lookup h2)
 ·have hy:scope.names.lookup y=some .cell\/scope.names.lookup y=some .free:=hy
  rcases hy with hy | hy
  ·exact nB hy
  ·exact absurd rfl (S.nofree _ (PySem.mem_of_lookup hy))
 ·exact Nat.le_of_lt (x.above y c (PySem.mem_of_lookup h))
 ·have hi:i < vs.length:=by
   unfold aG at h2
   by_cases hi:i < vs.length
   ·exact hi
   ·rw [List.getElem?_append_right (by simpa using hi)] at h2
    rw [List.getElem?_replicate] at h2
    split at h2 <;> cases h2
  have ha:vs[i]?=some v:=by
   unfold aG at h2
   rw [List.getElem?_append_left (by simpa using hi),List.getElem?_map] at h2
   cases e:vs[i]? with
   | none=>rw [e] at h2;cases h2
   | some a=>rw [e] at h2;cases h2;rfl
  obtain ⟨u,hu,rv⟩:=r.get ha
  have hp:ps[i]?=some y:=by
   rw [<- S.pre,List.getElem?_take_of_lt (by omega)];exact h1
  have ndP:ps.Nodup:=by rw [<- S.pre];exact S.nd.sublist (List.take_sublist _ _)
  refine ⟨u,rv,?_⟩
  rcases S.par y (List.mem_of_getElem? hp) with k | k
  ·exact .inl ⟨k,kT ndP hp hu k⟩
  ·obtain ⟨c,e⟩:=nB (n:=s.heap.objs.size+1) k
   refine .inr ⟨.inl k,c,e,?_⟩
   have q:=x.cell y c e
   rw [kR ndP hp hu (by show scope.names.lookup y≠_;rw [k];decide)] at q
   exact q
 ·exact e0.hok.fresh (Nat.le_of_lt (x.above y c (PySem.mem_of_lookup h)))
 ·unfold aG
  show _=N.length
  rw [List.length_append,List.length_map,List.length_replicate]
  omega
theorem Cp{CX:CXT}{P:Program}{w:World}{K:PySem.W.Frag}{mg:Str->Option Value}{base:Heap}{k:Nat}{f:Addr}{name qual:Str}{params:Arguments}{body:List Stmt}{scope:Scope}{dV kV doc pm cdv ct oc:Value}{an od:Option Addr}
  {osl:Array (Option Value)} {N ps:List Str} {sp:Sp} (lk:K.lookup f=some ⟨oc,od,.func (PySem.W.fnOf name qual params body scope dV kV doc pm an cdv ct),osl⟩) (hcd:PySem.W.codeIn K cdv qual=true) (S:aB N ps scope)
  (len:∀vs H Q E,sp vs H Q E->vs.length=ps.length)
  (hbody:∀(A:Around)(outer:List Env)(s:Shared)(H:Hp)(vs:List V)(Q:VK)(E:XK),Room k (A.deeper (envOfC qual scope s.heap.objs.size f cdv))->sp vs H Q E->
   ∃t,PSs (qo CX P w K mg base N qual scope f cdv A outer s H E) body t/\t {nx:=fun _ H'=>Q .non H',rt:=Q} (aG N vs) H) :
  FnOk P w K mg base CX (k+1) f (PySem.W.fnOf name qual params body scope dV kV doc pm an cdv ct) ps sp:=by
 refine ⟨len,fun A outer s H args us vs Q E hr e0 hb r hsp=>?_⟩
 have hl:=len _ _ _ _ hsp
 have KX:K.In s.heap:=e0.mod.kin.keeps fun b o e=>(e0.bs b o e).1
 have lim:s.heap.NoLimit:=e0.mod.nolimit.keeps fun b o e=>(e0.bs b o e).1
 have hkind:∀y∈ps.zip us,scope.names.lookup y.1=some .local\/(scope.names.lookup y.1=some .cell/\((cellsFrom (s.heap.objs.size+1) scope.names []).lookup y.1).isSome=true):=fun ⟨n,v⟩ hy=>by
  rcases S.par n (List.of_mem_zip hy).1 with q | q
  ·exact .inl q
  ·exact .inr ⟨q,PySem.W.cellsFrom_some _ _ _ (.inl q)⟩
 refine codeAny_call_function hr.depth (KX _ _ lk) rfl S.co S.gen rfl (PySem.W.codeRec_of KX hcd) (hb _ _ _ _ ?_)
 refine wpAny_newFunctionEnv_cells S.kind hkind fun env he s1 x=>?_
 subst he
 refine ⟨lim.keeps x.toInCall.keep,codeAny_func ?_⟩
 obtain ⟨t,ht,hq⟩:=hbody A outer s H vs Q E (hr.deeper _) hsp
 have I:Inv (qo CX P w K mg base N qual scope f cdv A outer s H E) [] (aG N vs) H s1:=tZ S hr.hd e0 hl r x
 refine wpAny_mono (ht [] s1 (aG N vs) H _ I hq) (fun fl s' hs=>?_) fun e s' hs=>hs
 have fin:∀{σ':St} {H':Hp} {v:V} {u:Value},Inv (qo CX P w K mg base N qual scope f cdv A outer s H E) [] σ' H' s'->RelV v u->Q v H'->CE outer P w H s Q u s':=
  fun {σ' H' v u} J rv q=>⟨v,H',J.os,J.bare,J.base,J.hok,rv,q⟩
 cases fl with
 | ret u=>
  obtain ⟨v,σ',H',J,rv,q⟩:=hs
  exact fin J rv q
 | next=>
  obtain ⟨σ',H',J,q⟩:=hs
  exact fin (v:=V.non) (u:=Value.none) J rfl q
 | brk=>
  obtain ⟨_,_,_,q⟩:=hs
  exact False.elim q
 | cont=>
  obtain ⟨_,_,_,q⟩:=hs
  exact False.elim q
end L2
namespace L2
open PySem PySem.Spec PyProof.Rows
section
variable {X:Cx} {x:Str} {p pos:Pos} {e:Expr} {es:List Expr} {t:TA} {id T:String} {r:List V->Hp->VK->Prop}
def tCB(r:List V->Hp->VK->Prop)(t:TA):TE:=fun σ H Q=>t σ H fun vs H1=>r vs H1 Q
theorem we(hc:cw X (.builtin id) r)(hg:Gl X x)(hm:X.mg x=none)(hv:bootBuiltins x=some (.builtin id))(ha:PA X (e :: es) t)(hn:x≠"__name__":=by decide) (hdb:(x == ("__debug__":Str))=false:=by decide)
  (he:starEach (e :: es) X.env=(false,eval e X.env) :: starEach es X.env:=by rfl) (hpl:(backTo pos (starEach es X.env)).any (·.1)=false:=by rfl):PE X (.Call (.Name x p) (e :: es) [] pos) (tCB r t):=by
 intro pins s σ H Q I h
 refine wpAny_Call_Name_kw (df I hg hm hv ?_ hn hdb)
 exact PyProof.Rows.callWith_builtin1 (thn (ha pos pins s σ H _ I h) fun us s1 ⟨vs,H1,I1,r1,q1⟩=>hc pins s1 σ H1 vs us Q I1 r1 q1) he hpl
theorem uq(hc:cw X (.type T) r)(hg:Gl X x)(hm:X.mg x=none)(hv:bootBuiltins x=some (.type T))(ha:PA X (e :: es) t)(hn:x≠"__name__":=by decide) (hdb:(x == ("__debug__":Str))=false:=by decide)
  (he:starEach (e :: es) X.env=(false,eval e X.env) :: starEach es X.env:=by rfl) (hpl:(backTo pos (starEach es X.env)).any (·.1)=false:=by rfl):PE X (.Call (.Name x p) (e :: es) [] pos) (tCB r t):=by
 intro pins s σ H Q I h
 refine wpAny_Call_Name_kw (df I hg hm hv ?_ hn hdb)
 exact PyProof.Rows.callWith_type1 (thn (ha pos pins s σ H _ I h) fun us s1 ⟨vs,H1,I1,r1,q1⟩=>hc pins s1 σ H1 vs us Q I1 r1 q1) he hpl
end
end L2
namespace HT
open PySem PyProof.Rows
section
open PySem.SeqAt
open PySem.AutoSeq1 (wpAny_loadPart')
open PySem.MeetsSeq PySem.MeetsSeq2 PySem.MeetsSeq3
end
section
variable {prog:Program} {w:World} {A:Around} {E:Value->Shared->Prop} {s:Shared}
def sIx(n d:Nat):Option Int->Nat
 | none=>d
 | some v=>if v < 0 then (v+(n:Int)).toNat else min v.toNat n
theorem kg(n d:Nat):sIx n d none=d:=rfl
theorem iV(n d k:Nat):sIx n d (some (k:Int))=min k n:=by
 show (if (k:Int) < 0 then ((k:Int)+(n:Int)).toNat else min (k:Int).toNat n)=min k n
 rw [if_neg (by omega),Int.toNat_natCast]
theorem BZ(n d:Nat)(hd:d<=n)(o:Option Int):sIx n d o<=n:=by
 cases o with
 | none=>exact hd
 | some v=>
  show (if v < 0 then (v+(n:Int)).toNat else min v.toNat n)<=n
  by_cases hv:v < 0
  ·rw [if_pos hv];omega
  ·rw [if_neg hv];exact Nat.min_le_right _ _
theorem rN(v:Int)(n d:Nat):(if v < 0 then max (v+(n:Int)) 0 else min v (n:Int))=((sIx n d (some v):Nat):Int):=by
 show (if v < 0 then max (v+(n:Int)) 0 else min v (n:Int))=(((if v < 0 then (v+(n:Int)).toNat else min v.toNat n):Nat):Int)
 by_cases hv:v < 0
 ·simp only [if_pos hv];omega
 ·simp only [if_neg hv];omega
theorem qh(lo hi:Option Int)(n:Nat):Builtin.Slice.sliceAdjust lo hi 1 (n:Int)=(((sIx n 0 lo:Nat):Int),((sIx n n hi:Nat):Int)):=by
 have h1:¬((1:Int) < 0):=by omega
 unfold Builtin.Slice.sliceAdjust
 simp only [h1,if_false]
 refine Prod.ext ?_ ?_
 ·cases lo with
  | none=>rfl
  | some v=>exact rN v n 0
 ·cases hi with
  | none=>rfl
  | some v=>exact rN v n n
theorem qK(i j:Nat):Builtin.Slice.slicePlaces (i:Int) (j:Int) 1=j - i:=by
 unfold Builtin.Slice.slicePlaces
 have h1:(1:Int) > 0:=by omega
 simp only [h1,if_true,Int.ediv_one]
 split <;> omega
theorem kt{v:Value}{o:Option Int}{Q:Option Int->Shared->Prop}(p:IsPart v o)(h:Q o s):wpAny (model prog w) A (Builtin.Slice.slicePartIndex v) Q E s:=by
 cases p with
 | none=>exact slicePart_none h
 | int i t=>exact slicePart_int h
theorem il{sl:Addr}{vl vu:Value}{lo hi:Option Int}{n:Nat}{Q:Int×Int×Nat->Shared->Prop}(hs:s.heap.IsSliceOf sl vl vu .none)(pl:IsPart vl lo)(pu:IsPart vu hi)
  (h:Q (((sIx n 0 lo:Nat):Int),1,sIx n n hi - sIx n 0 lo) s):wpAny (model prog w) A (Builtin.Slice.sliceApplied (.ref sl) (pure (n:Int))) Q E s:=by
 obtain ⟨os,hos,hcs,hds⟩:=id hs
 unfold Builtin.Slice.sliceApplied Builtin.Slice.sliceFields
 refine wpAny_bind (wpAny_bind (wpAny_field hos hds (x:=vl) rfl (wpAny_bind (wpAny_field hos hds (x:=vu) rfl (wpAny_bind (wpAny_field hos hds (x:=.none) rfl (wpAny_pure ?_)))))))
 refine wpAny_bind (slicePart_none ?_)
 show wpAny _ _ (if ((1:Int) == 0)=true then _ else _) _ _ s
 rw [if_neg (by decide)]
 refine wpAny_bind (kt pl (wpAny_bind (kt pu (wpAny_bind (wpAny_pure ?_)))))
 show wpAny _ _ (match Builtin.Slice.sliceAdjust lo hi 1 (n:Int) with | (lo,hi)=>pure (lo,(1:Int),Builtin.Slice.slicePlaces lo hi 1)) _ _ s
 rw [qh lo hi n]
 show wpAny _ _ (pure (((sIx n 0 lo:Nat):Int),(1:Int),Builtin.Slice.slicePlaces ((sIx n 0 lo:Nat):Int) ((sIx n n hi:Nat):Int) 1)) _ _ s
 rw [qK]
 exact wpAny_pure h
theorem wy(xs:Array Value)(i k:Nat):((List.range k).filterMap fun (m:Nat)=>xs[((i:Int)+(m:Int) * 1).toNat]?).toArray=((xs.toList.drop i).take k).toArray:=by
 have e:(fun (m:Nat)=>xs[((i:Int)+(m:Int) * 1).toNat]?)=fun m=>xs[i+m]?:=by
  funext m
  have:((i:Int)+(m:Int) * 1).toNat=i+m:=by omega
  rw [this]
 rw [e]
 have:=pick_run xs i k
 rw [List.filterMap_map] at this
 have e2:((fun x=>xs[x]?) ∘ fun x=>i+x)=fun m=>xs[i+m]?:=rfl
 rw [e2] at this
 rw [this]
theorem gc{t sl:Addr}{items:Array Value}{vl vu:Value}{lo hi:Option Int}{Q:Value->Shared->Prop}(ht:IsTup s.heap t items)(hs:s.heap.IsSliceOf sl vl vu .none)(pl:IsPart vl lo)(pu:IsPart vu hi)
  (hw:¬(sIx items.size 0 lo=0/\sIx items.size items.size hi=items.size))
  (h:Q (.ref s.heap.objs.size) {s with heap:=s.heap.push {cls:=.type "tuple",data:=.seq ((items.toList.drop (sIx items.size 0 lo)).take (sIx items.size items.size hi - sIx items.size 0 lo)).toArray}})
  (hsz:items.size<=sizeLine):wpAny (model prog w) A (getItem (.ref t) (.ref sl)) Q E s:=by
 have htake:sizeOk (.seq ((items.toList.drop (sIx items.size 0 lo)).take (sIx items.size items.size hi - sIx items.size 0 lo)).toArray):=by
  show ((items.toList.drop (sIx items.size 0 lo)).take (sIx items.size items.size hi - sIx items.size 0 lo)).toArray.size<=sizeLine
  rw [List.size_toArray,List.length_take,List.length_drop,Array.length_toList]
  omega
 have hj:sIx items.size items.size hi<=items.size:=BZ _ _ (Nat.le_refl _) hi
 obtain ⟨os,hos,hcs,hds⟩:=id hs
 have hTs:s.TypeIs (.ref sl) "slice":=⟨os,hos,hcs⟩
 unfold getItem
 try with_reducible refine wpAny_holding ?_
 first | refine wpAny_bind (wpAny_pure ?_) | skip
 refine wpAny_bind (wpAny_sequenceKey ht.typeIs (by decide) ?_)
 refine wpAny_bind (wpAny_callSpecial?_slot (name:=Str.ofString "__getitem__") ht.typeIs PyProof.Rows.slot_tuple_getitem
  (wpAny_call_entry PyProof.Rows.slot_tuple_getitem ht.typeIs entry_tuple_getitem ?_ (args_tuple_getitem _ _)))
 show wpAny _ _ (Builtin.Tuple.tupleItemsOf (.ref t) >>= _) _ _ s
 refine wpAny_bind (tupleItemsOf_ ht ?_)
 refine wpAny_bind (wpAny_typeOf hTs ?_)
 rw [if_pos (by decide)]
 refine wpAny_bind (il hs pl pu ?_)
 have hno:¬((((sIx items.size 0 lo:Nat):Int) == 0 && (1:Int) == 1 && (sIx items.size items.size hi - sIx items.size 0 lo) == items.size)=true):=by
  intro q
  rw [Bool.and_eq_true,Bool.and_eq_true] at q
  have q1:((sIx items.size 0 lo:Nat):Int)=0:=eq_of_beq q.1.1
  have q2:sIx items.size items.size hi - sIx items.size 0 lo=items.size:=eq_of_beq q.2
  exact hw ⟨by omega,by omega⟩
 show wpAny _ _ (if (((sIx items.size 0 lo:Nat):Int) == 0 && (1:Int) == 1 && (sIx items.size items.size hi - sIx items.size 0 lo) == items.size)=true then _ else _) _ _ s
 rw [if_neg hno,wy]
 first
  | exact wpAny_bind (m:=Builtin.Tuple.tupleExact _) (wpAny_newObj_type (wpAny_pure ⟨_,rfl,wpAny_pure h⟩) htake)
  | exact wpAny_bind (m:=Builtin.Tuple.tupleExact _) (wpAny_newObj_type (wpAny_bind (wpAny_pure (wpAny_pure ⟨_,rfl,wpAny_pure h⟩))) htake)
  | exact wpAny_bind (wpAny_bind (m:=Builtin.Tuple.tupleExact _) (wpAny_newObj_type (wpAny_pure (wpAny_pure ⟨_,rfl,wpAny_pure h⟩)) htake))
  | exact wpAny_bind (wpAny_bind (m:=Builtin.Tuple.tupleExact _) (wpAny_newObj_type (wpAny_pure ⟨_,rfl,wpAny_pure h⟩) htake))
end
end HT
namespace L2
open PySem PySem.Spec PyProof.Rows
abbrev TO:=St->Hp->(Option Int->Hp->Prop)->Prop
def PO(X:Cx)(e:Option Expr)(t:TO):Prop:=
 ∀(pins:List (Addr×Obj)) (s:Shared) (σ:St) (H:Hp) (Q:Option Int->Hp->Prop),Inv X pins σ H s->t σ H Q->
  wpAny (model X.prog X.w) X.A (evalPart e X.env) (fun u s'=>∃o H',Inv X pins σ H' s'/\IsPart u o/\Q o H') X.xe s
def mH:TO:=fun _ H Q=>Q none H
def xX(t:TE):TO:=fun σ H Q=>t σ H fun x H1=>∃i,x=.int i/\Q (some i) H1
section
variable {X:Cx} {e:Expr} {te:TE} {lo hi:Option Expr} {tl th:TO} {pos p2:Pos}
theorem zt:PO X none mH:=by
 intro pins s σ H Q I h
 rw [evalPart_none]
 exact wpAny_pure ⟨none,H,I,.none,h⟩
theorem zu(h:PE X e te):PO X (some e) (xX te):=by
 intro pins s σ H Q I hw
 rw [evalPart_some]
 refine thn (h pins s σ H _ I hw) fun u s1 hhx=>?_
 obtain ⟨x,H1,I1,r1,q1⟩:=hhx
 obtain ⟨i,rfl,q⟩:=q1
 obtain ⟨t,rfl⟩:=r1
 exact ⟨some i,H1,I1,.int i t,q⟩
def SlR(X:Cx)(r:V->Option Int->Option Int->Hp->VK->Prop):Prop:=
 ∀(pins:List (Addr×Obj)) (s:Shared) (σ:St) (H:Hp) (x:V) (v vl vu:Value) (lo hi:Option Int) (sl:Addr) (Q:VK),Inv X pins σ H s->RelV x v->s.heap.IsSliceOf sl vl vu .none->IsPart vl lo->IsPart vu hi->r x lo hi H Q->
  ∃T id,typeLookup (.type T) "__getitem__"=pure (some (.builtin id))/\s.TypeIs v T/\wpAny (model X.prog X.w) X.A (getItem v (.ref sl)) (EP X pins σ Q) X.xe s
def tSl(r:V->Option Int->Option Int->Hp->VK->Prop)(te:TE)(tl th:TO):TE:=fun σ H Q=>te σ H fun x H1=>tl σ H1 fun l H2=>th σ H2 fun u H3=>r x l u H3 Q
theorem wv{r:V->Option Int->Option Int->Hp->VK->Prop}(hr:SlR X r)(he:PE X e te)(hl:PO X lo tl)(hu:PO X hi th):PE X (.Subscript e (.Slice lo hi none p2) pos) (tSl r te tl th):=by
 intro pins s σ H Q I h
 refine Subscript_ (thn (he pins s σ H _ I h) fun v s1 hhx=>?_)
 obtain ⟨x,H1,I1,r1,q1⟩:=hhx
 refine wpAny_Slice (thn (hl pins s1 σ H1 _ I1 q1) fun vl s2 ⟨l,H2,I2,pl,q2⟩=>thn (hu pins s2 σ H2 _ I2 q2) fun vu s3 hhx=>?_)
 obtain ⟨u,H3,I3,pu,q3⟩:=hhx
 rw [evalPart_none]
 refine wpAny_pure ?_
 have I4:Inv X pins σ H3 {s3 with heap:=s3.heap.push {cls:=.type "slice",data:=.fields #[vl,vu,.none]}}:=I3.kept (t':=s3.toks) fun b ob q=>Heap.get?_push_of_some _ q
 obtain ⟨T,id,hT,ht,hg⟩:=hr pins {s3 with heap:=s3.heap.push {cls:=.type "slice",data:=.fields #[vl,vu,.none]}} σ H3 x v vl vu l u s3.heap.objs.size Q I4 r1 (Heap.IsSliceOf.new ..) pl pu q3
 show wpAny (model X.prog X.w) X.A (subscriptTail e (.Slice lo hi none p2) v (.ref s3.heap.objs.size)) (EP X pins σ Q) X.xe {s3 with heap:=s3.heap.push {cls:=.type "slice",data:=.fields #[vl,vu,.none]}}
 exact tail_any (ops:=[.ref s3.heap.objs.size,v]) ht hT hg (by with_unfolding_all rfl)
def cR(xs:List V)(lo hi:Option Int):List V:=(xs.drop (HT.sIx xs.length 0 lo)).take (HT.sIx xs.length xs.length hi - HT.sIx xs.length 0 lo)
theorem iy(xs:List V)(lo hi:Option Int):(cR xs lo hi).length<=xs.length:=by
 unfold cR
 rw [List.length_take,List.length_drop]
 omega
def CP(K:PySem.W.Frag):V->Option Int->Option Int->Hp->VK->Prop:=fun x lo hi H Q=>∃a xs,x=.ref a/\SqT K H a xs/\
 ¬(HT.sIx xs.length 0 lo=0/\HT.sIx xs.length xs.length hi=xs.length)/\∀p,H p=none->Q (.ref p) (upd H p (.tup (cR xs lo hi)))
theorem kr:SlR X (CP X.K):=by
 intro pins s σ H x v vl vu lo hi sl Q I rx hs pl pu h
 obtain ⟨a,xs,rfl,hx,hw,q⟩:=h
 cases rx
 obtain ⟨its,r,ht,hz⟩:=I.tuple hx
 have hlen:its.toArray.size=xs.length:=by rw [List.size_toArray];exact r.length.symm
 refine ⟨"tuple",_,PyProof.Rows.slot_tuple_getitem.lookup,ht.typeIs,?_⟩
 refine HT.gc ht hs pl pu (by rw [hlen];exact hw) ?_ (by rw [hlen];exact hz)
 rw [hlen]
 refine ⟨.ref s.heap.objs.size,_,I.laid (t':=s.toks) (o:=.tup (cR xs lo hi)) (fun b ob q=>Heap.get?_push_of_some _ q) (Nat.le_refl _) ?_,rfl,q _ (I.hok.fresh (Nat.le_refl _))⟩
 exact ⟨Nat.le_trans (iy xs lo hi) hz,_,(r.drop (HT.sIx xs.length 0 lo)).take (HT.sIx xs.length xs.length hi - HT.sIx xs.length 0 lo),IsTup.new _ _⟩
end
end L2
namespace L2
open PySem PySem.Spec PyProof.Rows
def ixN(n:Nat)(i:Int):Option Nat:=if 0<=i then (if i < n then some i.toNat else none) else if -(n:Int)<=i then some (i+n).toNat else none
def atI{α:Type}(xs:List α)(i:Int):Option α:=(ixN xs.length i).bind fun j=>xs[j]?
theorem si{n:Nat}{i:Int}{j:Nat}(h:ixN n i=some j):seqIndex? i n=some j/\j < n/\-(n:Int)<=i/\i < n:=by
 unfold ixN at h
 by_cases h0:0<=i
 ·rw [if_pos h0] at h
  by_cases h1:i < n
  ·rw [if_pos h1] at h
   have e:i.toNat=j:=Option.some.inj h
   exact ⟨by rw [seqIndex_of h0 h1,e],by omega,by omega,h1⟩
  ·rw [if_neg h1] at h;cases h
 ·rw [if_neg h0] at h
  by_cases h1:-(n:Int)<=i
  ·rw [if_pos h1] at h
   have e:(i+n).toNat=j:=Option.some.inj h
   exact ⟨by rw [seqIndex_neg (by omega) h1,e],by omega,h1,by omega⟩
  ·rw [if_neg h1] at h;cases h
theorem lY{α:Type}{xs:List α}{i:Int}{v:α}(h:atI xs i=some v):∃j,seqIndex? i xs.length=some j/\xs[j]?=some v/\j < xs.length/\-(xs.length:Int)<=i/\i < xs.length:=by
 unfold atI at h
 cases e:ixN xs.length i with
 | none=>rw [e] at h;cases h
 | some j=>
  rw [e] at h
  obtain ⟨h1,h2,h3,h4⟩:=si e
  exact ⟨j,h1,h,h2,h3,h4⟩
theorem bc{α:Type}{xs:List α}{j:Nat}{v:α}(h:xs[j]?=some v):atI xs (j:Int)=some v:=by
 have hj:j < xs.length:=(List.getElem?_eq_some_iff.mp h).1
 have e:ixN xs.length (j:Int)=some j:=by
  unfold ixN
  rw [if_pos (by omega),if_pos (by omega)];simp
 unfold atI;rw [e];exact h
theorem mV{α:Type}(xs:List α)(v:α):atI (xs ++ [v]) (-1)=some v:=by
 have hl:(xs ++ [v]).length=xs.length+1:=by simp
 have e:ixN (xs ++ [v]).length (-1)=some xs.length:=by
  unfold ixN
  rw [hl,if_neg (by decide),if_pos (by omega)]
  congr 1
  omega
 unfold atI
 rw [e]
 show (xs ++ [v])[xs.length]?=some v
 simp
def rq(b:Expr):Prop:=∀o i,subscripted b false o i=operate [o,i] (getItem o i)
def IxR(X:Cx)(r:R2):Prop:=
 ∀(value slice:Expr)(pins:List (Addr×Obj)) (s:Shared) (σ:St) (H:Hp) (x y:V) (v u:Value) (Q:VK),Inv X pins σ H s->RelV x v->RelV y u->r x y H Q->
  subscripted slice false v u=operate [v,u] (getItem v u)->wpAny (model X.prog X.w) X.A (subscriptTail value slice v u) (EP X pins σ Q) X.xe s
def MtR(X:Cx)(id:String)(r:V->List V->Hp->VK->Prop):Prop:=
 ∀(pins:List (Addr×Obj)) (s:Shared) (σ:St) (H:Hp) (x:V) (xs:List V) (v:Value) (us:List Value) (Q:VK),Inv X pins σ H s->RelV x v->Vals xs us->r x xs H Q->
  wpAny (model X.prog X.w) X.A (call (.builtin id) (v :: us)) (EP X pins σ Q) X.xe s
section
variable {X:Cx} {a b:Expr} {ta tb:TE} {pos:Pos}
theorem CD{r:R2}(hr:IxR X r)(ha:PE X a ta)(hb:PE X b tb)(hs:rq b):PE X (.Subscript a b pos) (tOp r ta tb):=by
 intro pins s σ H Q I h
 exact Subscript_ (AT ha hb I h fun v u s2 x y H2 I2 rx ry q=>hr a b pins s2 σ H2 x y v u Q I2 rx ry q (hs _ _))
def BQ(K:PySem.W.Frag):R2:=fun x y H Q=>∃p xs i v,x=.ref p/\y=.int i/\SqL K H p xs/\atI xs i=some v/\Q v H
def BR(K:PySem.W.Frag):R2:=fun x y H Q=>∃p xs i v,x=.ref p/\y=.int i/\SqT K H p xs/\atI xs i=some v/\Q v H
def CM:R2:=fun x y H Q=>∃z i c,x=.str z/\y=.int i/\z.length<=sizeLine/\atI z.cps.toList i=some c/\Q (.str ⟨#[c]⟩) H
theorem aR:IxR X (BQ X.K):=by
 intro value slice pins s σ H x y v u Q I rx ry h hs
 obtain ⟨p,xs,i,z,rfl,rfl,hq,he,q⟩:=h
 cases rx
 obtain ⟨t,rfl⟩:=ry
 obtain ⟨its,r,pl,hz⟩:=I.list hq
 obtain ⟨j,h1,h2,h3,h4,h5⟩:=lY he
 obtain ⟨w,ew,rw'⟩:=r.get h2
 have hl:=r.length
 have hn:=ji
 have fin:EP X pins σ Q w s:=⟨z,H,I,rw',q⟩
 by_cases h0:0<=i
 ·have hj:i.toNat=j:=by
   rw [seqIndex_of h0 h5] at h1
   exact Option.some.inj h1
  exact item_listR pl.isList h0 (by omega) (by rw [hj];simpa using ew) fin hs
 ·have hj:(i+(its.toArray.size:Int)).toNat=j:=by
   rw [seqIndex_neg (by omega) h4] at h1
   rw [List.size_toArray,<- hl]
   exact Option.some.inj h1
  exact subscriptTail_builtinR (x:=w) pl.isList.typeIs slot_list_getitem.lookup
   (wpAny_getItem_list_neg (Q:=fun r s'=>r=w/\EP X pins σ Q r s') pl.isList (by omega) (by rw [List.size_toArray] <;> omega) (by omega) (by rw [hj];simpa using ew) ⟨rfl,fin⟩) hs
theorem aw:IxR X (BR X.K):=by
 intro value slice pins s σ H x y v u Q I rx ry h hs
 obtain ⟨p,xs,i,z,rfl,rfl,hq,he,q⟩:=h
 cases rx
 obtain ⟨t,rfl⟩:=ry
 obtain ⟨its,r,pl,hz⟩:=I.tuple hq
 obtain ⟨j,h1,h2,h3,h4,h5⟩:=lY he
 obtain ⟨w,ew,rw'⟩:=r.get h2
 have hl:=r.length
 have hn:=ji
 have fin:EP X pins σ Q w s:=⟨z,H,I,rw',q⟩
 exact subscriptTail_builtinR (x:=w) pl.typeIs slot_tuple_getitem.lookup
  (getItem_tuple (j:=j) (Q:=fun r s'=>r=w/\EP X pins σ Q r s') pl (by omega) (by omega) (by rw [List.size_toArray,<- hl];exact h1) (by simpa using ew) ⟨rfl,fin⟩) hs
theorem B7:IxR X CM:=by
 intro value slice pins s σ H x y v u Q I rx ry h hs
 obtain ⟨z,i,c,rfl,rfl,hz,he,q⟩:=h
 obtain ⟨t,rfl⟩:=rx
 obtain ⟨t',rfl⟩:=ry
 obtain ⟨j,h1,h2,h3,h4,h5⟩:=lY he
 have hl:z.cps.toList.length=z.length:=by simp [Str.length]
 rw [hl] at h1 h4 h5
 have hn:=ji
 exact tail_any (typeIs_str s z t) slot_str_getitem.lookup (getItem_str (c:=c) (by
  have e1:decide (i < -(2 ^ 63:Int))=false:=decide_eq_false (by omega)
  have e2:decide (i ≥ 2 ^ 63)=false:=decide_eq_false (by omega)
  rw [e1,e2,Bool.or_false]) (by rw [h1];simpa using h2) ⟨.str ⟨#[c]⟩,H,I.tok _,⟨_,rfl⟩,q⟩) hs
theorem qG(its:List Value)(n j:Nat)(u:Value):Obj.mapSeq (·.setIfInBounds j u) {cls:=.type "list",data:=.seq its.toArray n}={cls:=.type "list",data:=.seq (its.set j u).toArray n}:=by
 simp [Obj.mapSeq]
theorem Inv.lst{pins:List (Addr×Obj)}{σ:St}{H:Hp}{s:Shared}{p:Addr}{xs:List V}(I:Inv X pins σ H s)(h:H p=some (.lst xs)):
  ∃(its:List Value)(n:Nat),Vals xs its/\s.heap.get? p=some {cls:=.type "list",data:=.seq its.toArray n}/\xs.length<=sizeLine:=by
 obtain ⟨z,its,n,r,e⟩:=I.hok p _ h
 exact ⟨its,n,r,e,z⟩
theorem Inv.lstUpd{pins:List (Addr×Obj)}{σ:St}{H:Hp}{s:Shared}{p:Addr}{xs ys:List V}{its its':List Value}{n n':Nat}{f:Obj->Obj}(I:Inv X pins σ H s)(h:H p=some (.lst xs))
  (ho:s.heap.get? p=some {cls:=.type "list",data:=.seq its.toArray n}) (hf:f {cls:=.type "list",data:=.seq its.toArray n}={cls:=.type "list",data:=.seq its'.toArray n'}) (r:Vals ys its') (hz:ys.length<=sizeLine) (t:Nat) :
  Inv X pins σ (upd H p (.lst ys)) {s with heap:=s.heap.update p f,toks:=t}:=by
 have e:(s.heap.update p f).get? p=some {cls:=.type "list",data:=.seq its'.toArray n'}:=by
  rw [Heap.get?_update_self f ho (by rw [hf] <;> rfl),hf]
 refine I.write (x:=p) (e:=p) (by rw [h];trivial) (.inl rfl) (fun b u hb q=>(Heap.get?_update_other _ _ (Ne.symm hb)).trans q) ⟨_,e⟩ ?_
 exact ⟨hz,its',n',r,e⟩
def CN:V->V->V->Hp->(Hp->Prop)->Prop:=fun o i v H Q=>∃p xs k j,o=.ref p/\i=.int k/\H p=some (.lst xs)/\ixN xs.length k=some j/\Q (upd H p (.lst (xs.set j v)))
theorem kq:AS X CN:=by
 intro pins s σ H o i v ov iv u Q I ro ri rv h
 obtain ⟨p,xs,k,j,rfl,rfl,hp,hj,q⟩:=h
 cases ro
 obtain ⟨t,rfl⟩:=ri
 obtain ⟨its,n,r,ho,hz⟩:=I.lst hp
 obtain ⟨h1,h2,h3,h4⟩:=si hj
 have hl:=r.length
 have hn:=ji
 have I':Inv X pins σ (upd H p (.lst (xs.set j v))) {s with heap:=s.heap.update p (Obj.mapSeq (·.setIfInBounds j u))}:=
  I.lstUpd hp ho (qG its n j u) (r.set rv j) (by rw [List.length_set];exact hz) s.toks
 by_cases h0:0<=k
 ·have hk:k.toNat=j:=by
   rw [seqIndex_of h0 h4] at h1
   exact Option.some.inj h1
  exact PySem.W.ki_setAt ho h0 (by omega) (by rw [List.size_toArray,<- hl];exact h4) (by rw [hk];exact ⟨_,I',q⟩)
 ·have hk:(k+(its.toArray.size:Int)).toNat=j:=by
   rw [seqIndex_neg (by omega) h3] at h1
   rw [List.size_toArray,<- hl]
   exact Option.some.inj h1
  exact PySem.W.ki_setBack ho (by omega) (by rw [List.size_toArray,<- hl];exact h3) (by omega) (by rw [hk];exact ⟨_,I',q⟩)
theorem mz(lo hi:Option Int)(n:Nat):(sliceBounds lo hi none n).1=((HT.sIx n 0 lo:Nat):Int)/\(sliceBounds lo hi none n).2.1=((HT.sIx n n hi:Nat):Int)/\(sliceBounds lo hi none n).2.2=1:=by
 refine ⟨?_,?_,rfl⟩
 ·cases lo with
  | none=>simp [sliceBounds,HT.sIx]
  | some i=>
   simp only [sliceBounds,HT.sIx,Option.getD_none,show (1:Int) > 0 by decide,if_true]
   by_cases h:i < 0
   ·simp only [h,if_true] <;> omega
   ·simp only [h,if_false] <;> omega
 ·cases hi with
  | none=>simp [sliceBounds,HT.sIx]
  | some i=>
   simp only [sliceBounds,HT.sIx,Option.getD_none,show (1:Int) > 0 by decide,if_true]
   by_cases h:i < 0
   ·simp only [h,if_true] <;> omega
   ·simp only [h,if_false] <;> omega
theorem kO(its:List Value)(lo hi:Option Int):slicePick its.toArray lo hi none=((its.drop (HT.sIx its.length 0 lo)).take (HT.sIx its.length its.length hi - HT.sIx its.length 0 lo)).toArray:=by
 obtain ⟨h1,h2,h3⟩:=mz lo hi its.toArray.size
 unfold slicePick
 rw [h1,h2,h3]
 simp only [sliceRange_one,pick_run,List.size_toArray] <;> rfl
def CO(K:PySem.W.Frag):V->Option Int->Option Int->Hp->VK->Prop:=fun x lo hi H Q=>∃a xs,x=.ref a/\SqL K H a xs/\∀p,H p=none->Q (.ref p) (upd H p (.lst (cR xs lo hi)))
theorem cK:SlR X (CO X.K):=by
 intro pins s σ H x v vl vu lo hi sl Q I rx hs pl pu h
 obtain ⟨a,xs,rfl,hx,q⟩:=h
 cases rx
 obtain ⟨its,r,ht,hz⟩:=I.list hx
 have hlen:=r.length
 refine ⟨"list",_,slot_list_getitem.lookup,ht.isList.typeIs,?_⟩
 refine wpAny_getItem_list_slice ht.isList hs pl pu .none (by simp) ?_ (by rw [List.size_toArray] <;> omega)
 rw [kO,<- hlen]
 refine ⟨.ref s.heap.objs.size,_,I.laid (t':=s.toks) (o:=.lst (cR xs lo hi)) (fun b ob q=>Heap.get?_push_of_some _ q) (Nat.le_refl _) ?_,rfl,q _ (I.hok.fresh (Nat.le_refl _))⟩
 exact ⟨Nat.le_trans (iy xs lo hi) hz,_,0,(r.drop (HT.sIx xs.length 0 lo)).take (HT.sIx xs.length xs.length hi - HT.sIx xs.length 0 lo),Heap.get?_push_size _ rfl⟩
def bz:V->Bool
 | .non=>true
 | .bl _=>true
 | .int _=>true
 | .str _=>true
 | _=>false
def eqV:V->V->Bool
 | .non,.non=>true
 | .bl a,.bl b=>a == b
 | .bl a,.int b=>(if a then 1 else 0) == b
 | .int a,.bl b=>a == (if b then 1 else 0)
 | .int a,.int b=>a == b
 | .str a,.str b=>a == b
 | _,_=>false
theorem vh{A:Around}{s:Shared}{y x:V}{u v:Value}(ry:RelV y u)(rx:RelV x v)(fy:bz y=true)(fx:bz x=true):SeqAt.EqAt A s u v (eqV y x):=by
 cases y with
 | non=>
  cases ry
  cases x with
  | non=>cases rx;exact SeqAt.EqAt.same _
  | bl b=>cases rx;exact SeqAt.EqAt.none_bool b
  | int b=>obtain ⟨t,rfl⟩:=rx;exact SeqAt.EqAt.none_int b t
  | str b=>obtain ⟨t,rfl⟩:=rx;exact SeqAt.EqAt.none_str b t
  | _=>exact absurd (show false=true from fx) Bool.false_ne_true
 | bl a=>
  cases ry
  cases x with
  | non=>cases rx;exact SeqAt.EqAt.bool_none a
  | bl b=>cases rx;exact SeqAt.EqAt.bool_bool a b
  | int b=>obtain ⟨t,rfl⟩:=rx;exact SeqAt.EqAt.bool_int a b t
  | str b=>obtain ⟨t,rfl⟩:=rx;exact SeqAt.EqAt.bool_str a b t
  | _=>exact absurd (show false=true from fx) Bool.false_ne_true
 | int a=>
  obtain ⟨t',rfl⟩:=ry
  cases x with
  | non=>cases rx;exact SeqAt.EqAt.int_none a t'
  | bl b=>cases rx;exact SeqAt.EqAt.int_bool a t' b
  | int b=>obtain ⟨t,rfl⟩:=rx;exact SeqAt.EqAt.int_int a t' b t
  | str b=>obtain ⟨t,rfl⟩:=rx;exact SeqAt.EqAt.int_str a t' b t
  | _=>exact absurd (show false=true from fx) Bool.false_ne_true
 | str a=>
  obtain ⟨t',rfl⟩:=ry
  cases x with
  | non=>cases rx;exact SeqAt.EqAt.str_none a t'
  | bl b=>cases rx;exact SeqAt.EqAt.str_bool a t' b
  | int b=>obtain ⟨t,rfl⟩:=rx;exact SeqAt.EqAt.str_int a t' b t
  | str b=>obtain ⟨t,rfl⟩:=rx;exact SeqAt.EqAt.str_str a t' b t
  | _=>exact absurd (show false=true from fx) Bool.false_ne_true
 | _=>exact absurd (show false=true from fy) Bool.false_ne_true
def eqU(x:V)(u:Value):Bool:=match u with
 | .none=>eqV .non x
 | .bool b=>eqV (.bl b) x
 | .int i _=>eqV (.int i) x
 | .str z _=>eqV (.str z) x
 | _=>false
theorem qz{x y:V}{u:Value}(r:RelV y u)(f:bz y=true):eqU x u=eqV y x:=by
 cases y with
 | non=>cases r;rfl
 | bl b=>cases r;rfl
 | int i=>obtain ⟨t,rfl⟩:=r;rfl
 | str z=>obtain ⟨t,rfl⟩:=r;rfl
 | _=>exact absurd (show false=true from f) Bool.false_ne_true
theorem fZ{x:V}:∀{xs:List V} {us:List Value},Vals xs us->xs.all bz=true->us.any (eqU x)=xs.any fun y=>eqV y x
 | _,_,.nil,_=>rfl
 | y :: xs,u :: us,.cons r t,f=>by
  rw [List.all_cons,Bool.and_eq_true] at f
  rw [List.any_cons,List.any_cons,qz r f.1,fZ t f.2]
theorem dk{A:Around}{s:Shared}{x:V}{v:Value}(rx:RelV x v)(fx:bz x=true):∀{xs:List V} {us:List Value},Vals xs us->xs.all bz=true->∀u∈us,SeqAt.EqAt A s u v (eqU x u)
 | _,_,.nil,_=>fun u hu=>by cases hu
 | y :: xs,u :: us,.cons r t,f=>fun u' hu=>by
  rw [List.all_cons,Bool.and_eq_true] at f
  rcases List.mem_cons.mp hu with rfl | hu
  ·rw [qz r f.1];exact vh r rx f.1 fx
  ·exact dk rx fx t f.2 u' hu
def inV(x:V)(xs:List V):Bool:=xs.any fun y=>eqV y x
def rIn(K:PySem.W.Frag)(neg:Bool):R2:=fun x y H Q=>∃p xs,y=.ref p/\(SqL K H p xs\/SqT K H p xs)/\bz x=true/\xs.all bz=true/\Q (.bl (if neg then !inV x xs else inV x xs)) H
theorem bY:OpR X (compareOp .In) (rIn X.K false):=by
 intro pins s σ H x y v u Q I rx ry h
 obtain ⟨p,xs,rfl,hq,fx,fs,q⟩:=h
 cases ry
 rcases hq with hq | hq
 ·obtain ⟨its,r,pl,hz⟩:=I.list hq
  refine SeqAt.in_listAt (eqU x) pl.isList (fun w hw=>dk rx fx r fs w (by simpa using hw)) ⟨.bl _,H,I,rfl,?_⟩
  rw [show its.toArray.any (eqU x)=its.any (eqU x) by simp,fZ r fs]
  exact q
 ·obtain ⟨its,r,pl,hz⟩:=I.tuple hq
  refine SeqAt.in_tupleAt (eqU x) pl (fun w hw=>dk rx fx r fs w (by simpa using hw)) ⟨.bl _,H,I,rfl,?_⟩
  rw [show its.toArray.any (eqU x)=its.any (eqU x) by simp,fZ r fs]
  exact q
theorem cG:OpR X (compareOp .NotIn) (rIn X.K true):=by
 intro pins s σ H x y v u Q I rx ry h
 obtain ⟨p,xs,rfl,hq,fx,fs,q⟩:=h
 cases ry
 rcases hq with hq | hq
 ·obtain ⟨its,r,pl,hz⟩:=I.list hq
  refine SeqAt.notIn_listAt (eqU x) pl.isList (fun w hw=>dk rx fx r fs w (by simpa using hw)) ⟨.bl _,H,I,rfl,?_⟩
  rw [show its.toArray.any (eqU x)=its.any (eqU x) by simp,fZ r fs]
  exact q
 ·obtain ⟨its,r,pl,hz⟩:=I.tuple hq
  refine SeqAt.notIn_tupleAt (eqU x) pl (fun w hw=>dk rx fx r fs w (by simpa using hw)) ⟨.bl _,H,I,rfl,?_⟩
  rw [show its.toArray.any (eqU x)=its.any (eqU x) by simp,fZ r fs]
  exact q
theorem au:cw X (.builtin "len") (fun xs H Q=>∃p ys,xs=[.ref p]/\(SqL X.K H p ys\/SqT X.K H p ys)/\Q (.int ys.length) H):=by
 intro pins s σ H xs us Q I r h
 obtain ⟨p,ys,rfl,hq,q⟩:=h
 obtain ⟨u,rfl,rx⟩:=eR r
 cases rx
 have hn:=ji
 rcases hq with hq | hq
 ·obtain ⟨its,r',pl,hz⟩:=I.list hq
  have hlen:=r'.length
  exact Calls.call_len_list pl.isList (by simp only [List.size_toArray] <;> omega) ⟨.int ys.length,H,I.tok _,⟨s.toks+1,by rw [List.size_toArray,hlen]⟩,q⟩
 ·obtain ⟨its,r',pl,hz⟩:=I.tuple hq
  have hlen:=r'.length
  exact len_tuple pl (by simp only [List.size_toArray] <;> omega) ⟨.int ys.length,H,I.tok _,⟨s.toks+1,by rw [List.size_toArray,hlen]⟩,q⟩
theorem bX:cw X (.type "list") (fun xs H Q=>∃p ys,xs=[.ref p]/\(SqL X.K H p ys\/SqT X.K H p ys)/\∀l,H l=none->Q (.ref l) (upd H l (.lst ys))):=by
 intro pins s σ H xs us Q I r h
 obtain ⟨p,ys,rfl,hq,q⟩:=h
 obtain ⟨u,rfl,rx⟩:=eR r
 cases rx
 have fin:∀(its:List Value),Vals ys its->ys.length<=sizeLine->∀(h':Heap)(c':Nat),(∀b o',s.heap.get? b=some o'->h'.get? b=some o')->
   h'.get? s.heap.objs.size=some {cls:=.type "list",dict:=none,data:=.seq its.toArray c',slots:=#[]}->EP X pins σ Q (.ref s.heap.objs.size) {s with heap:=h'}:=fun its r' hz h' c' kp e=>
  ⟨.ref s.heap.objs.size,_,I.laid (t':=s.toks) kp (Nat.le_refl _) (show ObjOk X.prog X.w _ h' _ (.lst ys) from ⟨hz,its,c',r',e⟩),rfl,q _ (I.hok.fresh (Nat.le_refl _))⟩
 rcases hq with hq | hq
 ·obtain ⟨its,r',pl,hz⟩:=I.list hq
  have hlen:=r'.length
  obtain ⟨o,ho,hc,n,hd⟩:=pl.isList
  exact call_list_seq p (.inl rfl) ho hc hd (fun h' c' kp e=>fin its r' hz h' c' kp e) (by simp only [List.size_toArray] <;> omega)
 ·obtain ⟨its,r',pl,hz⟩:=I.tuple hq
  have hlen:=r'.length
  obtain ⟨o,ho,hc,n,hd⟩:=pl
  exact call_list_seq p (.inr rfl) ho hc hd (fun h' c' kp e=>fin its r' hz h' c' kp e) (by simp only [List.size_toArray] <;> omega)
theorem kG:cw X (.type "tuple") (fun xs H Q=>∃p ys,xs=[.ref p]/\((SqL X.K H p ys/\∀l,H l=none->Q (.ref l) (upd H l (.tup ys)))\/(SqT X.K H p ys/\Q (.ref p) H))):=by
 intro pins s σ H xs us Q I r h
 obtain ⟨p,ys,rfl,h⟩:=h
 obtain ⟨u,rfl,rx⟩:=eR r
 cases rx
 rcases h with ⟨hq,q⟩ | ⟨hq,q⟩
 ·obtain ⟨its,r',pl,hz⟩:=I.list hq
  have hlen:=r'.length
  refine call_tuple_list pl.isList (fun h' kp=>?_) (by simp only [List.size_toArray] <;> omega)
  have I1:Inv X pins σ H {s with heap:=h'}:=I.kept (t':=s.toks) kp
  have I2:Inv X pins σ (upd H h'.objs.size (.tup ys)) {s with heap:=h'.push {cls:=.type "tuple",data:=.seq its.toArray}}:=
   I1.laid (t':=s.toks) (fun b o e=>Heap.get?_push_of_some _ e) (Nat.le_refl _) (show ObjOk X.prog X.w _ _ _ (.tup ys) from ⟨hz,its,r',IsTup.new _ _⟩)
  exact ⟨.ref h'.objs.size,_,I2,rfl,q _ (I1.hok.fresh (Nat.le_refl _))⟩
 ·obtain ⟨its,r',pl,hz⟩:=I.tuple hq
  exact call_tuple_same pl ⟨.ref p,H,I,rfl,q⟩
def tyV(K:PySem.W.Frag)(T:String)(x:V)(H:Hp):Prop:=match x with
 | .str _=>T="str"
 | .int _=>T="int"
 | .ref p=>(T="list"/\∃xs,SqL K H p xs)\/(T="tuple"/\∃o,K.lookup p=some o/\o.cls=.type "tuple"/\o.dict=none)\/
   (T="dict"/\((∃kvs,H p=some (.dK kvs))\/∃kvs,H p=some (.dT kvs)))\/(T="set"/\∃S n,H p=some (.set S n))
 | _=>False
theorem ya{pins:List (Addr×Obj)}{σ:St}{H:Hp}{s:Shared}{T:String}{x:V}{v:Value}(I:Inv X pins σ H s)(r:RelV x v)(ty:tyV X.K T x H):
  s.TypeIs v T/\∀a,v=.ref a->∃ob,s.heap.get? a=some ob/\ob.dict=none:=by
 cases x with
 | str z=>
  obtain ⟨t,rfl⟩:=r
  cases (show T="str" from ty)
  exact ⟨typeIs_str s z t,fun _ e=>nomatch e⟩
 | int i=>
  obtain ⟨t,rfl⟩:=r
  cases (show T="int" from ty)
  exact ⟨typeIs_int s i t,fun _ e=>nomatch e⟩
 | ref p=>
  cases r
  rcases ty with ⟨rfl,xs,hq⟩ | ⟨rfl,o,hk,hc,hd⟩ | ⟨rfl,hk⟩ | ⟨rfl,S,n,hk⟩
  ·obtain ⟨its,_,pl,_⟩:=I.list hq
   refine ⟨pl.isList.typeIs,fun a e=>?_⟩
   cases e
   obtain ⟨o,n,e,c,hd,_⟩:=pl
   exact ⟨o,e,hd⟩
  ·refine ⟨⟨o,I.kIn p o hk,hc⟩,fun a e=>?_⟩
   cases e
   exact ⟨o,I.kIn _ o hk,hd⟩
  ·have z:∃o,s.heap.get? p=some o/\o.ExactDict:=by
    rcases hk with ⟨kvs,hk⟩ | ⟨kvs,hk⟩
    ·obtain ⟨_,_,_,_,o,_,_,e,ex,_⟩:=I.hok p _ hk
     exact ⟨o,e,ex⟩
    ·obtain ⟨_,_,_,_,o,_,_,e,ex,_⟩:=I.hok p _ hk
     exact ⟨o,e,ex⟩
   obtain ⟨o,e,ex⟩:=z
   refine ⟨⟨o,e,ex.1⟩,fun a e2=>?_⟩
   cases e2
   exact ⟨o,e,ex.2.1⟩
  ·obtain ⟨o,_,_,_,e,ex,_⟩:=I.hok p _ hk
   refine ⟨⟨o,e,ex.1⟩,fun a e2=>?_⟩
   cases e2
   exact ⟨o,e,ex.2.1⟩
 | _=>exact False.elim ty
def Df(K:PySem.W.Frag)(T:String)(r:V->List V->Hp->VK->Prop)(to:TE):TE:=fun σ H Q=>to σ H fun x H1=>tyV K T x H1/\r x [] H1 Q
def tBM(K:PySem.W.Frag)(T:String)(r:V->List V->Hp->VK->Prop)(to:TE)(t:TA):TE:=fun σ H Q=>to σ H fun x H1=>tyV K T x H1/\t σ H1 fun xs H2=>r x xs H2 Q
variable {o e:Expr} {es:List Expr} {to:TE} {t:TA} {name:Str} {apos cpos:Pos} {T id:String} {r:V->List V->Hp->VK->Prop}
theorem CC(pa:PlainAttrs T)(slot:Slot T name id)(hty:typeOf (.builtin id)=pure (.type "method_descriptor")) (hm:MtR X id r) (ho:PE X o to) (ha:PA X (e :: es) t)
  (hbase:attributeBase o name X.env (eval o X.env)=eval o X.env:=by rfl)
  (hfew:((backTo cpos (starEach (e :: es) X.env)).all (fun x=>!x.1) && (backToKw cpos (keywordEach [] X.env)).all (fun x=>x.1.isSome)
   && decide ((e :: es).length+([]:List Keyword).length+(if ([]:List Keyword).isEmpty then 0 else 1) < 30))=true:=by rfl)
  (hline:(apos.endLine == cpos.line)=true:=by rfl) (hs:starEach (e :: es) X.env=(false,eval e X.env) :: starEach es X.env:=by rfl) (hplain:(backTo cpos (starEach es X.env)).any (·.1)=false:=by rfl) :
  PE X (.Call (.Attribute o name apos) (e :: es) [] cpos) (tBM X.K T r to t):=by
 intro pins s σ H Q I h
 refine wpAny_Call_method_late hbase hfew hline rfl (thn (ho pins s σ H _ I h) fun v s1 hhx=>?_)
 obtain ⟨x,H1,I1,r1,ty,q1⟩:=hhx
 obtain ⟨h1,h2⟩:=ya I1 r1 ty
 refine ⟨T,id,pa,slot,hty,h1,h2,?_⟩
 have hA:=ha cpos pins s1 σ H1 _ I1 q1
 rw [hs] at hA ⊢
 refine Calls.callWith_builtin (by show (false || (backTo cpos (starEach es X.env)).any (·.1))=false;rw [hplain] <;> rfl) (Calls.evalArgs_plain ?_)
 exact thn hA fun us s2 ⟨vs,H2,I2,r2,q2⟩=>hm pins s2 σ H2 x vs v us Q I2 r1 r2 q2
/- xs.append(e),list.index on a module's tuple .. are MtR facts of 06m -/
end
end L2
namespace L2
open PySem PySem.Spec PyProof.Rows
def MtM(X:Cx)(id:String)(r:V->List V->Hp->VK->Prop):Prop:=
 ∀(pins:List (Addr×Obj)) (s:Shared) (σ:St) (H:Hp) (x:V) (xs:List V) (v:Value) (us:List Value) (Q:VK),Inv X pins σ H s->RelV x v->Vals xs us->r x xs H Q->
  wpAny (model X.prog X.w) X.A (call (.builtin id) (v :: us)) (EP X pins σ Q) X.xe s
theorem Vals.one:∀{x:V} {us:List Value},Vals [x] us->∃u,us=[u]/\RelV x u
 | _,_,.cons r .nil=>⟨_,rfl,r⟩
section
variable {X:Cx} {pins:List (Addr×Obj)} {σ:St} {H:Hp} {s:Shared} {l b:Addr} {xs ys zs:List V}
theorem Inv.lset{its its':List Value}{n:Nat}{f:Array Value->Array Value}{t':Nat}(I:Inv X pins σ H s)(hH:H l=some (.lst xs))
  (e:s.heap.get? l=some {cls:=.type "list",data:=.seq its.toArray n}) (hf:f its.toArray=its'.toArray) (hv:Vals ys its') (hz:ys.length<=sizeLine) :
  Inv X pins σ (upd H l (.lst ys)) {s with heap:=s.heap.update l (Obj.mapSeq f),toks:=t'}:=by
 have q:=PySem.IsL.update e f
 rw [hf] at q
 refine I.write (x:=l) (e:=l) (by rw [hH];exact trivial) (.inl rfl) (fun b' u hb hu=>(Heap.get?_update_other s.heap (Obj.mapSeq f) (Ne.symm hb)).trans hu) ⟨_,q⟩ ?_
 exact ⟨hz,its',_,hv,q⟩
theorem Inv.lnew{its:List Value}{t':Nat}(I:Inv X pins σ H s)(hv:Vals ys its)(hz:ys.length<=sizeLine):
  Inv X pins σ (upd H s.heap.objs.size (.lst ys)) {s with heap:=s.heap.push {cls:=.type "list",data:=.seq its.toArray},toks:=t'}:=
 I.laid (fun _ _ q=>Heap.get?_push_of_some _ q) (Nat.le_refl _) ⟨hz,its,0,hv,Heap.get?_push_size _ rfl⟩
theorem Inv.fresh(I:Inv X pins σ H s):H s.heap.objs.size=none:=I.hok.fresh (Nat.le_refl _)
theorem Inv.lstM(I:Inv X pins σ H s)(hH:H l=some (.lst xs)):xs.length<=sizeLine/\∃(its:List Value)(n:Nat),Vals xs its/\xs.length=its.length/\s.heap.get? l=some {cls:=.type "list",data:=.seq its.toArray n}:=by
 obtain ⟨z,its,n,r,e⟩:=I.hok l _ hH
 exact ⟨z,its,n,r,r.length,e⟩
theorem vJ{n:Nat}(h:n<=sizeLine):Builtin.List.listTooLong n=false:=by
 unfold Builtin.List.listTooLong
 exact decide_eq_false (by omega)
end
section
variable {X:Cx}
def sC:V->List V->Hp->VK->Prop:=fun x vs H Q=>∃l xs y,x=.ref l/\vs=[y]/\H l=some (.lst xs)/\xs.length < sizeLine/\Q .non (upd H l (.lst (xs ++ [y])))
theorem aP:MtM X "list.append" sC:=by
 intro pins s σ H x vs v us Q I rx rv h
 obtain ⟨l,xs,y,rfl,rfl,hH,hz,q⟩:=h
 cases rx
 obtain ⟨u,rfl,ru⟩:=rv.one
 obtain ⟨z,its,n,r,hl,e⟩:=I.lstM hH
 refine call_meets F.slot_list_append ⟨_,e,rfl⟩ F.entry_list_append (F.args_list_append_2 _ _) (PySem.list_append l its.toArray n u (by rw [List.size_toArray];omega)) ⟨e,?_⟩
 refine ⟨.non,_,I.lset (its':=its ++ [u]) hH e (by simp) (r.append (.cons ru .nil)) ?_,rfl,q⟩
 rw [List.length_append,List.length_singleton]
 omega
def sD:V->List V->Hp->VK->Prop:=fun x vs H Q=>∃l b xs zs,x=.ref l/\vs=[.ref b]/\H l=some (.lst xs)/\H b=some (.lst zs)/\xs.length+zs.length<=sizeLine/\Q .non (upd H l (.lst (xs ++ zs)))
theorem Cf:MtM X "list.extend" sD:=by
 intro pins s σ H x vs v us Q I rx rv h
 obtain ⟨l,b,xs,zs,rfl,rfl,hH,hB,hz,q⟩:=h
 cases rx
 obtain ⟨u,rfl,ru⟩:=rv.one
 cases ru
 obtain ⟨z,its,n,r,hl,e⟩:=I.lstM hH
 obtain ⟨z2,its2,n2,r2,hl2,e2⟩:=I.lstM hB
 have hsz:its.toArray.size+its2.toArray.size<=sizeLine:=by rw [List.size_toArray,List.size_toArray];omega
 have hlong:¬(!its.toArray.isEmpty && Builtin.List.listTooLong (its.toArray.size+its2.toArray.size))=true:=by
  rw [vJ hsz,Bool.and_false]
  exact Bool.false_ne_true
 refine call_meets F.slot_list_extend ⟨_,e,rfl⟩ F.entry_list_extend (F.args_list_extend_2 _ _)
  (AutoSeq1.list_extend_list_list_0 l its.toArray n b its2.toArray n2 hlong (by rw [List.size_toArray];omega) (by omega)) ⟨e,e2,?_⟩
 refine ⟨.non,_,I.lset (its':=its ++ its2) hH e (by simp) (r.append r2) ?_,rfl,q⟩
 rw [List.length_append]
 omega
def Dd:V->List V->Hp->VK->Prop:=fun x vs H Q=>∃l xs y,x=.ref l/\vs=[]/\H l=some (.lst xs)/\xs[xs.length - 1]?=some y/\Q y (upd H l (.lst xs.dropLast))
def BS:V->List V->Hp->VK->Prop:=fun x vs H Q=>∃l xs i k y,x=.ref l/\vs=[.int i]/\H l=some (.lst xs)/\-(2 ^ 63)<=i/\i < 2 ^ 63/\seqIndex? i xs.length=some k/\xs[k]?=some y/\Q y (upd H l (.lst (xs.eraseIdx k)))
def wI:V->List V->Hp->VK->Prop:=fun x vs H Q=>∃l xs,x=.ref l/\vs=[]/\H l=some (.lst xs)/\Q .non (upd H l (.lst xs.reverse))
def CL:R2:=fun x y H Q=>∃l b xs zs,x=.ref l/\y=.ref b/\H l=some (.lst xs)/\H b=some (.lst zs)/\xs.length+zs.length<=sizeLine/\∀p,H p=none->Q (.ref p) (upd H p (.lst (xs ++ zs)))
theorem fU:OpR X (binaryOp .Add) CL:=by
 intro pins s σ H x y v u Q I rx ry h
 obtain ⟨l,b,xs,zs,rfl,rfl,hH,hB,hz,q⟩:=h
 cases rx
 cases ry
 obtain ⟨z,its,n,r,hl,e⟩:=I.lstM hH
 obtain ⟨z2,its2,n2,r2,hl2,e2⟩:=I.lstM hB
 refine PySem.P.add_list e e2 ?_ (by rw [List.size_toArray,List.size_toArray];omega)
 have ea:its.toArray ++ its2.toArray=(its ++ its2).toArray:=by simp
 rw [ea]
 exact ⟨.ref _,_,I.lnew (t':=s.toks) (r.append r2) (by rw [List.length_append];omega),rfl,q _ I.fresh⟩
end
section
variable {prog:Program} {w:World} {A:Around} {E:Value->Shared->Prop} {s:Shared}
end
section
variable {X:Cx}
end
end L2
variable {H:Hp} {o:Option V}
namespace L2
open PySem PySem.Spec PyProof.Rows
section
variable {κ:Type} [DecidableEq κ]
def d5(kvs:List (κ×V))(k:κ):Option V:=(kvs.find? fun kv=>decide (kv.1=k)).map (·.2)
def BN(kvs:List (κ×V))(k:κ)(v:V):List (κ×V):=
 if (kvs.any fun kv=>decide (kv.1=k))=true then kvs.map (fun kv=>if kv.1=k then (kv.1,v) else kv) else kvs ++ [(k,v)]
theorem kz{p:κ×V}{r:List (κ×V)}{k:κ}(e:p.1=k):d5 (p :: r) k=some p.2:=by simp [d5,List.find?_cons,e]
theorem i0{p:κ×V}{r:List (κ×V)}{k:κ}(e:¬p.1=k):d5 (p :: r) k=d5 r k:=by simp [d5,List.find?_cons,e]
theorem RelO.isSome_eq{o:Option V}{u:Option Value}(r:RelO o u):o.isSome=u.isSome:=by
 cases o with
 | none=>cases u with
  | none=>rfl
  | some _=>exact (show False from r).elim
 | some _=>cases u with
  | none=>exact (show False from r).elim
  | some _=>rfl
theorem RelO.getD{o:Option V}{u:Option Value}{d:V}{d':Value}(r:RelO o u)(rd:RelV d d'):RelV (o.getD d) (u.getD d'):=by
 cases o with
 | none=>cases u with
  | none=>exact rd
  | some _=>exact (show False from r).elim
 | some _=>cases u with
  | none=>exact (show False from r).elim
  | some _=>exact r
theorem KV.val{kvs:List (κ×V)}{vs:List (κ×Value)}(r:KV kvs vs)(k:κ):RelO (d5 kvs k) (valueAt vs k):=by
 unfold KV at r
 induction r with
 | nil=>exact True.intro
 | @cons p q ps qs h t ih=>
  obtain ⟨h1,h2⟩:=h
  by_cases e:p.1=k
  ·have e':q.1=k:=h1.symm.trans e
   have b:valueAt (q :: qs) k=some q.2:=by simp [valueAt,List.find?_cons,e']
   rw [kz e,b];exact h2
  ·have e':¬q.1=k:=fun z=>e (h1.trans z)
   have b:valueAt (q :: qs) k=valueAt qs k:=by simp [valueAt,List.find?_cons,e']
   rw [i0 e,b];exact ih
theorem KV.keys{kvs:List (κ×V)}{vs:List (κ×Value)}(r:KV kvs vs):kvs.map (·.1)=vs.map (·.1):=by
 unfold KV at r
 induction r with
 | nil=>rfl
 | cons h t ih=>rw [List.map_cons,List.map_cons,ih,h.1]
end
theorem sj{P:Program}{w:World}{k:Key}{u:Value}(r:RelV (kV k) u):(br P w).is k u=true:=by
 cases k with
 | inl i=>obtain ⟨t,e⟩:=(show ∃t,u=Value.int i t from r);subst e;exact o1 P w i t
 | inr x=>obtain ⟨t,e⟩:=(show ∃t,u=Value.str x t from r);subst e;exact oe P w x t
theorem ld{P:Program}{w:World}:∀{ks:List Key} {us:List Value},Vals (ks.map kV) us->ItemsAre (br P w) ks us
 | [],_,r=>by rw [List.map_nil] at r;cases r;exact .nil
 | k :: ks,_,r=>by
  rw [List.map_cons] at r
  cases r with
  | cons h t=>exact .cons (sj h) (ld t)
abbrev KT (H:Hp):List (List Key×V)->List (List Key×Addr×Value)->Prop:=Paired fun p q=>p.1=q.1/\H q.2.1=some (.tup (p.1.map kV))/\RelV p.2 q.2.2
theorem KT.val{H:Hp}{kvs:List (List Key×V)}{xs:List (List Key×Addr×Value)}(r:KT H kvs xs)(k:List Key):RelO (d5 kvs k) ((atKey xs k).map (·.2)):=by
 induction r with
 | nil=>exact True.intro
 | @cons p q ps qs h t ih=>
  obtain ⟨h1,_,h2⟩:=h
  by_cases e:p.1=k
  ·have e':q.1=k:=h1.symm.trans e
   have b:atKey (q :: qs) k=some q.2:=by simp [atKey,List.find?_cons,e']
   rw [kz e,b];exact h2
  ·have e':¬q.1=k:=fun z=>e (h1.trans z)
   have b:atKey (q :: qs) k=atKey qs k:=by simp [atKey,List.find?_cons,e']
   rw [i0 e,b];exact ih
theorem KT.keeps{H H':Hp}{kvs:List (List Key×V)}{xs:List (List Key×Addr×Value)}(r:KT H kvs xs)(ht:∀b ys,H b=some (.tup ys)->H' b=some (.tup ys)):KT H' kvs xs:=
 Paired.mapP r fun _ _ z=>⟨z.1,ht _ _ z.2.1,z.2.2⟩
section
variable {P:Program} {w:World} {H:Hp} {h:Heap} {a:Addr}
theorem Ax{u:HO}(ok:HOk P w H h)(e:Rd H a u):ObjOk P w H h a u:=e.ok ok
theorem rS{kvs:List (Key×V)}(ok:HOk P w H h)(e:Rd H a (.dK kvs)):kvs.length<=sizeLine/\(a == sysModules)=false/\∃vs,KV kvs vs/\h.DictOf (br P w) a vs:=
 show ObjOk P w H h a (.dK kvs) from Ax ok e
theorem jg{ks:List Key}(ok:HOk P w H h)(e:H a=some (.tup (ks.map kV))):(tupleKind (br P w)).is h ks a:=by
 obtain ⟨_,its,r,o,h1,h2,n,h3⟩:=(show ObjOk P w H h a (.tup (ks.map kV)) from ok a _ e)
 exact ⟨o,its.toArray,n,h1,h2,h3,by simpa using ld r⟩
theorem nN{kvs:List (List Key×V)}(ok:HOk P w H h)(e:Rd H a (.dT kvs)):kvs.length<=sizeLine/\(a == sysModules)=false/\
  ∃xs,KT H kvs xs/\h.DictOfH (tupleKind (br P w)) a xs:=by
 obtain ⟨z,y,xs,r,o,es,ep,h1,h2,h3,h4,h5⟩:=(show ObjOk P w H h a (.dT kvs) from Ax ok e)
 refine ⟨z,y,xs,r,o,es,ep,h1,h2,h3,h4,fun x hx=>?_,h5⟩
 have all:∀{l:List (List Key×V)} {m:List (List Key×Addr×Value)},KT H l m->∀x∈m,(tupleKind (br P w)).is h x.1 x.2.1:=by
  intro l m q
  induction q with
  | nil=>intro x hx;exact nomatch hx
  | @cons p q ps qs hq t ih=>
   intro x hx
   rcases List.mem_cons.mp hx with e | hx
   ·subst e
    exact jg ok (by rw [<- hq.1];exact hq.2.1)
   ·exact ih x hx
 exact all r x hx
theorem A4{kvs:List (List Key×V)}(ok:HOk P w H h)(e:H a=some (.dT kvs)):kvs.length<=sizeLine/\(a == sysModules)=false/\
  ∃xs,KT H kvs xs/\h.DictOfH (tupleKind (br P w)) a xs:=nN ok (.inl e)
end
def DGet(H:Hp)(a:Addr)(y:V)(r:Option V):Prop:=
 (∃kvs k,Rd H a (.dK kvs)/\y=kV k/\r=d5 kvs k)\/∃kvs k b,Rd H a (.dT kvs)/\y=.ref b/\H b=some (.tup (k.map kV))/\r=d5 kvs k
def Ch(H:Hp)(a:Addr)(y v:V)(H':Hp):Prop:=
 (∃kvs k,H a=some (.dK kvs)/\y=kV k/\kvs.length < sizeLine/\H'=upd H a (.dK (BN kvs k v)))\/
 ∃kvs k b,H a=some (.dT kvs)/\y=.ref b/\H b=some (.tup (k.map kV))/\kvs.length < sizeLine/\H'=upd H a (.dT (BN kvs k v))
theorem DGet.t{H:Hp}{a b:Addr}{kvs:List (List Key×V)}{k:List Key}(e:H a=some (.dT kvs))(eb:H b=some (.tup (k.map kV))):DGet H a (.ref b) (d5 kvs k):=.inr ⟨kvs,k,b,.inl e,rfl,eb,rfl⟩
section
variable {X:Cx} {pins:List (Addr×Obj)} {σ:St} {H:Hp} {s:Shared} {a:Addr} {y v:V} {u r:Value} {o:Option V} {A:Around} {E:Value->Shared->Prop}
theorem Inv.big(I:Inv X pins σ H s):sysModules < s.heap.objs.size:=by
 have h:mainGlobals < s.heap.objs.size:=(I.mod.glob.keeps I.bk).lt
 exact Nat.lt_trans (by decide) h
theorem tR{Q:Value->Shared->Prop}(hu:A.units+1 < cLine)(I:Inv X pins σ H s)(g:DGet H a y (some v))(ry:RelV y u)(h:∀w' s',Inv X pins σ H s'->RelV v w'->Q w' s'):
  wpAny (model X.prog X.w) A (getItem (.ref a) u) Q E s:=by
 rcases g with ⟨kvs,k,e,ey,l⟩ | ⟨kvs,k,b,e,ey,eb,l⟩
 ·subst ey
  obtain ⟨z,hd,vs,rel,dd⟩:=rS I.hok e
  obtain ⟨w',hw,rw'⟩:=RelO.some_of (v:=v) (o:=valueAt vs k) (by rw [l];exact rel.val k)
  exact wpAny_getItem_of (sj ry) dd.mapOf hw (h w' _ (I.tok _) rw')
 ·subst ey
  cases (show u=Value.ref b from ry)
  obtain ⟨z,hd,xs,rel,dd⟩:=nN I.hok e
  obtain ⟨w',hw,rw'⟩:=RelO.some_of (v:=v) (o:=(atKey xs k).map (·.2)) (by rw [l];exact rel.val k)
  obtain ⟨p,hp,hp2⟩:=Option.map_eq_some_iff.mp hw
  refine wpAny_getItem_heap (tupleKind_room_in1 hu) (jg I.hok eb) dd hp ?_
  rw [hp2]
  exact h w' _ (I.tok _) rw'
theorem yG{Q:Value->Shared->Prop}(hu:A.units+1 < cLine)(I:Inv X pins σ H s)(g:DGet H a y o)(ry:RelV y u)(h:∀s',Inv X pins σ H s'->Q (.bool (!o.isSome)) s'):
  wpAny (model X.prog X.w) A (compareOp .NotIn u (.ref a)) Q E s:=by
 rcases g with ⟨kvs,k,e,ey,l⟩ | ⟨kvs,k,b,e,ey,eb,l⟩
 ·subst ey
  obtain ⟨z,hd,vs,rel,dd⟩:=rS I.hok e
  refine wpAny_notIn_of (sj ry) hd dd.mapOf ?_
  rw [<- (rel.val k).isSome_eq,<- l]
  exact h _ (I.tok _)
 ·subst ey
  cases (show u=Value.ref b from ry)
  obtain ⟨z,hd,xs,rel,dd⟩:=nN I.hok e
  refine wpAny_notIn_heap (tupleKind_room_in1 hu) (jg I.hok eb) hd dd ?_
  have q:=(rel.val k).isSome_eq
  rw [Option.isSome_map] at q
  rw [<- q,<- l]
  exact h _ (I.tok _)
theorem rO{h':Heap}{t':Nat}{ob:HO}(I:Inv X pins σ H s)(mu:Mut (H a))(hs:Heap.SameBut a s.heap h')(he:∃q,h'.get? a=some q)(new:ObjOk X.prog X.w (upd H a ob) h' a ob):
  Inv X pins σ (upd H a ob) {s with heap:=h',toks:=t'}:=
 I.write (x:=a) (e:=a) mu (.inl rfl) (fun b q hb z=>(hs.2 b hb).trans z) he new
end
section
variable {X:Cx} {pins:List (Addr×Obj)} {σ:St} {H:Hp} {s:Shared} {a:Addr} {kvs:List (Key×V)} {k:Key} {u:Value} {A:Around} {E:Value->Shared->Prop}
end
def AQ(i:Expr):Prop:=∀ov iv,subscripted i false ov iv=operate [ov,iv] (getItem ov iv)
theorem zR{prog:Program}{w:World}{A:Around}{E:Value->Shared->Prop}{s:Shared}{env:Env}{value slice:Expr}{pos:Pos}{T id:String}{Q:Value->Shared->Prop}
  (hl:typeLookup (.type T) "__getitem__"=pure (some (.builtin id))) (hs:AQ slice)
  (h:wpAny (model prog w) A (eval value env) (fun o s₁=>wpAny (model prog w) A (eval slice env) (fun i s₂=>s₂.TypeIs o T/\wpAny (model prog w) A (getItem o i) Q E s₂) E s₁) E s) :
  wpAny (model prog w) A (eval (.Subscript value slice pos) env) Q E s:=by
 refine Subscript_ (wpAny_mono h (fun o s₁ h₁=>wpAny_mono h₁ (fun i s₂ h₂=>?_) fun _ _ x=>x) fun _ _ x=>x)
 obtain ⟨hT,h₂⟩:=h₂
 unfold subscriptTail
 refine wpAny_bind ?_
 rw [getitemInPython_of_ne hT.not_modules]
 refine wpAny_bind (wpAny_specialOf hT hl ?_)
 have fin:wpAny (model prog w) A (subscripted slice false o i) (fun r s₃=>wpAny (model prog w) A (letTemporaryGo value o r >>= fun _=>pure r) Q E s₃) E s₂:=by
  rw [hs o i]
  exact wpAny_operating (wpAny_mono h₂ (fun r s₃ h₃=>wpAny_bind (wpAny_letTemporaryGo (wpAny_pure h₃))) fun _ _ x=>x)
 first
  | exact wpAny_pure (wpAny_bind fin)
  | exact wpAny_bind (wpAny_pure (wpAny_bind fin))
  | exact wpAny_bind fin
theorem nL{X:Cx}{pins:List (Addr×Obj)}{σ:St}{H:Hp}{s:Shared}{a:Addr}{y:V}(I:Inv X pins σ H s)(g:DGet H a y o):s.TypeIs (.ref a) "dict":=by
 rcases g with ⟨kvs,k,e,_,_⟩ | ⟨kvs,k,b,e,_,_,_⟩
 ·obtain ⟨_,_,vs,_,dd⟩:=rS I.hok e
  exact dd.typeIs
 ·obtain ⟨_,_,xs,_,dd⟩:=nN I.hok e
  exact dd.typeIs
def xR(td ty:TE):TE:=fun σ H Q=>td σ H fun x H1=>ty σ H1 fun y H2=>∃a v,x=.ref a/\DGet H2 a y (some v)/\Q v H2
def mE(ty td:TE):TE:=fun σ H Q=>ty σ H fun y H1=>td σ H1 fun x H2=>∃a o,x=.ref a/\DGet H2 a y o/\Q (.bl (!o.isSome)) H2
def CU(td ty tv:TE):TS:=fun D σ H=>tv σ H fun v H1=>td σ H1 fun x H2=>ty σ H2 fun y H3=>∃a H4,x=.ref a/\Ch H3 a y v H4/\D.nx σ H4
section
variable {X:Cx} {o i e value:Expr} {pos pos' tpos:Pos} {td ty tv:TE}
theorem zl(hu:X.A.units+1 < cLine)(ho:PE X o td)(hi:PE X i ty)(hs:AQ i):PE X (.Subscript o i pos) (xR td ty):=by
 intro pins s σ H Q I h
 refine zR PySem.F.slot_dict_getitem.lookup hs (thn (ho pins s σ H _ I h) fun u s1 ⟨x,H1,I1,rx,q1⟩=>thn (hi pins s1 σ H1 _ I1 q1) fun iv s2 hhx=>?_)
 obtain ⟨y,H2,I2,ry,a,v,ex,g,q2⟩:=hhx
 subst ex
 obtain rfl:u=Value.ref a:=rx
 exact ⟨nL I2 g,tR hu I2 g ry fun w' s3 I3 rw'=>⟨v,H2,I3,rw',q2⟩⟩
theorem uo(hu:X.A.units+1 < cLine)(hi:PE X i ty)(ho:PE X o td):PC X .NotIn i o (mE ty td):=by
 intro pins s σ H Q I h
 refine thn (hi pins s σ H _ I h) fun iv s1 ⟨y,H1,I1,ry,q1⟩=>thn (ho pins s1 σ H1 _ I1 q1) fun u s2 hhx=>?_
 obtain ⟨x,H2,I2,rx,a,ov,ex,g,q2⟩:=hhx
 subst ex
 obtain rfl:u=Value.ref a:=rx
 exact yG hu I2 g ry fun s3 I3=>⟨.bl (!ov.isSome),H2,I3,rfl,q2⟩
end
theorem nM{P:Program}{w:World}(h:Heap)(hb:sysModules < h.objs.size):ObjOk P w H (h.push {cls:=.type "dict",data:=.dict #[]}) h.objs.size (.dT []):=
 ⟨Nat.zero_le _,beq_eq_false_iff_ne.mpr (Ne.symm (Nat.ne_of_lt hb)),[],.nil,_,#[],0,Heap.get?_push_size _ rfl,⟨rfl,rfl,rfl⟩,rfl,rfl,List.nodup_nil⟩
def C4:TE:=fun _ H Q=>∀p,H p=none->Q (.ref p) (upd H p (.dK []))
def qX:TE:=fun _ H Q=>∀p,H p=none->Q (.ref p) (upd H p (.dT []))
section
variable {X:Cx} {pos:Pos}
theorem wk:PE X (.Dict [] [] pos) qX:=fun pins s σ H Q I h=>
 wpAny_Dict_empty ⟨.ref s.heap.objs.size,_,I.laid (a:=s.heap.objs.size) (o:=.dT []) (t':=s.toks) (fun _ _ q=>Heap.get?_push_of_some _ q) (Nat.le_refl _) (nM s.heap I.big),rfl,h _ (I.hok.fresh (Nat.le_refl _))⟩
end
def im:List (TE×TE)->St->Hp->(List (V×V)->Hp->Prop)->Prop
 | [],_,H,Q=>Q [] H
 | (tk,tv) :: r,σ,H,Q=>tk σ H fun x H1=>tv σ H1 fun y H2=>im r σ H2 fun ps H3=>Q ((x,y) :: ps) H3
def vH(kvs more:List (Key×V)):List (Key×V):=more.foldl (fun acc kv=>BN acc kv.1 kv.2) kvs
def CW(trs:List (TE×TE)):TE:=fun σ H Q=>∀p,H p=none->im trs σ (upd H p (.dK [])) fun ps H2=>H2 p=some (.dK [])/\∃kvs:List (Key×V),ps=kvs.map (fun kv=>(kV kv.1,kv.2))/\kvs.length<=15/\Q (.ref p) (upd H2 p (.dK (vH [] kvs)))
structure M1(X:Cx)(o:Expr)(m:Str)(apos:Pos)(e:Expr)(cpos:Pos):Prop where
 base:attributeBase o m X.env (eval o X.env)=eval o X.env
 few:((backTo cpos (starEach [e] X.env)).all (fun x=>!x.1) && (backToKw cpos (keywordEach [] X.env)).all (fun x=>x.1.isSome)
  && decide (([e]:List Expr).length+([]:List Keyword).length+(if ([]:List Keyword).isEmpty then 0 else 1) < 30))=true
 line:(apos.endLine == cpos.line)=true
 trees:backTo cpos (starEach [e] X.env)=[(false,eval e X.env)]
def IsD(H:Hp)(a:Addr):Prop:=(∃kvs,Rd H a (.dK kvs))\/∃kvs,Rd H a (.dT kvs)
theorem B6{X:Cx}{pins:List (Addr×Obj)}{σ:St}{H:Hp}{s:Shared}{a:Addr}(I:Inv X pins σ H s)(d:IsD H a):
  s.TypeIs (.ref a) "dict"/\(∀b,Value.ref a=.ref b->∃ob,s.heap.get? b=some ob/\ob.dict=none)/\(a == sysModules)=false:=by
 rcases d with ⟨kvs,e⟩ | ⟨kvs,e⟩
 ·obtain ⟨_,hd,vs,_,dd⟩:=rS I.hok e
  refine ⟨dd.typeIs,fun b q=>?_,hd⟩
  cases q
  obtain ⟨ob,_,_,h1,h2,_⟩:=dd
  exact ⟨ob,h1,h2.2.1⟩
 ·obtain ⟨_,hd,xs,_,dd⟩:=nN I.hok e
  refine ⟨dd.typeIs,fun b q=>?_,hd⟩
  cases q
  obtain ⟨ob,_,_,h1,h2,_⟩:=dd
  exact ⟨ob,h1,h2.2.1⟩
section
variable {X:Cx} {pins:List (Addr×Obj)} {σ:St} {H:Hp} {s:Shared} {a:Addr} {y d:V} {u r:Value} {o:Option V} {A:Around} {E:Value->Shared->Prop}
end
def C3(td ty tx:TE):TE:=fun σ H Q=>td σ H fun x H1=>∃a,x=.ref a/\IsD H1 a/\ty σ H1 fun y H2=>tx σ H2 fun z H3=>∃o,DGet H3 a y o/\Q (o.getD z) H3
section
variable {X:Cx} {o e f:Expr} {apos cpos:Pos} {td ty tx:TE}
end
section
variable {X:Cx} {pins:List (Addr×Obj)} {σ:St} {H:Hp} {s:Shared} {a:Addr} {kvs:List (Key×V)} {A:Around} {E:Value->Shared->Prop}
end
section
variable {X:Cx} {pins:List (Addr×Obj)} {σ:St} {H:Hp} {s:Shared} {a:Addr} {y:V} {u:Value} {A:Around} {E:Value->Shared->Prop}
end
end L2
namespace Att
open PySem PySem.W PySem.Calls PyProof.Rows
theorem iM{P:Params}{h:Heap}:∀(ns:List Int)(vs:List Value),WellAll P h vs (ns.map WData.int)->IntsAre vs ns:=by
 intro ns
 induction ns with
 | nil=>
  intro vs w
  rw [List.map_nil] at w
  cases w
  exact .nil
 | cons n ns ih=>
  intro vs w
  rw [List.map_cons] at w
  cases w with
  | cons a b=>
   cases a
   exact .cons _ _ (ih _ b)
theorem uI{l:OpenLaw}{n:Nat}(hn:l.most=some n){P:Params}{h:Heap}{args:List WData}{vals:List Value}
  (hpre:l.row.toRowW.claim.pre args=true) (hwl:WellAll P h vals args) :
  ∃a vs ns,vals=[Value.ref a]/\args=[WData.list (ns.map WData.int)]/\h.get? a=some {cls:=.type "list",data:=.seq vs.toArray}/\IntsAre vs ns/\ns.length<=n:=by
 have hsh:WShape.hasAll [] args [.list .int]=true:=(pre_splitW hpre).1
 have hc:l.pre.holds [] {args:=args}=true:=(pre_splitW hpre).2
 obtain ⟨d,r,rfl,h1,h2⟩:=hasAllW_cons hsh
 obtain rfl:=hasAllW_nil h2
 obtain ⟨xs,rfl,h3⟩:=hasW_list h1
 obtain ⟨ns,rfl⟩:=items_int h3
 have hlen:ns.length<=n:=by
  unfold OpenLaw.pre at hc
  have h4:(WTm.not (.lt (.lit (.int (n:Int))) (.len (.arg 0)))).holds [] {args:=[.list (ns.map .int)]}=true:=by
   have h4:=(holds_andW hc).1
   rw [hn] at h4
   exact h4
  have h5:=condW_of h4 (w_not (w_lt w_lit (w_len_list (w_arg rfl))))
  rw [List.length_map] at h5
  refine Nat.le_of_not_lt fun q=>?_
  have q':(n:Int) < ((ns.length:Nat):Int):=by omega
  first
   | (rw [decide_eq_true q'] at h5;exact absurd h5 (by decide))
   | (simp at h5;omega)
 cases hwl with
 | cons w1 w2=>
  cases w2
  cases w1 with
  | list ho hall=>exact ⟨_,_,ns,rfl,rfl,ho,iM ns _ hall,hlen⟩
theorem uy(l:OpenLaw)(args:List WData):l.row.toRowW.claim.post args (.bool true) args=true:=
 postW_of (r:=l.row.toRowW) (X:=(true == true))
  (show WShape.has [] (.bool true) .bool=true by first | rfl | decide | simp [WShape.has,WShape.arms,WShape.armsAll])
  (show (WTm.eq .res (.lit (.bool true))).value [] {args:=args,res:=some (.bool true),after:=args}=some (.bool (true == true)) from w_eq_bool (w_res rfl) w_lit) rfl
section
variable {prog:Program} {w:World} {A:Around} {E:Value->Shared->Prop} {s:Shared} {K:Frag}
end
end Att
namespace L2
open PySem PySem.Spec PyProof.Rows
theorem ip:∀{vs:List Value} {ns:List Int},IntsAre vs ns->Vals (ns.map V.int) vs
 | _,_,.nil=>.nil
 | _,_,.cons n t h=>.cons ⟨t,rfl⟩ (ip h)
def AR(H:Hp):Prop:=∀b,H b=none\/∃o xs,H b=some (.frz o (.lst xs))
theorem vD{P:Program}{w:World}{K:PySem.W.Frag}{mg mb:Str->Option Value}{CX:CXT}{k:Nat}{fa a:Addr}{fd:FuncData}{x:Str}{sp:Sp}{s₁:Shared}{vs:List Value}{ns:List Int}
  (KX:K.In s₁.heap) (hns:s₁.heap.Ns mainGlobals mg) (hb:s₁.heap.Ns builtinsNs mb) (hbb:∀x:Str,x≠"__name__"->mb x=bootBuiltins x) (hlim:s₁.heap.NoLimit) (hg:s₁.gens=#[])
  (ha:s₁.heap.get? a=some {cls:=.type "list",data:=.seq vs.toArray}) (hi:IntsAre vs ns) (hl:ns.length<=sizeLine) (hr:Room k callerA)
  (F:∀base:Heap,K.In base->base.Ns mainGlobals mg->FnOk P w K mg base CX k fa fd [x] sp) (hbind:∀(s:Shared)(u:Value),BindsTo s fd ⟨[u],[]⟩ [(x,u)])
  (hsp:∀H:Hp,AR H->SqL K H a (ns.map V.int)->sp [.ref a] H (fun v _=>v=.bl true) fun _ _ _=>False)
  (hCX:∀H e s',CX [] H s₁ (fun _ _ _=>False) e s'->False) :
  codeAny (model P w) callerA (.call (.ref fa) ⟨[.ref a],[]⟩) (fun r s'=>r=.ok (.ret (.bool true))/\OldK s₁.heap s'.heap/\s'.os=s₁.os/\AllBare s'.gens) s₁:=by
 have rv:=ip hi
 have lenV:=hi.length
 have core:∀H:Hp,AR H->SqL K H a (ns.map V.int)->HOk P w H s₁.heap->(∀b,H b≠none->b=a)->(H a≠none->K.lookup a=none)->
   codeAny (model P w) callerA (.call (.ref fa) ⟨[.ref a],[]⟩) (fun r s'=>r=.ok (.ret (.bool true))/\OldK s₁.heap s'.heap/\s'.os=s₁.os/\AllBare s'.gens) s₁:=by
  intro H hO hS hok hA hK
  have base_of:∀{b:Addr} {o:Obj},s₁.heap.get? b=some o->H b=none->(ma s₁.heap H).get? b=some o:=fun e n=>vq e n
  have noA:∀{b:Addr} {o:Obj} {es:Array DictEntry} {ep:Nat},s₁.heap.get? b=some o->o.data=.dict es ep->H b=none:=fun {b o es ep} e d=>by
   cases q:H b with
   | none=>rfl
   | some u=>
    have e':b=a:=hA b (by rw [q];simp)
    subst e'
    rw [ha] at e;cases e
    have d':Data.seq vs.toArray _=Data.dict es ep:=d
    cases d'
  have nsK:∀{b:Addr} {m:Str->Option Value},s₁.heap.Ns b m->(ma s₁.heap H).Ns b m:=fun {b m} ⟨o,es,ep,e,d,r⟩=>⟨o,es,ep,base_of e (noA e d),d,r⟩
  have hKb:K.In (ma s₁.heap H):=fun b o e=>base_of (KX b o e) (by
   cases q:H b with
   | none=>rfl
   | some u=>
    have e':b=a:=hA b (by rw [q];simp)
    subst e'
    rw [hK (by rw [q];simp)] at e;cases e)
  have hM:Mod K mg (ma s₁.heap H):=⟨hKb,nsK hns,⟨mb,nsK hb,hbb⟩,let ⟨mc,h1,h2⟩:=hlim;⟨mc,nsK h1,h2⟩⟩
  have e0:Env0 P w K mg (ma s₁.heap H) callerA [] s₁ H:=⟨rfl,hM,fun b o e=>yZ e,Nat.le_of_eq (tY _ _),trivial,fun b hb=>absurd (show b∈([]:List Addr) from hb) (by simp),hok,.of_eq hg⟩
  refine codeAny_mono ((F _ hKb (nsK hns)).run callerA [] s₁ H ⟨[.ref a],[]⟩ [.ref a] [.ref a] _ _ hr e0 (hbind s₁ (.ref a)) (.cons rfl .nil) (hsp H hO hS)) fun r s' h=>?_
  cases r with
  | error e=>exact (hCX H e s' h).elim
  | ok fl=>
   cases fl with
   | next=>exact False.elim h
   | brk=>exact False.elim h
   | cont=>exact False.elim h
   | ret u=>
    obtain ⟨v,H',os,bare,un,hok',r',q⟩:=h
    have q':v=.bl true:=q
    subst q'
    obtain rfl:u=Value.bool true:=r'
    refine ⟨rfl,OldK.of_keep fun b o e=>?_,os,bare⟩
    cases q:H b with
    | none=>exact un.keep b o e q (by intro z;exact absurd (show b∈([]:List Addr) from z) (by simp)) (by simp)
    | some u=>
     rcases hO b with z | ⟨ob,xs,z⟩
     ·rw [q] at z;cases z
     ·have z2:=un.frzs b ob _ z
      obtain ⟨e1,_⟩:=hok b _ z
      obtain ⟨e2,_⟩:=hok' b _ z2
      rw [e] at e1;cases e1
      exact e2
 cases hk:K.lookup a with
 | some o=>
  have e:=KX a o hk
  rw [ha] at e
  cases e
  refine core (fun _=>none) (fun _=>.inl rfl) (.inr ⟨_,vs.toArray,_,hk,rfl,rfl,rfl,by rw [List.size_toArray,lenV];exact hl,by simpa using rv⟩) (fun b u z=>by have z':(none:Option HO)=some u:=z;cases z') (fun b z=>absurd rfl z) fun z=>absurd rfl z
 | none=>
  refine core (fun b=>if b=a then some (.frz {cls:=.type "list",data:=.seq vs.toArray} (.lst (ns.map V.int))) else none) (fun b=>?_) (.inl (.inr ⟨{cls:=.type "list",data:=.seq vs.toArray},if_pos rfl⟩)) (fun b u z=>?_) (fun b z=>?_) fun _=>hk
  ·by_cases hb:b=a
   ·exact .inr ⟨_,_,if_pos hb⟩
   ·exact .inl (if_neg hb)
  ·by_cases hb:b=a
   ·have z':=(if_pos hb).symm.trans z
    cases z'
    subst hb
    exact ⟨ha,by rw [List.length_map];exact hl,vs,_,rv,ha⟩
   ·have z':=(if_neg hb).symm.trans z
    cases z'
  ·by_cases hb:b=a
   ·exact hb
   ·exact absurd (if_neg hb) z
end L2
namespace L2
open PySem PySem.Spec PyProof.Rows
end L2
/- THE LAST THEOREM (shape;LID,My.* are yours):
   My.Adr: a structure of the addresses that your layer names (classes,functions);My.Txt K t: a structure (Prop) of the equations over K;
   My.txt_mk:{K} {implicit addresses ..} (e1:nsIn K mainGlobals "law"=some (some (.ref f))) (e2:K.lookup f=some ⟨oc,od,.func (fnOf "law" "law" params body scope dV kV doc pm an cdv ct),sl⟩) (e3:codeIn K cdv "law"=true) ..:∃t,My.Txt K t
set_option maxRecDepth 100000 in
set_option maxHeartbeats 0 in
theorem PySem.Challenge.cw_LID_holds:PySem.Challenge.rw_LID.Holds:=by
 w_on;o_law;k_head;(case hw=>w_witness2)
 k_fill
 refine L2.walk_of (l:=PySem.Challenge.rw_LID) (n:=63) (k:=40) (x:="script") (CX:=fun w=>..) (sp:=fun _=>My.sp_law) rfl (by decide) rfl ⟨rfl,by decide,by decide⟩ (fun w h Y=>PySem.W.kIn_of Y) ?F ?S ?C
 case F=>
  intro w mg fa h KX G hmg
  have T:∃t,My.Txt (L2.KOf KX) t:=by
   dsimp only [L2.KOf]                          -- K must stand as «<heap const> w.params» for k_is
   refine' My.txt_mk ?e1 ?e2 ?e3 ..
   (case e1=>PySem.W.k_is)                    -- in the order: a name->its address->its object->its parts
   (case e2=>PySem.W.k_is)
   ..
  obtain ⟨t,T⟩:=T
  have e0:=hmg.symm.trans (PySem.W.mg_of KX G T.law)
  cases e0                                       -- fa is the law's own address
  exact ⟨_,fun s u=>.of_eq rfl,fun base kb nb=>My.law_fn T kb nb⟩     -- if «.of_eq rfl» comes too early: refine' ⟨_,?b,fun base kb nb=>My.law_fn T kb nb⟩;exact fun s u=>.of_eq rfl
 case S=>exact fun w H a ns hl hO hS=>..
 case C=>exact ..
(the tactic k_is has no namespace: write k_is) -/
variable {H:Hp} {f:Addr} {qual:Str}
namespace L2
open PySem PySem.Spec PyProof.Rows
def bR(s:Stmt)(j:Nat):Stmt:=match s with
 | .ClassDef _ _ _ body _ _ _ _ _ _ _=>body.getD j (.Pass ⟨0,0,0,0⟩)
 | _=>.Pass ⟨0,0,0,0⟩
def cE(s:Stmt):Arguments:=match s with
 | .FunctionDef _ a _ _ _ _ _ _ _ _=>a
 | _=>{posonlyargs:=[],args:=[],vararg:=none,kwonlyargs:=[],kw_defaults:=[],kwarg:=none,defaults:=[]}
def cu(s:Stmt):List Stmt:=match s with
 | .FunctionDef _ _ b _ _ _ _ _ _ _=>b
 | _=>[]
def av(s:Stmt):Scope:=match s with
 | .FunctionDef _ _ _ _ _ _ sc _ _ _=>sc
 | _=>{kind:=.function,names:=[],isGenerator:=false,isCoroutine:=false}
abbrev CX0:CXT:=fun _ _ _ _ _ _=>False
abbrev E0:XK:=fun _ _ _=>False
theorem ow{X:Cx}:dF CX0 X E0:=fun _ _ _ _ _ _ _ h=>h.elim
structure Fun(K:PySem.W.Frag)(x qual:Str)(st:Stmt)(f:Addr)(fd:FuncData):Prop where
 ex:∃(oc:Value)(od:Option Addr)(kV doc pm:Value)(an:Option Addr)(cdv ct:Value)(osl:Array (Option Value)),
  fd=PySem.W.fnOf x qual (cE st) (cu st) (av st) .none kV doc pm an cdv ct/\K.lookup f=some ⟨oc,od,.func fd,osl⟩/\PySem.W.codeIn K cdv qual=true
 kp:PySem.W.keepIn K (.ref f)=true
section
variable {P:Program} {w:World} {K:PySem.W.Frag} {mg:Str->Option Value} {base:Heap}
theorem Fun.ok{x qual:Str}{st:Stmt}{f:Addr}{fd:FuncData}{N ps:List Str}{k:Nat}{sp:Sp}(F:Fun K x qual st f fd)(S:aB N ps (av st))(len:∀vs H Q E,sp vs H Q E->vs.length=ps.length)
 (hbody:∀(cdv:Value)(A:Around)(outer:List Env)(s:Shared)(H:Hp)(vs:List V)(Q:VK)(E:XK),Room k (A.deeper (envOfC qual (av st) s.heap.objs.size f cdv))->sp vs H Q E->
 ∃t,PSs (qo CX0 P w K mg base N qual (av st) f cdv A outer s H E).nox (cu st) t/\t {nx:=fun _ H'=>Q .non H',rt:=Q} (aG N vs) H):FnOk P w K mg base CX0 (k+1) f fd ps sp:=by
 obtain ⟨oc,od,kV,doc,pm,an,cdv,ct,osl,rfl,lk,hcd⟩:=F.ex
 refine Cp lk hcd S len fun A outer s H vs Q E hr hsp=>?_
 obtain ⟨t,h,q⟩:=hbody cdv A outer s H vs Q E hr hsp
 exact ⟨t,h.nox,q⟩
theorem Fun.binds{x qual:Str}{st:Stmt}{f:Addr}{fd:FuncData}{ps:List Str}(F:Fun K x qual st f fd)
 (h:∀(kV doc pm:Value)(an:Option Addr)(cdv ct:Value)(us:List Value),us.length=ps.length->bindArgs (PySem.W.fnOf x qual (cE st) (cu st) (av st) .none kV doc pm an cdv ct) ⟨us,[]⟩=pure (ps.zip us)):Binds K fd ps []:=by
 obtain ⟨oc,od,kV,doc,pm,an,cdv,ct,osl,rfl,lk,hcd⟩:=F.ex
 exact .all (h kV doc pm an cdv ct)
theorem m9{x qual:Str}{st:Stmt}{f:Addr}{oc:Value}{od an:Option Addr}{osl:Array (Option Value)}{kV doc pm cdv ct:Value}(l:K.lookup f=some ⟨oc,od,.func (PySem.W.fnOf x qual (cE st) (cu st) (av st) .none kV doc pm an cdv ct),osl⟩)
 (c:PySem.W.codeIn K cdv qual=true) (k:PySem.W.keepIn K (.ref f)=true):Fun K x qual st f (PySem.W.fnOf x qual (cE st) (cu st) (av st) .none kV doc pm an cdv ct):=⟨⟨oc,od,kV,doc,pm,an,cdv,ct,osl,rfl,l,c⟩,k⟩
end
theorem sd{A:Around}{k:Nat}(hr:Room k A):A.units+1 < cLine:=Nat.lt_of_le_of_lt (Nat.add_le_add_left (by decide:1<=64) _) hr.units
section
variable {X:Cx}
end
theorem D5{A B:Prop}(h:B):if false=true then A else B:=by
 rw [if_neg Bool.false_ne_true]
 exact h
theorem D6{A B:Prop}(h:A):if true=true then A else B:=by
 rw [if_pos rfl]
 exact h
def Same(H H':Hp):Prop:=∀b o,H b=some o->H' b=some o
theorem Same.refl(H:Hp):Same H H:=fun _ _ h=>h
theorem Same.trans{H H1 H2:Hp}(a:Same H H1)(b:Same H1 H2):Same H H2:=fun c o h=>b c o (a c o h)
theorem Same.free{H H':Hp}(e:Same H H'){l:Addr}(h:H' l=Option.none):H l=Option.none:=by
 cases q:H l with
 | none=>rfl
 | some o=>
  rw [e l o q] at h
  cases h
theorem Same.seq{K:PySem.W.Frag}{H H':Hp}{a:Addr}{xs:List V}(e:Same H H')(h:SqL K H a xs):SqL K H' a xs:=by
 rcases h with (h | ⟨o,h⟩) | h
 ·exact .inl (.inl (e _ _ h))
 ·exact .inl (.inr ⟨o,e _ _ h⟩)
 ·exact .inr h
end L2
namespace L2
open PySem PySem.Spec PyProof.Rows
section
variable {X:Cx}
end
section
variable {κ:Type} [DecidableEq κ]
end
end L2
namespace L2
open PySem PySem.Spec PyProof.Rows
section
variable {X:Cx}
def CDivB(i j:Int):Prop:=0 < j/\j.natAbs.log2 < 9000
theorem vY:OpR X (binaryOp .FloorDiv) (rI CDivB fun i j=>.int (i / j)):=opI fun i j _ _ _ _ _ hc q=>by
 have h1:(0:Int) < j:=hc.1
 exact floordiv_int (by omega) (by rw [Int.fdiv_eq_ediv_of_nonneg i (by omega)];exact q) (.inl (PyProof.noPylong_of_log2 hc.2))
theorem CDivB.small{i j:Int}(h:0 < j)(h2:j < 1073741824):CDivB i j:=⟨h,by
 have h3:j.natAbs.log2 < 30:=(Nat.log2_lt (by omega)).mpr (by omega)
 omega⟩
end
theorem aH{c A B:Prop}[Decidable c](h1:c->A)(h2:¬c->B):if decide c=true then A else B:=by
 by_cases h:c
 ·rw [if_pos (decide_eq_true h)];exact h1 h
 ·rw [if_neg (fun q=>h (of_decide_eq_true q))];exact h2 h
theorem vz{c A B:Prop}[Decidable c](h1:¬c->A)(h2:c->B):if (!decide c)=true then A else B:=by
 by_cases h:c
 ·rw [decide_eq_true h];exact D5 (h2 h)
 ·rw [decide_eq_false h];exact D6 (h1 h)
structure b9(K:PySem.W.Frag)(mg:Str->Option Value)(x:Str)(st:Stmt)(ps:List Str)(f:Addr)(fd:FuncData):Prop where
 F:Fun K x x st f fd
 B:Binds K fd ps []
 M:mg x=some (.ref f)
theorem wf{X:Cx}{k:Nat}{f:Addr}{fd:FuncData}{ps:List Str}{sp:Sp}{x:Str}{st:Stmt}{p pos:Pos}{e:Expr}{es:List Expr}{t:TA}(D:b9 X.K X.mg x st ps f fd)(G:FnOk X.prog X.w X.K X.mg X.base CX0 k f fd ps sp)(hr:Room k X.A)
  (ha:PA X (e :: es) t) (hg:Gl X x:=by rfl) (hdb:(x == ("__debug__":Str))=false:=by decide) (he:starEach (e :: es) X.env=(false,eval e X.env) :: starEach es X.env:=by rfl) (hpl:(backTo pos (starEach es X.env)).any (·.1)=false:=by rfl) :
  PE X (.Call (.Name x p) (e :: es) [] pos) (pY sp [] E0 t):=zj G hr hg D.M D.F.kp D.B .nil ow ha hdb he hpl
def Ite(K:PySem.W.Frag)(a:Addr):It:=
  ⟨fun i H=>∃xs x,SqL K H a xs/\xs[i]?=some x,
   fun i H x H'=>∃p y,x=.ref p/\H p=none/\H'=upd H p (.tup [.int i,y])/\∀xs,SqL K H a xs->xs[i]?=some y,
   fun i H=>∃xs,SqL K H a xs/\xs.length<=i⟩
theorem uP{P:Program}{w:World}{K:PySem.W.Frag}{elts:List Expr}{k0:Nat}{pos0:Pos}(a e it:Addr)(hei:e≠it):
  kE P w K (.Tuple elts k0 pos0) (Ite K a) [e,it] e (fun i h=>(∃old,IsEnum h e it i old)/\h.IsListIter it a i) where
 mem:=by simp
 obj:=fun i h ⟨⟨old,he⟩,hit⟩ b hb=>by
  rcases List.mem_cons.mp hb with rfl | hb
  ·exact ⟨_,he,fun v z=>by
    have z':Data.fields _=Data.cell v:=z
    cases z'⟩
  ·have e':b=it:=by simpa using hb
   subst e'
   obtain ⟨o,q,c,d⟩:=hit
   exact ⟨o,q,fun v z=>by rw [d] at z;cases z⟩
 keep:=fun i h h' ⟨⟨old,he⟩,hit⟩ k=>⟨⟨old,k e (by simp) _ he⟩,hit.at fun o q=>k it (by simp) o q⟩
 item:=by
  intro X hP hw hK hc i pins s σ H E I hf st hg
  subst hP hw hK
  obtain ⟨xs,x,hq,hx⟩:=hg
  obtain ⟨its,rv,p,hz⟩:=I.list hq
  obtain ⟨u,hu,ru⟩:=rv.get hx
  obtain ⟨⟨old,he⟩,hit⟩:=st
  obtain ⟨f0,f1,f2,f3,f4,f5⟩:=hf e (by simp)
  obtain ⟨g0,g1,g2,g3,g4,g5⟩:=hf it (by simp)
  refine wpAny_pyNext_enum_item he hit p.isList (x:=u) (by simpa using hu) hei fun h1 ho hit1 hT hsz hk=>?_
  refine ⟨_,rfl,wpAny_letOwnedTupleGo_enum ho fun h2 he2 hs2=>?_⟩
  replace hs2:Heap.SameBut e h1 h2:=hs2
  have helt:e < s.heap.objs.size:=Heap.lt_size he
  have hk2:∀b o,b≠e->b≠it->s.heap.get? b=some o->h2.get? b=some o:=fun b o b1 b2 q=>(hs2.2 b b1).trans (hk b o b1 b2 q)
  have hT2:h2.get? s.heap.objs.size=some {cls:=.type "tuple",data:=.seq #[.int i s.toks,u]}:=(hs2.2 _ (Nat.ne_of_gt helt)).trans hT
  have hn:H s.heap.objs.size=none:=I.hok.fresh (Nat.le_refl _)
  have nE:∀b v,H b=some v->b≠e:=fun b v q z=>by rw [z,f0] at q;cases q
  have nI:∀b v,H b=some v->b≠it:=fun b v q z=>by rw [z,g0] at q;cases q
  have ok2:HOk X.prog X.w H h2:=fun b v q=>(I.hok b v q).stay (fun c v' hc r=>by
   rcases hc with z | z
   ·exact hk2 c v' (by rw [z];exact nE b v q) (by rw [z];exact nI b v q) r
   ·exact hk2 c v' (nE c _ z) (nI c _ z) r) (fun _ r=>r) fun _ _ r=>r
  have ok3:HOk X.prog X.w (upd H s.heap.objs.size (.tup [.int i,x])) h2:=fun b v q=>by
   by_cases hb:b=s.heap.objs.size
   ·subst hb
    rw [ae] at q
    cases q
    exact ⟨by show 2<=sizeLine;decide,[.int i s.toks,u],.cons ⟨_,rfl⟩ (.cons ru .nil),⟨_,hT2,rfl,_,rfl⟩⟩
   ·rw [al hb] at q
    exact (ok2 b v q).stay (fun c v' _ r=>r) (fun c r=>by rw [al (ai r hn)];exact r) fun c ys r=>by rw [al (ai r hn)];exact r
  have nlt:∀{b:Addr} {o:Obj},s.heap.get? b=some o->b≠s.heap.objs.size:=fun q=>Nat.ne_of_lt (Heap.lt_size q)
  have I2:Inv X pins σ (upd H s.heap.objs.size (.tup [.int i,x])) {s with heap:=h2,toks:=s.toks+1}:=
   I.step (g':=s.gens) (d':=s.drawn) (ch:=[e,it]) (fun b hb=>by
     rcases List.mem_cons.mp hb with rfl | hb
     ·exact ⟨f3,f1,f4,f5⟩
     ·have e':b=it:=by simpa using hb
      subst e'
      exact ⟨g3,g1,g4,g5⟩)
    (fun b o _ _ hc q _=>hk2 b o (fun z=>hc (by simp [z])) (fun z=>hc (by simp [z])) q)
    (fun b o _ _ hc q _=>⟨o.slots,hk2 b o (fun z=>hc (by simp [z])) (fun z=>hc (by simp [z])) q⟩)
    (fun b o _ q n=>by rw [al (nlt q)];exact n)
    (fun b o hc q=>⟨o,hk2 b o (fun z=>hc (by simp [z])) (fun z=>hc (by simp [z])) q⟩)
    (fun b ys q=>by rw [al (ai q hn)];exact q) (fun b o v q=>by rw [al (ai q hn)];exact q) (fun b ps q=>⟨#[],by rw [al (ai q hn),q];simp⟩)
    (fun m ⟨o,es,ep,hm,r⟩=>⟨o,es,ep,hk2 _ o (Ne.symm f1) (Ne.symm g1) hm,r⟩) ok3 I.bare
  refine ⟨.ref s.heap.objs.size,_,I2,rfl,⟨_,x,rfl,hn,rfl,fun ys hy=>by rw [I.list_inj hy hq];exact hx⟩,⟨⟨_,by simpa using he2⟩,hit1.at fun o y=>(hs2.2 it hei.symm).trans y⟩,fun b hb=>?_⟩
  rcases List.mem_cons.mp hb with rfl | hb
  ·rw [al (Nat.ne_of_lt helt)];exact f0
  ·have e':b=it:=by simpa using hb
   subst e'
   obtain ⟨o,q,_⟩:=hit
   rw [al (nlt q)];exact g0
 done:=by
  intro X hP hw hK hc i pins s σ H E I hf st hg
  subst hP hw hK
  obtain ⟨xs,hq,hx⟩:=hg
  obtain ⟨its,rv,p,hz⟩:=I.list hq
  obtain ⟨⟨old,he⟩,hit⟩:=st
  obtain ⟨g0,g1,g2,g3,g4,g5⟩:=hf it (by simp)
  have hl:=rv.length
  exact wpAny_pyNext_enum_end (I.ok.hd hc) he hit p.isList (by simp;omega) fun h' eb=>⟨rfl,I.turned (t':=s.toks) (it:=it) (fun b o hb q=>eb b o hb q) g0 g1 g3 g4 g5⟩
 self:=fun _ _ _ _ _ ⟨⟨_,he⟩,_⟩ h=>wpAny_pyIter_enum he h
def vt(K:PySem.W.Frag)(ta:TA):TI:=fun σ H R=>ta σ H fun vs H1=>∃a,vs=[.ref a]/\(∃xs,SqL K H1 a xs)/\R (Ite K a) H1
theorem zq{X:Cx}{a:Expr}{ta:TA}{p pos pos0:Pos}{elts:List Expr}{k0:Nat}(hm:X.mg "enumerate"=none) (ha:PA X [a] ta) (hg:Gl X "enumerate":=by rfl) (hs:starEach [a] X.env=[(false,eval a X.env)]:=by rfl) :
  PI X (.Tuple elts k0 pos0) (.Call (.Name "enumerate" p) [a] [] pos) (vt X.K ta):=by
 intro pins s σ H R I h
 refine Call_ (df I hg hm boot_enumerate (PyProof.Rows.callWith_type1 (thn (ha pos pins s σ H _ I h) fun us s1 hhx=>?_) hs rfl))
 obtain ⟨vs,H1,I1,r1,q1⟩:=hhx
 obtain ⟨l,e,⟨xs,hq⟩,q⟩:=q1
 subst e
 cases r1 with
 | cons r rr=>
  cases rr
  cases r
  obtain ⟨its,rv,pl,hz⟩:=I1.list hq
  refine call_enumerate_list pl.isList fun h' he hit hsz hk=>?_
  refine wpAny_pyIter_enum he ?_
  have I2:Inv X pins σ H1 {s1 with heap:=h'}:=I1.kept (t':=s1.toks) hk
  refine ⟨s1.heap.objs.size+1,[s1.heap.objs.size+1,s1.heap.objs.size],_,_,H1,rfl,I2,uP l _ _ (Nat.succ_ne_self _),⟨⟨_,he⟩,hit⟩,fun b hb=>?_,q⟩
  have hle:s1.heap.objs.size<=b:=by
   rcases List.mem_cons.mp hb with rfl | hb
   ·exact Nat.le_succ _
   ·rw [List.mem_singleton.mp hb];exact Nat.le_refl _
  exact I1.fpOk hle (I1.hok.fresh hle)
theorem vj{K:PySem.W.Frag}{a:Addr}{xs:List V}{g:TG}{tb:TS}{D:cA}{σ:St}{H:Hp}(Pv:Nat->St->Hp->Prop)(h0:Pv 0 σ H)(hl:∀i σ H,i<=xs.length->Pv i σ H->SqL K H a xs)
  (hs:∀(i:Nat)x σ H p,xs[i]?=some x->H p=none->Pv i σ H->g (.ref p) σ (upd H p (.tup [.int i,x])) fun σ2 H2=>tb {D with nx:=Pv (i+1),ct:=Pv (i+1),bk:=D.nx} σ2 H2) (hd:∀σ H,Pv xs.length σ H->D.nx σ H) :
  ∃W:Nat->Nat->St->Hp->Prop,(∃m,W 0 m σ H)/\∀i m σ H,W i m σ H->
   ((Ite K a).stop i H/\D.nx σ H)\/((Ite K a).go i H/\∃N:St->Hp->Prop,(∀σ' H',N σ' H'->∃m',m' < m/\W (i+1) m' σ' H')/\∀x H',(Ite K a).yld i H x H'->g x σ H' fun σ2 H2=>tb {D with nx:=N,ct:=N,bk:=D.nx} σ2 H2):=by
 refine ⟨fun i m σ H=>m=xs.length - i/\i<=xs.length/\Pv i σ H,⟨xs.length,by simp,Nat.zero_le _,h0⟩,?_⟩
 rintro i m σ H ⟨rfl,hi,p⟩
 have q:=hl i σ H hi p
 by_cases hlt:i < xs.length
 ·refine .inr ⟨⟨xs,xs[i],q,by simp [hlt]⟩,Pv (i+1),fun σ' H' p'=>⟨xs.length - (i+1),by omega,rfl,hlt,p'⟩,fun x H' y=>?_⟩
  obtain ⟨pp,z,ex,hn,eH,y⟩:=y
  subst ex eH
  exact hs i z σ H pp (y xs q) hn p
 ·have e:i=xs.length:=by omega
  subst e
  exact .inl ⟨⟨xs,q,Nat.le_refl _⟩,hd σ H p⟩
theorem nq{ns:List Int}(h:PySem.W.WData.layableAll [PySem.W.WData.list (ns.map PySem.W.WData.int)]=true):∀n∈ns,Builtin.Int.intBits n<=2 ^ 20:=fun n hn=>by
 have h1:=(PySem.W.layW_cons h).1
 have h2:=PySem.W.layableW_item h1 (PySem.W.WData.int n) (List.mem_map.mpr ⟨n,hn,rfl⟩)
 exact PyData.bits_of_layable (PySem.W.layable0_of_all (PySem.W.lay0_int h2))
section
open PySem.W PySem.Calls
theorem yc{l:PySem.W.OpenLaw}{n k:Nat}{q:Program}{loose:List Str}{XP:(Str->Option Value)->Heap->Prop}{YP:World->Heap->Prop}{d:DefRec}{K:Params->PySem.W.Frag}{CX:World->CXT}{sp:World->Sp}{x:Str}
  (hn:l.most=some n) (hn2:n<=sizeLine) (hdf:d.params.defaults=[]) (hr:Room k callerA)
  (hY:∀(w:World)(h:Heap),YP w h->(K w.params).In h)
  (F:∀(w:World)(mg:Str->Option Value)(fa:Addr)(h:Heap),(K w.params).In h->h.Ns mainGlobals mg->mg d.name=some (.ref fa)->
   ∃fd:FuncData,(∀(s:Shared)(u:Value),BindsTo s fd ⟨[u],[]⟩ [(x,u)])/\
    ∀base:Heap,(K w.params).In base->base.Ns mainGlobals mg->FnOk l.prog w (K w.params) mg base (CX w) k fa fd [x] (sp w))
  (hsp:∀(w:World)(H:Hp)(a:Addr)(ns:List Int),ns.length<=n->(∀z∈ns,Builtin.Int.intBits z<=2 ^ 20)->AR H->SqL (K w.params) H a (ns.map V.int)->sp w [.ref a] H (fun v _=>v=.bl true) fun _ _ _=>False)
  (hCX:∀(w:World)(H:Hp)(s:Shared)(e:Value)(s':Shared),CX w [] H s (fun _ _ _=>False) e s'->False) :
  PySem.W.WalkO q loose XP YP l.row.toRowW d [] (fun f vs=>PySem.call f vs):=by
 intro w s₀ s₁ mg mb G Y fa o pm cd doc dV kV ho hd hcd hD hmg hg args vals as hpre hlay hrd hwl hlo
 obtain rfl:dV=.none:=Dflts.none hD hdf
 obtain rfl:kV=.none:=Dflts.noKw hD
 obtain ⟨a,vs,ns,rfl,rfl,hobj,hints,hlen⟩:=Att.uI hn hpre hwl
 have KX:=hY w _ Y
 obtain ⟨fd,hb,hF⟩:=F w mg fa _ KX G.T.g hmg
 refine enter_call (codeAny_mono (vD KX G.T.g G.T.b G.T.builtins G.T.nolimit hg hobj hints (Nat.le_trans hlen hn2) hr hF hb (fun H hO hS=>hsp w H a ns hlen (nq hlay) hO hS) fun H e s'=>hCX w H s₁ e s') fun r s' hq=>?_)
 obtain ⟨rfl,h2,h3,h4⟩:=hq
 exact ⟨.inl ⟨.bool true,.bool true,[],rfl,fun _=>rfl,.bool true,Att.uy l _,fun _=>⟨List.Pairwise.nil,fun _ hm=>(nomatch hm)⟩⟩,h2,h3,h4⟩
end
end L2
variable {a0 a1 a10 a11 a12 a13 a14 a15 a16 a17 a18 a19 a2 a20 a3 a4 a5 a6 a7 a8 a9:Option V} {ta te:TE} {xs:List V}
namespace L2
open PySem PySem.Spec PyProof.Rows
section
variable {H:Hp} {Q:VK} {σ:St} {D:cA}
theorem wX{v:V}{b:Option V}{r:St}{Z:St->Hp->Prop}:aQ 0 v (b :: r) H Z=Z (some v :: r) H:=rfl
theorem wY{v:V}{b:Option V}{r:St}{Z:St->Hp->Prop}:aQ 1 v (a0 :: b :: r) H Z=Z (a0 :: some v :: r) H:=rfl
theorem wZ{v:V}{b:Option V}{r:St}{Z:St->Hp->Prop}:aQ 2 v (a0 :: a1 :: b :: r) H Z=Z (a0 :: a1 :: some v :: r) H:=rfl
theorem x0{v:V}{b:Option V}{r:St}{Z:St->Hp->Prop}:aQ 3 v (a0 :: a1 :: a2 :: b :: r) H Z=Z (a0 :: a1 :: a2 :: some v :: r) H:=rfl
theorem x2{v:V}{b:Option V}{r:St}{Z:St->Hp->Prop}:aQ 4 v (a0 :: a1 :: a2 :: a3 :: b :: r) H Z=Z (a0 :: a1 :: a2 :: a3 :: some v :: r) H:=rfl
theorem x3{v:V}{b:Option V}{r:St}{Z:St->Hp->Prop}:aQ 5 v (a0 :: a1 :: a2 :: a3 :: a4 :: b :: r) H Z=Z (a0 :: a1 :: a2 :: a3 :: a4 :: some v :: r) H:=rfl
theorem x4{v:V}{b:Option V}{r:St}{Z:St->Hp->Prop}:aQ 6 v (a0 :: a1 :: a2 :: a3 :: a4 :: a5 :: b :: r) H Z=Z (a0 :: a1 :: a2 :: a3 :: a4 :: a5 :: some v :: r) H:=rfl
theorem x5{v:V}{b:Option V}{r:St}{Z:St->Hp->Prop}:aQ 7 v (a0 :: a1 :: a2 :: a3 :: a4 :: a5 :: a6 :: b :: r) H Z=Z (a0 :: a1 :: a2 :: a3 :: a4 :: a5 :: a6 :: some v :: r) H:=rfl
theorem x6{v:V}{b:Option V}{r:St}{Z:St->Hp->Prop}:aQ 8 v (a0 :: a1 :: a2 :: a3 :: a4 :: a5 :: a6 :: a7 :: b :: r) H Z=Z (a0 :: a1 :: a2 :: a3 :: a4 :: a5 :: a6 :: a7 :: some v :: r) H:=rfl
theorem x8{v:V}{b:Option V}{r:St}{Z:St->Hp->Prop}:aQ 9 v (a0 :: a1 :: a2 :: a3 :: a4 :: a5 :: a6 :: a7 :: a8 :: b :: r) H Z=Z (a0 :: a1 :: a2 :: a3 :: a4 :: a5 :: a6 :: a7 :: a8 :: some v :: r) H:=rfl
theorem oJ{v:V}{b:Option V}{r:St}{Z:St->Hp->Prop}:aQ 10 v (a0 :: a1 :: a2 :: a3 :: a4 :: a5 :: a6 :: a7 :: a8 :: a9 :: b :: r) H Z=Z (a0 :: a1 :: a2 :: a3 :: a4 :: a5 :: a6 :: a7 :: a8 :: a9 :: some v :: r) H:=rfl
theorem Ah{v:V}{b:Option V}{r:St}{Z:St->Hp->Prop}:aQ 11 v (a0 :: a1 :: a2 :: a3 :: a4 :: a5 :: a6 :: a7 :: a8 :: a9 :: a10 :: b :: r) H Z=Z (a0 :: a1 :: a2 :: a3 :: a4 :: a5 :: a6 :: a7 :: a8 :: a9 :: a10 :: some v :: r) H:=rfl
theorem Ai{v:V}{b:Option V}{r:St}{Z:St->Hp->Prop}:aQ 12 v (a0 :: a1 :: a2 :: a3 :: a4 :: a5 :: a6 :: a7 :: a8 :: a9 :: a10 :: a11 :: b :: r) H Z=Z (a0 :: a1 :: a2 :: a3 :: a4 :: a5 :: a6 :: a7 :: a8 :: a9 :: a10 :: a11 :: some v :: r) H:=rfl
theorem Aj{v:V}{b:Option V}{r:St}{Z:St->Hp->Prop}:aQ 13 v (a0 :: a1 :: a2 :: a3 :: a4 :: a5 :: a6 :: a7 :: a8 :: a9 :: a10 :: a11 :: a12 :: b :: r) H Z=Z (a0 :: a1 :: a2 :: a3 :: a4 :: a5 :: a6 :: a7 :: a8 :: a9 :: a10 :: a11 :: a12 :: some v :: r) H:=rfl
theorem Ak{v:V}{b:Option V}{r:St}{Z:St->Hp->Prop}:aQ 14 v (a0 :: a1 :: a2 :: a3 :: a4 :: a5 :: a6 :: a7 :: a8 :: a9 :: a10 :: a11 :: a12 :: a13 :: b :: r) H Z=Z (a0 :: a1 :: a2 :: a3 :: a4 :: a5 :: a6 :: a7 :: a8 :: a9 :: a10 :: a11 :: a12 :: a13 :: some v :: r) H:=rfl
theorem Al{v:V}{b:Option V}{r:St}{Z:St->Hp->Prop}:aQ 15 v (a0 :: a1 :: a2 :: a3 :: a4 :: a5 :: a6 :: a7 :: a8 :: a9 :: a10 :: a11 :: a12 :: a13 :: a14 :: b :: r) H Z=Z (a0 :: a1 :: a2 :: a3 :: a4 :: a5 :: a6 :: a7 :: a8 :: a9 :: a10 :: a11 :: a12 :: a13 :: a14 :: some v :: r) H:=rfl
theorem Am{v:V}{b:Option V}{r:St}{Z:St->Hp->Prop}:aQ 16 v (a0 :: a1 :: a2 :: a3 :: a4 :: a5 :: a6 :: a7 :: a8 :: a9 :: a10 :: a11 :: a12 :: a13 :: a14 :: a15 :: b :: r) H Z=Z (a0 :: a1 :: a2 :: a3 :: a4 :: a5 :: a6 :: a7 :: a8 :: a9 :: a10 :: a11 :: a12 :: a13 :: a14 :: a15 :: some v :: r) H:=rfl
theorem An{v:V}{b:Option V}{r:St}{Z:St->Hp->Prop}:aQ 17 v (a0 :: a1 :: a2 :: a3 :: a4 :: a5 :: a6 :: a7 :: a8 :: a9 :: a10 :: a11 :: a12 :: a13 :: a14 :: a15 :: a16 :: b :: r) H Z=Z (a0 :: a1 :: a2 :: a3 :: a4 :: a5 :: a6 :: a7 :: a8 :: a9 :: a10 :: a11 :: a12 :: a13 :: a14 :: a15 :: a16 :: some v :: r) H:=rfl
theorem Ao{v:V}{b:Option V}{r:St}{Z:St->Hp->Prop}:aQ 18 v (a0 :: a1 :: a2 :: a3 :: a4 :: a5 :: a6 :: a7 :: a8 :: a9 :: a10 :: a11 :: a12 :: a13 :: a14 :: a15 :: a16 :: a17 :: b :: r) H Z=Z (a0 :: a1 :: a2 :: a3 :: a4 :: a5 :: a6 :: a7 :: a8 :: a9 :: a10 :: a11 :: a12 :: a13 :: a14 :: a15 :: a16 :: a17 :: some v :: r) H:=rfl
theorem Ap{v:V}{b:Option V}{r:St}{Z:St->Hp->Prop}:aQ 19 v (a0 :: a1 :: a2 :: a3 :: a4 :: a5 :: a6 :: a7 :: a8 :: a9 :: a10 :: a11 :: a12 :: a13 :: a14 :: a15 :: a16 :: a17 :: a18 :: b :: r) H Z=Z (a0 :: a1 :: a2 :: a3 :: a4 :: a5 :: a6 :: a7 :: a8 :: a9 :: a10 :: a11 :: a12 :: a13 :: a14 :: a15 :: a16 :: a17 :: a18 :: some v :: r) H:=rfl
theorem Aq{v:V}{b:Option V}{r:St}{Z:St->Hp->Prop}:aQ 20 v (a0 :: a1 :: a2 :: a3 :: a4 :: a5 :: a6 :: a7 :: a8 :: a9 :: a10 :: a11 :: a12 :: a13 :: a14 :: a15 :: a16 :: a17 :: a18 :: a19 :: b :: r) H Z=Z (a0 :: a1 :: a2 :: a3 :: a4 :: a5 :: a6 :: a7 :: a8 :: a9 :: a10 :: a11 :: a12 :: a13 :: a14 :: a15 :: a16 :: a17 :: a18 :: a19 :: some v :: r) H:=rfl
theorem Ar{v:V}{b:Option V}{r:St}{Z:St->Hp->Prop}:aQ 21 v (a0 :: a1 :: a2 :: a3 :: a4 :: a5 :: a6 :: a7 :: a8 :: a9 :: a10 :: a11 :: a12 :: a13 :: a14 :: a15 :: a16 :: a17 :: a18 :: a19 :: a20 :: b :: r) H Z=Z (a0 :: a1 :: a2 :: a3 :: a4 :: a5 :: a6 :: a7 :: a8 :: a9 :: a10 :: a11 :: a12 :: a13 :: a14 :: a15 :: a16 :: a17 :: a18 :: a19 :: a20 :: some v :: r) H:=rfl
theorem As{v:V}{b:Option V}{r:St}{Z:St->Hp->Prop}{a21:Option V}:aQ 22 v (a0 :: a1 :: a2 :: a3 :: a4 :: a5 :: a6 :: a7 :: a8 :: a9 :: a10 :: a11 :: a12 :: a13 :: a14 :: a15 :: a16 :: a17 :: a18 :: a19 :: a20 :: a21 :: b :: r) H Z=Z (a0 :: a1 :: a2 :: a3 :: a4 :: a5 :: a6 :: a7 :: a8 :: a9 :: a10 :: a11 :: a12 :: a13 :: a14 :: a15 :: a16 :: a17 :: a18 :: a19 :: a20 :: a21 :: some v :: r) H:=rfl
theorem At{v:V}{b:Option V}{r:St}{Z:St->Hp->Prop}{a21:Option V}{a22:Option V}:aQ 23 v (a0 :: a1 :: a2 :: a3 :: a4 :: a5 :: a6 :: a7 :: a8 :: a9 :: a10 :: a11 :: a12 :: a13 :: a14 :: a15 :: a16 :: a17 :: a18 :: a19 :: a20 :: a21 :: a22 :: b :: r) H Z=Z (a0 :: a1 :: a2 :: a3 :: a4 :: a5 :: a6 :: a7 :: a8 :: a9 :: a10 :: a11 :: a12 :: a13 :: a14 :: a15 :: a16 :: a17 :: a18 :: a19 :: a20 :: a21 :: a22 :: some v :: r) H:=rfl
theorem r_c{v:V}:tC v σ H Q=Q v H:=rfl
theorem xl{r:R2}{tb:TE}:tOp r ta tb σ H Q=ta σ H fun x H1=>tb σ H1 fun y H2=>r x y H2 Q:=rfl
theorem xu{r:V->Hp->VK->Prop}:tUn r ta σ H Q=ta σ H fun x H1=>r x H1 Q:=rfl
theorem nH{i j:Int}:decide (V.int i=V.int j)=decide (i=j):=by
 by_cases h:i=j
 ·rw [decide_eq_true h,decide_eq_true (congrArg V.int h)]
 ·rw [decide_eq_false h,decide_eq_false fun q=>h (V.int.inj q)]
theorem nJ{i j:Str}:decide (V.str i=V.str j)=decide (i=j):=by
 by_cases h:i=j
 ·rw [decide_eq_true h,decide_eq_true (congrArg V.str h)]
 ·rw [decide_eq_false h,decide_eq_false fun q=>h (V.str.inj q)]
theorem yH{i j:Bool}:decide (V.bl i=V.bl j)=decide (i=j):=by
 by_cases h:i=j
 ·rw [decide_eq_true h,decide_eq_true (congrArg V.bl h)]
 ·rw [decide_eq_false h,decide_eq_false fun q=>h (V.bl.inj q)]
theorem oC{i j:Int}:rEq (.int i) (.int j) H Q=Q (.bl (decide (i=j))) H:=by
 show (qS (.int i) (.int j)=true/\Q (.bl (decide (V.int i=V.int j))) H)=_
 rw [nH];exact propext ⟨fun h=>h.2,fun h=>⟨rfl,h⟩⟩
theorem oE{i j:Str}:rEq (.str i) (.str j) H Q=Q (.bl (decide (i=j))) H:=by
 show (qS (.str i) (.str j)=true/\Q (.bl (decide (V.str i=V.str j))) H)=_
 rw [nJ];exact propext ⟨fun h=>h.2,fun h=>⟨rfl,h⟩⟩
theorem Ag{i j:Bool}:rEq (.bl i) (.bl j) H Q=Q (.bl (decide (i=j))) H:=by
 show (qS (.bl i) (.bl j)=true/\Q (.bl (decide (V.bl i=V.bl j))) H)=_
 rw [yH];exact propext ⟨fun h=>h.2,fun h=>⟨rfl,h⟩⟩
theorem oT{i j:Int}:rNe (.int i) (.int j) H Q=Q (.bl (!decide (i=j))) H:=by
 show (qS (.int i) (.int j)=true/\Q (.bl (!decide (V.int i=V.int j))) H)=_
 rw [nH];exact propext ⟨fun h=>h.2,fun h=>⟨rfl,h⟩⟩
theorem oU{i j:Str}:rNe (.str i) (.str j) H Q=Q (.bl (!decide (i=j))) H:=by
 show (qS (.str i) (.str j)=true/\Q (.bl (!decide (V.str i=V.str j))) H)=_
 rw [nJ];exact propext ⟨fun h=>h.2,fun h=>⟨rfl,h⟩⟩
theorem jD{c:Bool}{Z:Bool->Prop}:(∃k,V.bl c=V.bl k/\Z k)=Z c:=propext ⟨by rintro ⟨_,e,q⟩;cases e;exact q,by intro q;exact ⟨c,rfl,q⟩⟩
theorem gx{c:Int}{Z:Int->Prop}:(∃k,V.int c=V.int k/\Z k)=Z c:=propext ⟨by rintro ⟨_,e,q⟩;cases e;exact q,by intro q;exact ⟨c,rfl,q⟩⟩
theorem kf{t:TE}{Z:Bool->Hp->Prop}:xY t σ H Z=t σ H fun x H'=>∃k,x=.bl k/\Z k H':=rfl
theorem r_B{t:TE}{Z:Bool->Hp->Prop}:tB t σ H Z=t σ H fun x H'=>∃k,x=.bl k/\Z k H':=rfl
theorem oy{t u:TT}{Z:Bool->Hp->Prop}:C1 t u σ H Z=t σ H fun c H1=>if c=true then u σ H1 Z else Z false H1:=rfl
theorem xn{t u:TT}{Z:Bool->Hp->Prop}:tOr t u σ H Z=t σ H fun c H1=>if c=true then Z true H1 else u σ H1 Z:=rfl
theorem oW{t:TT}{Z:Bool->Hp->Prop}:C8 t σ H Z=t σ H fun c H1=>Z (!c) H1:=rfl
theorem jt{tb:TE}:xO ta tb σ H Q=ta σ H fun x H1=>∃c,x=.bl c/\if c=true then tb σ H1 Q else Q (.bl false) H1:=rfl
theorem oX{tb:TE}:C9 ta tb σ H Q=ta σ H fun x H1=>∃c,x=.bl c/\if c=true then Q (.bl true) H1 else tb σ H1 Q:=rfl
theorem k7:xW ta σ H Q=ta σ H fun x H1=>∃c,x=.bl c/\Q (.bl (!c)) H1:=rfl
theorem x9{t:TT}{tb:TE}:tIf t ta tb σ H Q=t σ H fun c H1=>if c=true then ta σ H1 Q else tb σ H1 Q:=rfl
theorem k6:xV D σ H=D.nx σ H:=rfl
theorem xq{t u:TS}:zU t u D σ H=t {D with nx:=u D} σ H:=rfl
theorem Af:C2 D σ H=D.bk σ H:=rfl
theorem wO:CV D σ H=D.ct σ H:=rfl
theorem jz:xS te D σ H=te σ H fun _ H1=>D.nx σ H1:=rfl
theorem oY:uO te D σ H=te σ H D.rt:=rfl
theorem xp:CY D σ H=D.rt .non H:=rfl
theorem sL{c:TT}{t u:TS}:zS c t u D σ H=c σ H fun b H1=>if b=true then t D σ H1 else u D σ H1:=rfl
theorem oA{g:TG}:xP te g D σ H=te σ H fun x H1=>g x σ H1 D.nx:=rfl
theorem wK{r:List V->Hp->VK->Prop}{t:TA}:tCB r t σ H Q=t σ H fun vs H1=>r vs H1 Q:=rfl
theorem oV{Z:List V->Hp->Prop}:mG σ H Z=Z [] H:=rfl
theorem jx{tr:TA}{Z:List V->Hp->Prop}:xQ ta tr σ H Z=ta σ H fun x H1=>tr σ H1 fun xs H2=>Z (x :: xs) H2:=rfl
theorem jw{sp:Sp}{E:XK}{t:TA}:pY sp [] E t σ H Q=t σ H fun vs H1=>sp vs H1 Q E:=by
 show (t σ H fun vs H1=>sp (vs ++ []) H1 Q E)=_
 simp only [List.append_nil]
theorem ph{t:TA}:Cb t σ H Q=t σ H fun xs H1=>xs.length<=sizeLine/\∀p,H1 p=none->Q (.ref p) (upd H1 p (.tup xs)):=rfl
theorem oS{t:TA}:C7 t σ H Q=t σ H fun xs H1=>xs.length<=sizeLine/\∀p,H1 p=none->Q (.ref p) (upd H1 p (.lst xs)):=rfl
theorem CS{Z:List (V×V)->Hp->Prop}:im [] σ H Z=Z [] H:=rfl
theorem CT{tk tv:TE}{r:List (TE×TE)}{Z:List (V×V)->Hp->Prop}:im ((tk,tv) :: r) σ H Z=tk σ H fun x H1=>tv σ H1 fun y H2=>im r σ H2 fun ps H3=>Z ((x,y) :: ps) H3:=rfl
theorem wR{trs:List (TE×TE)}:CW trs σ H Q=∀p,H p=none->im trs σ (upd H p (.dK [])) fun ps H2=>H2 p=some (.dK [])/\∃kvs:List (Key×V),ps=kvs.map (fun kv=>(kV kv.1,kv.2))/\kvs.length<=15/\Q (.ref p) (upd H2 p (.dK (vH [] kvs))):=rfl
theorem jy{td ty:TE}:xR td ty σ H Q=td σ H fun x H1=>ty σ H1 fun y H2=>∃a v,x=.ref a/\DGet H2 a y (some v)/\Q v H2:=rfl
theorem xt{r:V->Option Int->Option Int->Hp->VK->Prop}{tl th:TO}:tSl r te tl th σ H Q=te σ H fun x H1=>tl σ H1 fun l H2=>th σ H2 fun u H3=>r x l u H3 Q:=rfl
theorem eK{Z:Option Int->Hp->Prop}:mH σ H Z=Z none H:=rfl
theorem k8{Z:Option Int->Hp->Prop}:xX te σ H Z=te σ H fun x H1=>∃i,x=.int i/\Z (some i) H1:=rfl
theorem jF{Z:St->Hp->Prop}:AY [] σ H Z=Z σ H:=propext ⟨fun h=>h.2,fun h=>⟨rfl,h⟩⟩
theorem gy{t:TG}{u:TGs}{v:V}{r:List V}{Z:St->Hp->Prop}:vo t u (v :: r) σ H Z=t v σ H fun σ' H'=>u r σ' H' Z:=propext ⟨by rintro ⟨_,_,e,q⟩;cases e;exact q,by intro q;exact ⟨v,r,rfl,q⟩⟩
theorem Au{A B:Prop}:(if true=true then A else B)=A:=if_pos rfl
theorem oO{A B:Prop}:(if false=true then A else B)=B:=if_neg Bool.false_ne_true
theorem xk:(!true)=false:=rfl
theorem xj:(!false)=true:=rfl
theorem jP:(([]:List V).length<=sizeLine)=True:=eq_true (by show 0<=sizeLine;decide)
theorem jQ{a0:V}:(([a0]:List V).length<=sizeLine)=True:=eq_true (by show 1<=sizeLine;decide)
theorem jR{a0 a1:V}:(([a0,a1]:List V).length<=sizeLine)=True:=eq_true (by show 2<=sizeLine;decide)
theorem jS{a0 a1 a2:V}:(([a0,a1,a2]:List V).length<=sizeLine)=True:=eq_true (by show 3<=sizeLine;decide)
theorem jT{a0 a1 a2 a3:V}:(([a0,a1,a2,a3]:List V).length<=sizeLine)=True:=eq_true (by show 4<=sizeLine;decide)
theorem xb{a0 a1 a2 a3 a4:V}:(([a0,a1,a2,a3,a4]:List V).length<=sizeLine)=True:=eq_true (by show 5<=sizeLine;decide)
theorem xc{a0 a1 a2 a3 a4 a5:V}:(([a0,a1,a2,a3,a4,a5]:List V).length<=sizeLine)=True:=eq_true (by show 6<=sizeLine;decide)
theorem jU{a0 a1 a2 a3 a4 a5 a6:V}:(([a0,a1,a2,a3,a4,a5,a6]:List V).length<=sizeLine)=True:=eq_true (by show 7<=sizeLine;decide)
theorem jV{a0 a1 a2 a3 a4 a5 a6 a7:V}:(([a0,a1,a2,a3,a4,a5,a6,a7]:List V).length<=sizeLine)=True:=eq_true (by show 8<=sizeLine;decide)
theorem xf{a0 a1 a2 a3 a4 a5 a6 a7 a8:V}:(([a0,a1,a2,a3,a4,a5,a6,a7,a8]:List V).length<=sizeLine)=True:=eq_true (by show 9<=sizeLine;decide)
theorem sO{a0 a1 a2 a3 a4 a5 a6 a7 a8 a9:V}:(([a0,a1,a2,a3,a4,a5,a6,a7,a8,a9]:List V).length<=sizeLine)=True:=eq_true (by show 10<=sizeLine;decide)
theorem sP{a0 a1 a2 a3 a4 a5 a6 a7 a8 a9 a10:V}:(([a0,a1,a2,a3,a4,a5,a6,a7,a8,a9,a10]:List V).length<=sizeLine)=True:=eq_true (by show 11<=sizeLine;decide)
end
def mQ(J:It)(g:TG)(tb:TS)(D:cA)(σ:St)(H1:Hp):Prop:=∃W:Nat->Nat->St->Hp->Prop,(∃m,W 0 m σ H1)/\∀i m σ H,W i m σ H->
 (J.stop i H/\D.nx σ H)\/(J.go i H/\∃N:St->Hp->Prop,(∀σ' H',N σ' H'->∃m',m' < m/\W (i+1) m' σ' H')/\∀x H',J.yld i H x H'->g x σ H' fun σ2 H2=>tb {D with nx:=N,ct:=N,bk:=D.nx} σ2 H2)
section
variable {g:TG} {tb:TS} {D:cA} {σ:St} {H:Hp}
theorem oI{wi:TI}:C6 wi g tb D σ H=wi σ H fun J H1=>mQ J g tb D σ H1:=rfl
theorem gz{K:PySem.W.Frag}{ta:TA}{R:It->Hp->Prop}:vt K ta σ H R=ta σ H fun vs H1=>∃a,vs=[.ref a]/\(∃xs,SqL K H1 a xs)/\R (Ite K a) H1:=rfl
theorem gA{K:PySem.W.Frag}{tl:TE}{R:It->Hp->Prop}:vv K tl σ H R=tl σ H fun x H1=>∃a,x=.ref a/\(∃xs,SqL K H1 a xs)/\R (Itl K a) H1:=rfl
theorem jL{K:PySem.W.Frag}{tl:TE}{R:It->Hp->Prop}:B4 K tl σ H R=tl σ H fun x H1=>∃a,x=.ref a/\(∃xs,SqT K H1 a xs)/\R (Itt K a) H1:=rfl
theorem gB{ta:TA}{R:It->Hp->Prop}:vw ta σ H R=ta σ H fun vs H1=>∃j:Int,vs=[.int j]/\-(2 ^ 62)<=j/\j < 2 ^ 62/\R (Itr 0 j.toNat) H1:=rfl
theorem gC{ta:TA}{R:It->Hp->Prop}:vx ta σ H R=ta σ H fun vs H1=>∃i j:Int,vs=[.int i,.int j]/\(-(2 ^ 62)<=i/\i < 2 ^ 62/\-(2 ^ 62)<=j/\j < 2 ^ 62)/\R (Itr i (j - i).toNat) H1:=rfl
theorem jA{c:Int}{Z:Int->Prop}:(∃k,[V.int c]=[V.int k]/\Z k)=Z c:=propext ⟨by rintro ⟨_,e,q⟩;cases e;exact q,by intro q;exact ⟨c,rfl,q⟩⟩
theorem jB{c d:Int}{Z:Int->Int->Prop}:(∃k l,[V.int c,V.int d]=[V.int k,V.int l]/\Z k l)=Z c d:=propext ⟨by rintro ⟨_,_,e,q⟩;cases e;exact q,by intro q;exact ⟨c,d,rfl,q⟩⟩
theorem wT{c:Addr}{Z:Addr->Prop}:(∃k,[V.ref c]=[V.ref k]/\Z k)=Z c:=propext ⟨by rintro ⟨_,e,q⟩;cases e;exact q,by intro q;exact ⟨c,rfl,q⟩⟩
theorem oF{c:Addr}{Z:Addr->Prop}:(∃k,V.ref c=V.ref k/\Z k)=Z c:=propext ⟨by rintro ⟨_,e,q⟩;cases e;exact q,by intro q;exact ⟨c,rfl,q⟩⟩
theorem nR{lo:Int}{n:Nat}(Pv:Nat->St->Hp->Prop)(h0:Pv 0 σ H)
 (hs:∀(i:Nat)σ H,i < n->Pv i σ H->g (.int (lo+i)) σ H fun σ2 H2=>tb {D with nx:=Pv (i+1),ct:=Pv (i+1),bk:=D.nx} σ2 H2) (hd:∀σ H,Pv n σ H->D.nx σ H):mQ (Itr lo n) g tb D σ H:=tV Pv h0 hs hd
theorem la{n:Nat}(Pv:Nat->St->Hp->Prop)(h0:Pv 0 σ H)
 (hs:∀(i:Nat)σ H,i < n->Pv i σ H->g (.int (i:Int)) σ H fun σ2 H2=>tb {D with nx:=Pv (i+1),ct:=Pv (i+1),bk:=D.nx} σ2 H2) (hd:∀σ H,Pv n σ H->D.nx σ H):mQ (Itr 0 n) g tb D σ H:=
 nR Pv h0 (fun i σ H hi p=>by rw [Int.zero_add];exact hs i σ H hi p) hd
theorem yL{K:PySem.W.Frag}{a:Addr}(Pv:Nat->St->Hp->Prop)(h0:Pv 0 σ H)(hl:∀i σ H,i<=xs.length->Pv i σ H->SqL K H a xs)
 (hs:∀(i:Nat)x σ H p,xs[i]?=some x->H p=none->Pv i σ H->g (.ref p) σ (upd H p (.tup [.int i,x])) fun σ2 H2=>tb {D with nx:=Pv (i+1),ct:=Pv (i+1),bk:=D.nx} σ2 H2) (hd:∀σ H,Pv xs.length σ H->D.nx σ H):mQ (Ite K a) g tb D σ H:=vj Pv h0 hl hs hd
theorem cv{K:PySem.W.Frag}{a:Addr}(Pv:Nat->St->Hp->Prop)(h0:Pv 0 σ H)(hl:∀i σ H,i<=xs.length->Pv i σ H->SqL K H a xs)
 (hs:∀(i:Nat)x σ H,xs[i]?=some x->Pv i σ H->g x σ H fun σ2 H2=>tb {D with nx:=Pv (i+1),ct:=Pv (i+1),bk:=D.nx} σ2 H2) (hd:∀σ H,Pv xs.length σ H->D.nx σ H):mQ (Itl K a) g tb D σ H:=vk Pv h0 hl hs hd
theorem Same.upd{H:Hp}{p:Addr}{o:HO}(h:H p=none):Same H (upd H p o):=fun b u e=>by rw [al (ai e h)];exact e
theorem Same.seqT{K:PySem.W.Frag}{H H':Hp}{a:Addr}(e:Same H H')(h:SqT K H a xs):SqT K H' a xs:=by
 rcases h with (h | ⟨o,h⟩) | h
 ·exact .inl (.inl (e _ _ h))
 ·exact .inl (.inr ⟨o,e _ _ h⟩)
 ·exact .inr h
end
section
variable {H:Hp} {Q:VK} {σ:St} {D:cA} {K:PySem.W.Frag}
theorem wN{T:String}{r:V->List V->Hp->VK->Prop}{to:TE}{t:TA}:tBM K T r to t σ H Q=to σ H fun x H1=>tyV K T x H1/\t σ H1 fun xs H2=>r x xs H2 Q:=rfl
theorem Ae{T:String}{r:V->List V->Hp->VK->Prop}{to:TE}:Df K T r to σ H Q=to σ H fun x H1=>tyV K T x H1/\r x [] H1 Q:=rfl
theorem oQ{z:Str}{i:Int}:CM (.str z) (.int i) H Q=(z.length<=sizeLine/\∃c,atI z.cps.toList i=some c/\Q (.str ⟨#[c]⟩) H):=propext ⟨by rintro ⟨_,_,c,e1,e2,h1,h2,q⟩;cases e1;cases e2;exact ⟨h1,c,h2,q⟩,by rintro ⟨h1,c,h2,q⟩;exact ⟨_,_,c,rfl,rfl,h1,h2,q⟩⟩
theorem oP{p:Addr}{i:Int}:BQ K (.ref p) (.int i) H Q=∃xs v,SqL K H p xs/\atI xs i=some v/\Q v H:=propext ⟨by rintro ⟨_,xs,_,v,e1,e2,h1,h2,q⟩;cases e1;cases e2;exact ⟨xs,v,h1,h2,q⟩,by rintro ⟨xs,v,h1,h2,q⟩;exact ⟨_,xs,_,v,rfl,rfl,h1,h2,q⟩⟩
theorem oR{p:Addr}{i:Int}:BR K (.ref p) (.int i) H Q=∃xs v,SqT K H p xs/\atI xs i=some v/\Q v H:=propext ⟨by rintro ⟨_,xs,_,v,e1,e2,h1,h2,q⟩;cases e1;cases e2;exact ⟨xs,v,h1,h2,q⟩,by rintro ⟨xs,v,h1,h2,q⟩;exact ⟨_,xs,_,v,rfl,rfl,h1,h2,q⟩⟩
theorem oB{a b:Addr}:CL (.ref a) (.ref b) H Q=∃xs zs,H a=some (.lst xs)/\H b=some (.lst zs)/\xs.length+zs.length<=sizeLine/\∀p,H p=none->Q (.ref p) (upd H p (.lst (xs ++ zs))):=propext ⟨by rintro ⟨_,_,xs,zs,e1,e2,h⟩;cases e1;cases e2;exact ⟨xs,zs,h⟩,by rintro ⟨xs,zs,h⟩;exact ⟨_,_,xs,zs,rfl,rfl,h⟩⟩
theorem oZ{a:Addr}{lo hi:Option Int}:CO K (.ref a) lo hi H Q=∃xs,SqL K H a xs/\∀p,H p=none->Q (.ref p) (upd H p (.lst (cR xs lo hi))):=propext ⟨by rintro ⟨_,xs,e1,h⟩;cases e1;exact ⟨xs,h⟩,by rintro ⟨xs,h⟩;exact ⟨_,xs,rfl,h⟩⟩
theorem ee{a:Addr}{y:V}:sC (.ref a) [y] H Q=∃xs,H a=some (.lst xs)/\xs.length < sizeLine/\Q .non (upd H a (.lst (xs ++ [y]))):=propext ⟨by rintro ⟨_,xs,_,e1,e2,h⟩;cases e1;cases e2;exact ⟨xs,h⟩,by rintro ⟨xs,h⟩;exact ⟨_,xs,_,rfl,rfl,h⟩⟩
theorem Aw{a:Addr}:Dd (.ref a) [] H Q=∃xs y,H a=some (.lst xs)/\xs[xs.length - 1]?=some y/\Q y (upd H a (.lst xs.dropLast)):=propext ⟨by rintro ⟨_,xs,y,e1,_,h⟩;cases e1;exact ⟨xs,y,h⟩,by rintro ⟨xs,y,h⟩;exact ⟨_,xs,y,rfl,rfl,h⟩⟩
theorem wV{a b:Str}{Z:Str->Str->Prop}:(∃i j,V.str a=V.str i/\V.str b=V.str j/\Z i j)=Z a b:=propext ⟨by rintro ⟨_,_,e1,e2,q⟩;cases e1;cases e2;exact q,by intro q;exact ⟨a,b,rfl,rfl,q⟩⟩
theorem jC{a:Addr}{Z:Addr->List V->Prop}:(∃p ys,[V.ref a]=[V.ref p]/\Z p ys)=∃ys,Z a ys:=propext ⟨by rintro ⟨_,ys,e1,q⟩;cases e1;exact ⟨ys,q⟩,by rintro ⟨ys,q⟩;exact ⟨a,ys,rfl,q⟩⟩
theorem jN{c:Bool}{Z:Int->Prop}{Y:Bool->Prop}:((∃i,[V.bl c]=[V.int i]/\Z i)\/∃k,[V.bl c]=[V.bl k]/\Y k)=Y c:=propext ⟨fun h=>(by rcases h with ⟨_,e,q⟩ | ⟨_,e,q⟩ <;> cases e <;> exact q),fun q=>Or.inr ⟨c,rfl,q⟩⟩
theorem xa{c:Int}{Z:Int->Prop}{Y:Bool->Prop}:((∃i,[V.int c]=[V.int i]/\Z i)\/∃k,[V.int c]=[V.bl k]/\Y k)=Z c:=propext ⟨fun h=>(by rcases h with ⟨_,e,q⟩ | ⟨_,e,q⟩ <;> cases e <;> exact q),fun q=>Or.inl ⟨c,rfl,q⟩⟩
theorem jH{n:Nat}{t:TGs}{a:Addr}{Z:St->Hp->Prop}:B0 K n t (.ref a) σ H Z=∃xs,SqT K H a xs/\xs.length=n/\t xs σ H Z:=propext ⟨by rintro ⟨_,xs,e,h⟩;cases e;exact ⟨xs,h⟩,by rintro ⟨xs,h⟩;exact ⟨a,xs,rfl,h⟩⟩
end
end L2
namespace L2
open PySem PySem.Spec PyProof.Rows
section
variable {prog:Program} {w:World} {A:Around} {R:Result->Shared->Prop} {s:Shared}
end
end L2
namespace L2
open PySem PySem.Spec PyProof.Rows
inductive Dq (K:PySem.W.Frag) (H:Hp):Nat->V->V->Bool->Prop where
 | flat {n:Nat} {x y:V} (fx:bz x=true) (fy:bz y=true):Dq K H n x y (eqV x y)
 | same {n:Nat} {a:Addr}:Dq K H n (.ref a) (.ref a) true
 | lists {n:Nat} {a b:Addr} {xs ys:List V} (e:Nat->Bool) (ne:a≠b) (ha:SqL K H a xs) (hb:SqL K H b ys) (hl:xs.length=ys.length)
   (he:∀(j:Nat)x y,xs[j]?=some x->ys[j]?=some y->Dq K H n x y (e j)):Dq K H (n+1) (.ref a) (.ref b) ((List.range xs.length).all e)
 | lens {n:Nat} {a b:Addr} {xs ys:List V} (ne:a≠b) (ha:SqL K H a xs) (hb:SqL K H b ys) (hl:¬xs.length=ys.length):Dq K H (n+1) (.ref a) (.ref b) false
 | tups {n:Nat} {a b:Addr} {xs ys:List V} (e:Nat->Bool) (ne:a≠b) (ha:SqT K H a xs) (hb:SqT K H b ys)
   (he:∀(j:Nat)x y,xs[j]?=some x->ys[j]?=some y->Dq K H n x y (e j)):Dq K H (n+1) (.ref a) (.ref b) ((List.range (min xs.length ys.length)).all e && xs.length == ys.length)
section
variable {X:Cx} {pins:List (Addr×Obj)} {σ:St} {H:Hp} {s:Shared}
theorem dN{xs:List V}{its:List Value}(r:Vals xs its){j:Nat}(h:j < its.toArray.size):∃x,xs[j]?=some x/\RelV x its.toArray[j]:=by
 have hl:=r.length
 have hj:j < xs.length:=by simpa [hl] using h
 obtain ⟨u,hu,ru⟩:=r.get (List.getElem?_eq_getElem hj)
 have e:its.toArray[j]=u:=by
  have h2:its[j]?=some u:=hu
  have h3:j < its.length:=by simpa using h
  rw [List.getElem?_eq_getElem h3] at h2
  simpa using h2
 exact ⟨xs[j],List.getElem?_eq_getElem hj,by rw [e];exact ru⟩
theorem Dq.at(I:Inv X pins σ H s){n:Nat}{x y:V}{b:Bool}(d:Dq X.K H n x y b):∀{A:Around} {v u:Value},RelV x v->RelV y u->A.units+n < cLine->SeqAt.EqAt A s v u b:=by
 induction d with
 | flat fx fy=>intro A v u rv ru _;exact vh rv ru fx fy
 | same=>intro A v u rv ru _;cases rv;cases ru;exact SeqAt.EqAt.same _
 | @lists n a b xs ys e ne ha hb hl he ih=>
  intro A v u rv ru hu
  cases rv;cases ru
  obtain ⟨its,r,p,_⟩:=I.list ha
  obtain ⟨its2,r2,p2,_⟩:=I.list hb
  have e1:=r.length
  have e2:=r2.length
  have z:=SeqAt.RcAt.lists (A:=A) (e:=e) p.isList p2.isList (by simp;omega) (by omega) fun j h1 h2=>by
   obtain ⟨x,hx,rx⟩:=dN r h1
   obtain ⟨y,hy,ry⟩:=dN r2 h2
   exact ih j x y hx hy rx ry (by show A.units+1+n < cLine;omega)
  have e3:its.toArray.size=xs.length:=by simp [e1]
  rw [e3] at z
  exact SeqAt.EqAt.of_refs ne z
 | @lens n a b xs ys ne ha hb hl=>
  intro A v u rv ru hu
  cases rv;cases ru
  obtain ⟨its,r,p,_⟩:=I.list ha
  obtain ⟨its2,r2,p2,_⟩:=I.list hb
  have e1:=r.length
  have e2:=r2.length
  exact SeqAt.EqAt.of_refs ne (SeqAt.RcAt.lists_lengths (A:=A) p.isList p2.isList (by simp;omega) (by omega))
 | @tups n a b xs ys e ne ha hb he ih=>
  intro A v u rv ru hu
  cases rv;cases ru
  obtain ⟨its,r,p,_⟩:=I.tuple ha
  obtain ⟨its2,r2,p2,_⟩:=I.tuple hb
  have e1:=r.length
  have e2:=r2.length
  have z:=SeqAt.RcAt.tuples (A:=A) (e:=e) (show s.heap.IsTuple a its.toArray from p) (show s.heap.IsTuple b its2.toArray from p2) (by omega) fun j h1 h2=>by
   obtain ⟨x,hx,rx⟩:=dN r h1
   obtain ⟨y,hy,ry⟩:=dN r2 h2
   exact ih j x y hx hy rx ry (by show A.units+1+n < cLine;omega)
  have e3:its.toArray.size=xs.length:=by simp [e1]
  have e4:its2.toArray.size=ys.length:=by simp [e2]
  rw [e3,e4] at z
  exact SeqAt.EqAt.of_refs ne z
end
inductive Rq (K:PySem.W.Frag) (H:Hp) (n:Nat):V->V->Bool->Prop where
 | lists {a b:Addr} {xs ys:List V} (e:Nat->Bool) (ha:SqL K H a xs) (hb:SqL K H b ys) (hl:xs.length=ys.length)
   (he:∀(j:Nat)x y,xs[j]?=some x->ys[j]?=some y->Dq K H n x y (e j)):Rq K H n (.ref a) (.ref b) ((List.range xs.length).all e)
 | lens {a b:Addr} {xs ys:List V} (ha:SqL K H a xs) (hb:SqL K H b ys) (hl:¬xs.length=ys.length):Rq K H n (.ref a) (.ref b) false
 | tups {a b:Addr} {xs ys:List V} (e:Nat->Bool) (ha:SqT K H a xs) (hb:SqT K H b ys)
   (he:∀(j:Nat)x y,xs[j]?=some x->ys[j]?=some y->Dq K H n x y (e j)):Rq K H n (.ref a) (.ref b) ((List.range (min xs.length ys.length)).all e && xs.length == ys.length)
def Db(K:PySem.W.Frag)(n:Nat):R2:=fun x y H Q=>∃b,Rq K H n x y b/\Q (.bl b) H
def Dc(K:PySem.W.Frag)(n:Nat):R2:=fun x y H Q=>∃b,Rq K H n x y b/\Q (.bl (!b)) H
section
variable {X:Cx}
theorem vX{n:Nat}(hu:X.A.units+(n+1) < cLine):OpR X (compareOp .Eq) (Db X.K n):=by
 intro pins s σ H x y v u Q I rx ry h
 obtain ⟨b,d,q⟩:=h
 cases d with
 | @lists a c xs ys e ha hb hl he=>
  cases rx;cases ry
  obtain ⟨its,r,p,_⟩:=I.list ha
  obtain ⟨its2,r2,p2,_⟩:=I.list hb
  have e1:=r.length
  have e2:=r2.length
  have e3:its.toArray.size=xs.length:=by simp [e1]
  refine SeqAt.eq_listAt (e:=e) p.isList p2.isList (by simp;omega) (by omega) (fun j h1 h2=>?_) ⟨.bl _,H,I,rfl,by rw [e3];exact q⟩
  obtain ⟨x,hx,rx⟩:=dN r h1
  obtain ⟨y,hy,ry⟩:=dN r2 h2
  exact (he j x y hx hy).at I rx ry (by show X.A.units+1+n < cLine;omega)
 | @lens a c xs ys ha hb hl=>
  cases rx;cases ry
  obtain ⟨its,r,p,_⟩:=I.list ha
  obtain ⟨its2,r2,p2,_⟩:=I.list hb
  have e1:=r.length
  have e2:=r2.length
  exact SeqAt.eq_list_lengthsAt p.isList p2.isList (by simp;omega) (by omega) ⟨.bl _,H,I,rfl,q⟩
 | @tups a c xs ys e ha hb he=>
  cases rx;cases ry
  obtain ⟨its,r,p,_⟩:=I.tuple ha
  obtain ⟨its2,r2,p2,_⟩:=I.tuple hb
  have e1:=r.length
  have e2:=r2.length
  have e3:its.toArray.size=xs.length:=by simp [e1]
  have e4:its2.toArray.size=ys.length:=by simp [e2]
  refine SeqAt.eq_tupleAt (e:=e) (show s.heap.IsTuple a its.toArray from p) (show s.heap.IsTuple c its2.toArray from p2) (by omega) (fun j h1 h2=>?_) ⟨.bl _,H,I,rfl,by rw [e3,e4];exact q⟩
  obtain ⟨x,hx,rx⟩:=dN r h1
  obtain ⟨y,hy,ry⟩:=dN r2 h2
  exact (he j x y hx hy).at I rx ry (by show X.A.units+1+n < cLine;omega)
theorem vZ{n:Nat}(hu:X.A.units+(n+1) < cLine):OpR X (compareOp .NotEq) (Dc X.K n):=by
 intro pins s σ H x y v u Q I rx ry h
 obtain ⟨b,d,q⟩:=h
 cases d with
 | @lists a c xs ys e ha hb hl he=>
  cases rx;cases ry
  obtain ⟨its,r,p,_⟩:=I.list ha
  obtain ⟨its2,r2,p2,_⟩:=I.list hb
  have e1:=r.length
  have e2:=r2.length
  have e3:its.toArray.size=xs.length:=by simp [e1]
  refine SeqAt.RcNeAt.lists (A:=X.A) (e:=e) p.isList p2.isList (by simp;omega) (by omega) (fun j h1 h2=>?_) X.prog X.w X.xe _ ⟨.bl _,H,I,rfl,by rw [e3];exact q⟩
  obtain ⟨x,hx,rx⟩:=dN r h1
  obtain ⟨y,hy,ry⟩:=dN r2 h2
  exact (he j x y hx hy).at I rx ry (by show X.A.units+1+n < cLine;omega)
 | @lens a c xs ys ha hb hl=>
  cases rx;cases ry
  obtain ⟨its,r,p,_⟩:=I.list ha
  obtain ⟨its2,r2,p2,_⟩:=I.list hb
  have e1:=r.length
  have e2:=r2.length
  exact SeqAt.RcNeAt.lists_lengths (A:=X.A) p.isList p2.isList (by simp;omega) (by omega) X.prog X.w X.xe _ ⟨.bl _,H,I,rfl,q⟩
 | @tups a c xs ys e ha hb he=>
  cases rx;cases ry
  obtain ⟨its,r,p,_⟩:=I.tuple ha
  obtain ⟨its2,r2,p2,_⟩:=I.tuple hb
  have e1:=r.length
  have e2:=r2.length
  have e3:its.toArray.size=xs.length:=by simp [e1]
  have e4:its2.toArray.size=ys.length:=by simp [e2]
  refine SeqAt.RcNeAt.tuples (A:=X.A) (e:=e) (show s.heap.IsTuple a its.toArray from p) (show s.heap.IsTuple c its2.toArray from p2) (by omega) (fun j h1 h2=>?_) X.prog X.w X.xe _ ⟨.bl _,H,I,rfl,by rw [e3,e4];exact q⟩
  obtain ⟨x,hx,rx⟩:=dN r h1
  obtain ⟨y,hy,ry⟩:=dN r2 h2
  exact (he j x y hx hy).at I rx ry (by show X.A.units+1+n < cLine;omega)
end
end L2
variable {X:Cx}
namespace L2
open PySem PySem.Spec PyProof.Rows
def ck(cells:List (Str×Addr)):List (Str×NameKind)->List (Str×Addr)->List (Str×Addr)
 | [],acc=>acc
 | (n,k) :: r,acc=>if k == .free then ck cells r ((n,(cells.lookup n).getD 0) :: acc) else ck cells r acc
theorem dc{scope:Scope}{env:Env}(h:∀y∈scope.names,y.2=.free->∃c,env.cells.lookup y.1=some c):closureFor scope env=pure (ck env.cells scope.names []):=by
 have key:∀(names:List (Str×NameKind)) (acc:List (Str×Addr)),(∀y∈names,y.2=.free->∃c,env.cells.lookup y.1=some c)->
   (forIn names acc fun x (r:List (Str×Addr))=>match x with
    | (name,kind)=>if (kind == .free)=true then do let c <- cellOf env name;pure (ForInStep.yield ((name,c) :: r)) else pure (ForInStep.yield r))=(pure (ck env.cells names acc):Sem (List (Str×Addr))):=by
  intro names
  induction names with
  | nil=>intro acc _;rfl
  | cons y r ih=>
   intro acc hy
   obtain ⟨n,k⟩:=y
   rw [List.forIn_cons]
   cases hk:(k == NameKind.free) with
   | true=>
    have hk':k=.free:=by simpa using hk
    obtain ⟨c,hc⟩:=hy (n,k) List.mem_cons_self hk'
    have e:cellOf env n=pure c:=by unfold cellOf;rw [show env.cells.lookup n=some c from hc]
    simp only [hk,if_true,e,pure_bind]
    rw [ih _ fun z hz=>hy z (List.mem_cons_of_mem _ hz)]
    simp only [ck,hk,if_true]
    rw [show env.cells.lookup n=some c from hc]
    rfl
   | false=>
    simp only [hk,Bool.false_eq_true,if_false,pure_bind]
    rw [ih _ fun z hz=>hy z (List.mem_cons_of_mem _ hz)]
    simp only [ck,hk,Bool.false_eq_true,if_false]
 refine (show closureFor scope env=((forIn scope.names [] fun x (r:List (Str×Addr))=>match x with
    | (name,kind)=>if (kind == .free)=true then do let c <- cellOf env name;pure (ForInStep.yield ((name,c) :: r)) else pure (ForInStep.yield r)) >>= fun cs=>pure cs) from rfl).trans ?_
 rw [key scope.names [] h]
 rfl
theorem g7{cells:List (Str×Addr)}:∀{names:List (Str×NameKind)} {acc:List (Str×Addr)},(∀y∈names,y.2=.free->∃c,cells.lookup y.1=some c)->(∀y c,acc.lookup y=some c->cells.lookup y=some c)->
  ∀y c,(ck cells names acc).lookup y=some c->cells.lookup y=some c
 | [],_,_,ha=>ha
 | (n,k) :: r,acc,hn,ha=>by
  intro y c
  unfold ck
  split
  ·next hk=>
   refine g7 (fun z hz=>hn z (List.mem_cons_of_mem _ hz)) (fun z d hz=>?_) y c
   obtain ⟨e,he⟩:=hn (n,k) List.mem_cons_self (by simpa using hk)
   rw [List.lookup_cons] at hz
   split at hz
   ·next hq=>
    have:z=n:=by simpa using hq
    subst this
    have he':cells.lookup z=some e:=he
    rw [he'] at hz ⊢
    exact hz
   ·exact ha z d hz
  ·exact g7 (fun z hz=>hn z (List.mem_cons_of_mem _ hz)) ha y c
theorem j9{cells:List (Str×Addr)}{y:Str}:∀{names:List (Str×NameKind)} {acc:List (Str×Addr)},(∃c,acc.lookup y=some c)->∃c,(ck cells names acc).lookup y=some c
 | [],_,h=>h
 | (n,k) :: r,acc,h=>by
  unfold ck
  split
  ·refine j9 ?_
   rw [List.lookup_cons]
   split
   ·exact ⟨_,rfl⟩
   ·exact h
  ·exact j9 h
theorem cQ{cells:List (Str×Addr)}{y:Str}:∀{names:List (Str×NameKind)} {acc:List (Str×Addr)},(y,NameKind.free)∈names->∃c,(ck cells names acc).lookup y=some c
 | (n,k) :: r,acc,h=>by
  unfold ck
  rcases List.mem_cons.mp h with e | e
  ·cases e
   rw [if_pos (by rfl)]
   exact j9 ⟨(cells.lookup y).getD 0,by rw [List.lookup_cons,beq_self_eq_true]⟩
  ·split
   ·exact cQ e
   ·exact cQ e
structure Bk where
 C:Addr
 fp:List Addr
 s₂:Shared
 H₂:Hp
def Cx.blk(X:Cx)(N':List Str)(scope:Scope)(b:Bk):Cx:=
 {prog:=X.prog,w:=X.w,K:=X.K,mg:=X.mg,base:=X.base,A:=X.A,N:=N',s₀:=b.s₂,H₀:=b.H₂,env:=compEnvC scope (ck X.env.cells scope.names []) b.C X.env,outer:=X.stack,stack:=X.stack,ex:=b.fp,fn:=fun _=>false,calm:=X.calm,pn:=[],xe:=fun _ _=>False}
def az(os:List (Option V))(ci:List Nat)(σ:St):St:=none :: (os ++ ci.map fun i=>(σ[i]?).join)
def bC(J:It)(g:TG)(tt:TT)(te:TE)(nt:Nat)(ci:List Nat)(σ:St)(acc:Addr)(Q:Hp->Prop)(H0:Hp):Prop:=∃W:Nat->Nat->List V->Hp->Prop,(∃m,W 0 m [] H0)/\∀i m ys H,W i m ys H->
 (J.stop i H/\Q H)\/(J.go i H/\∃N:List V->Hp->Prop,(∀zs H',N zs H'->∃m',m' < m/\W (i+1) m' zs H')/\∀y H' os,os.length=nt->J.yld i H y H'->g y (az os ci σ) H' fun σ1 H1=>(∃os',os'.length=nt/\σ1=az os' ci σ)/\tt σ1 H1 fun b H2=>
  if b=true then te σ1 H2 fun z H3=>H3 acc=some (.lst ys)/\ys.length < sizeLine/\N (ys ++ [z]) (upd H3 acc (.lst (ys ++ [z]))) else N ys H2)
def ky(wi:TI)(g:Bk->TG)(tt:Bk->TT)(te:Bk->TE)(nt:Nat)(ci:List Nat):TE:=fun σ H Q=>wi σ H fun J H1=>∀acc,H1 acc=none->∀bk:Bk,bC J (g bk) (tt bk) (te bk) nt ci σ acc (fun H'=>Q (.ref acc) H') (upd H1 acc (.lst []))
def mR(X:Cx)(ifs:List Expr)(t:TT):Prop:=
 ∀(pins:List (Addr×Obj)) (s:Shared) (σ:St) (H:Hp) (Q:Bool->Hp->Prop),Inv X pins σ H s->t σ H Q->
  wpAny (model X.prog X.w) X.A (forIn ifs true fun c r=>if r=true then do let ok <- isTrue c X.env (eval c X.env);pure (ForInStep.yield ok) else pure (ForInStep.yield r)) (TP X pins σ Q) X.xe s
def fu:TT:=fun _ H Q=>Q true H
theorem Bx:mR X [] fu:=fun pins s σ H Q I h=>wpAny_tests_nil ⟨H,I,h⟩
theorem By{X:Cx}{c:Expr}{t:TT}(h:PT X c t):mR X [c] t:=fun pins s σ H Q I q=>wpAny_tests_one (h pins s σ H Q I q)
structure CompSc(X:Cx)(scope:Scope)(cns:List Str)(ci:List Nat):Prop where
 kind:scope.kind=.function
 cell:∀y∈scope.names,y.2≠.cell
 names:∀y∈scope.names,y.2=.local->scope.names.lookup y.1=some .local
 free:∀y∈scope.names,y.2=.free->X.env.kindOf y.1=some .cell\/X.env.kindOf y.1=some .free
 cap:∀(j:Nat)x,cns[j]?=some x->∃i,ci[j]?=some i/\X.N[i]?=some x/\(x,NameKind.free)∈scope.names
 len:cns.length=ci.length
 noloc:∀y,(y,NameKind.free)∈scope.names->¬(relabel scope X.env).names.lookup y=some .local
theorem cJ{env:Env}:∀{names:List (Str×NameKind)} {y:Str} {k:NameKind},(names.map fun (n,k)=>if (k == NameKind.free && env.scope.kind == .function && env.kindOf n == some .cell) then (n,NameKind.cell) else (n,k)).lookup y=some k->k=.cell\/k=.free->
  (∀z∈names,z.2≠.cell)->(y,NameKind.free)∈names
 | [],_,_,h,_,_=>by simp at h
 | (n,k0) :: r,y,k,h,hk,hc=>by
  rw [List.map_cons,List.lookup_cons] at h
  by_cases hf:(k0 == NameKind.free && env.scope.kind == .function && env.kindOf n == some .cell)=true
  ·simp only [hf,if_true] at h
   have k0f:k0=.free:=by
    have:=hf
    simp only [Bool.and_eq_true] at this
    simpa using this.1.1
   split at h
   ·next hq=>
    have:y=n:=by simpa using hq
    subst this;subst k0f
    exact List.mem_cons_self
   ·exact List.mem_cons_of_mem _ (cJ h hk fun z hz=>hc z (List.mem_cons_of_mem _ hz))
  ·simp only [hf] at h
   split at h
   ·next hq=>
    have:y=n:=by simpa using hq
    subst this
    have e:k0=k:=by simpa using h
    subst e
    rcases hk with z | z
    ·exact absurd z (hc _ List.mem_cons_self)
    ·subst z;exact List.mem_cons_self
   ·exact List.mem_cons_of_mem _ (cJ h hk fun z hz=>hc z (List.mem_cons_of_mem _ hz))
section
variable {prog:Program} {w:World} {A:Around} {R:Result->Shared->Prop} {s:Shared}
theorem g8{elt target iter:Expr}{ifs:List Expr}{scope:Scope}{pos:Pos}{it acc:Value}{env:Env}(I:Nat->Shared->Prop)
  (turn:∀n s,I n s->wpAny (model prog w) A (pyNext it) (fun r s₁=>match r with
   | none=>R (.ok .next) s₁
   | some v=>wpAny (model prog w) A (letOwnedTupleGo target it v) (fun _ s₅=>wpAny (model prog w) A (assign target env v) (fun _ s₂=>
     wpAny (model prog w) A (forIn ifs true fun c r=>if r=true then do let ok <- isTrue c env (eval c env);pure (ForInStep.yield ok) else pure (ForInStep.yield r)) (fun ok s₃=>
      if ok=true then wpAny (model prog w) A (eval elt env) (fun x s₄=>
       wpAny (model prog w) A (call (.builtin "list.append") [acc,x]) (fun _ s₅=>∃m,m < n/\I m s₅) (fun _ _=>False) s₄) (fun _ _=>False) s₃
      else ∃m,m < n/\I m s₃) (fun _ _=>False) s₂) (fun _ _=>False) s₅) (fun _ _=>False) s₁) (fun _ _=>False) s)
  (n:Nat) (h:I n s) :
  codeAny (model prog w) A (.compLoop (.ListComp elt [⟨target,iter,ifs,0⟩] scope pos) 0 it acc env) R s:=by
 refine codeAny_loop rfl I (fun n s hI=>?_) n h
 show wpAny _ _ ((compTurn (.ListComp elt [⟨target,iter,ifs,0⟩] scope pos) 0 it acc env).onRaise (fun x=>do noteFrame x env;theTreesLotGoes x)) _ _ s
 refine wpAny_noted ?_
 rw [compTurn_list]
 refine wpAny_bind (wpAny_standAt (wpAny_bind (wpAny_mono (turn n s hI) (fun r s₁ h₁=>?_) fun _ _ h'=>h'.elim)))
 cases r with
 | none=>exact wpAny_pure h₁
 | some v=>
  refine wpAny_bind (wpAny_mono h₁ (fun _ s₅ h₅=>?_) fun _ _ h'=>h'.elim)
  refine wpAny_bind (wpAny_mono h₅ (fun _ s₂ h₂=>wpAny_bind (wpAny_mono h₂ (fun ok s₃ h₃=>?_) fun _ _ h'=>h'.elim)) fun _ _ h'=>h'.elim)
  cases ok with
  | true=>
   rw [if_pos rfl] at h₃
   exact wpAny_bind (wpAny_bind (wpAny_mono h₃ (fun x s₃ h₃=>wpAny_bind (wpAny_mono h₃ (fun _ s₄ h₄=>wpAny_pure (wpAny_pure ⟨rfl,h₄⟩)) fun _ _ h'=>h'.elim)) fun _ _ h'=>h'.elim))
  | false=>
   rw [if_neg Bool.false_ne_true] at h₃
   exact wpAny_bind (wpAny_pure (wpAny_pure ⟨rfl,h₃⟩))
end
theorem kX{X:Cx}{elt iter tgt:Expr}{ifs:List Expr}{pos:Pos}{scope:Scope}{g:Bk->TG}{tt:Bk->TT}{te:Bk->TE}{tns cns:List Str}{ci:List Nat}{RR:Value->Addr->Result->Shared->Prop}{E:Value->Shared->Prop}
  {pins:List (Addr×Obj)} {σ:St} {H2:Hp} {s2:Shared} {it:Addr} {fp:List Addr} {tn:Nat->Heap->Prop} {J:It} {Q:Addr->Hp->Prop}
  (hc:X.calm=true) (S:CompSc X scope cns ci)
  (hg:∀bk:Bk,PG (X.blk (".0" :: (tns ++ cns)) scope bk) tgt (g bk))
  (ht:∀bk:Bk,mR (X.blk (".0" :: (tns ++ cns)) scope bk) ifs (tt bk))
  (he:∀bk:Bk,PE (X.blk (".0" :: (tns ++ cns)) scope bk) elt (te bk))
  (I2:Inv X pins σ H2 s2) (T:kE X.prog X.w X.K tgt J fp it tn) (st2:tn 0 s2.heap) (f2:∀b∈fp,iL X pins H2 b)
  (hcw:∀acc,H2 acc=none->∀bk:Bk,bC J (g bk) (tt bk) (te bk) tns.length ci σ acc (Q acc) (upd H2 acc (.lst [])))
  (fin:∀D C s5 H4 m,Inv X pins σ H4 s5->s5.heap.Ns C m->iL X pins H4 C->Q D H4->RR (.ref D) C (.ok .next) s5) :
  wpAny (model X.prog X.w) X.A (newList []) (fun acc s₃=>wpAny (model X.prog X.w) X.A (newFunctionEnv scope X.env.globals (ck X.env.cells scope.names []) [] X.env.qual none .none (some X.env)) (fun cenv s₄=>
   codeAny (model X.prog X.w) X.A (.compStart (.ListComp elt [⟨tgt,iter,ifs,0⟩] scope pos) 0 (.ref it) acc {cenv with scope:=relabel scope X.env}) (RR acc cenv.locals) s₄) E s₃) E s2:=by
 have hfc:∀y∈scope.names,y.2=.free->∃c,X.env.cells.lookup y.1=some c:=fun y hy hk=>I2.ok.has _ (S.free y hy hk)
 have hsub:∀y c,(ck X.env.cells scope.names []).lookup y=some c->X.env.cells.lookup y=some c:=g7 hfc (fun y c e=>by simp at e)
 refine wpAny_newObj_type (wpAny_newFunctionEnv S.cell (by intro y hy;simp at hy) (fun h₁ hns₁ hsb₁=>?_) S.kind)
 dsimp only at hns₁ hsb₁ ⊢
 generalize hH2:s2.heap.push {cls:=.type "list",dict:=none,data:=.seq ([]:List Value).toArray}=G2 at hns₁ hsb₁ ⊢
 have hCz:G2.objs.size=s2.heap.objs.size+1:=by rw [<- hH2,Heap.size_push]
 have hDC:s2.heap.objs.size≠G2.objs.size:=by rw [hCz];exact Nat.ne_of_lt (Nat.lt_succ_self _)
 have below:∀b,b < s2.heap.objs.size->b≠G2.objs.size:=fun b hb=>by omega
 have old:∀b o,s2.heap.get? b=some o->h₁.get? b=some o:=fun b o e=>hsb₁.extBut b o (below b (Heap.lt_size e)) (Heap.get?_push_of_some _ (hH2 ▸ Heap.get?_push_of_some _ e))
 have hacc:h₁.get? s2.heap.objs.size=some {cls:=.type "list",dict:=none,data:=.seq ([]:List Value).toArray}:=hsb₁.extBut _ _ hDC (Heap.get?_push_of_some _ (hH2 ▸ Heap.get?_push_size _ rfl))
 have hnD:H2 s2.heap.objs.size=none:=I2.hok.fresh (Nat.le_refl _)
 have hnC:H2 G2.objs.size=none:=I2.hok.fresh (by omega)
 obtain ⟨W,⟨m0,w0⟩,turn⟩:=hcw s2.heap.objs.size hnD ⟨G2.objs.size,fp,s2,H2⟩
 have nlt:∀{b:Addr} {o:Obj},s2.heap.get? b=some o->b≠s2.heap.objs.size:=fun q=>Nat.ne_of_lt (Heap.lt_size q)
 have fpl:∀b∈fp,b < s2.heap.objs.size:=fun b hb=>by
  obtain ⟨o,e,_⟩:=T.obj _ _ st2 b hb
  exact Heap.lt_size e
 have clt:∀y c,(ck X.env.cells scope.names []).lookup y=some c->c < s2.heap.objs.size:=fun y c e=>by
  obtain ⟨v,q⟩:=I2.cell y c (hsub y c e)
  exact q.lt
 have hasC:∀y,((relabel scope X.env).names.lookup y=some .cell\/(relabel scope X.env).names.lookup y=some .free)->∃c,(ck X.env.cells scope.names []).lookup y=some c:=fun y hk=>by
  rcases hk with z | z
  ·exact cQ (cJ z (.inl rfl) S.cell)
  ·exact cQ (cJ z (.inr rfl) S.cell)
 have ok:(X.blk (".0" :: (tns ++ cns)) scope ⟨G2.objs.size,fp,s2,H2⟩).Ok:={
  mod:=I2.ok.mod
  kind:=S.kind
  glob:=I2.ok.glob
  blt:=I2.ok.blt
  above:=by show s2.heap.objs.size<=G2.objs.size;omega
  inj:=fun y z c e1 e2=>I2.ok.inj y z c (hsub y c e1) (hsub z c e2)
  has:=fun y hk=>hasC y hk
  cab:=fun y c e=>by
   have e':(false=true):=e
   cases e'
  hd:=I2.ok.hd
  frames:=I2.ok.frames
  stk:=.inl rfl
  exf:=fun b hb=>⟨below b (fpl b hb),fun y c e=>(f2 b hb).2.2.2.2.1 y c (hsub y c e)⟩
  bs:=I2.bs
  bsz:=Nat.le_trans I2.ok.bsz I2.sz
  noex:=fun b o e hb=>by
   rcases (f2 b hb).2.2.2.1 with z | z
   ·exact I2.ok.noex b o e z
   ·exact absurd (Nat.lt_of_lt_of_le (Heap.lt_size e) (Nat.le_trans I2.ok.bsz z)) (Nat.lt_irrefl _)
  exfs:=fun b hb hf=>by
   rcases List.mem_cons.mp (I2.stkSub b hf) with z | z
   ·exact (f2 b hb).2.1 z
   ·exact (f2 b hb).2.2.1 z
  funs:=I2.stack
  frf:=I2.stkFree}
 have hokD:HOk X.prog X.w (upd H2 s2.heap.objs.size (.lst [])) h₁:=I2.hok.laid old (Nat.le_refl _) ⟨Nat.zero_le _,[],0,.nil,hacc⟩
 have clD:∀y c,(ck X.env.cells scope.names []).lookup y=some c->c≠s2.heap.objs.size:=fun y c e=>Nat.ne_of_lt (clt y c e)
 have I3:Inv (X.blk (".0" :: (tns ++ cns)) scope ⟨G2.objs.size,fp,s2,H2⟩) [] (az (List.replicate tns.length none) ci σ) (upd H2 s2.heap.objs.size (.lst [])) {s2 with heap:=h₁,toks:=s2.toks+([]:List (Str×Value)).length}:={
  ok:=ok
  os:=rfl
  bare:=I2.bare
  base:=⟨fun b o e n _ _=>old b o e,fun b o e n _ _=>⟨o.slots,old b o e⟩,fun b o e n _=>by rw [al (nlt e)];exact n,fun b o e _=>⟨o,old b o e⟩,
   fun b ys e=>by rw [al (ai e hnD)];exact e,fun b o u e=>by rw [al (ai e hnD)];exact e,fun b ps e=>⟨#[],by rw [al (ai e hnD),Array.append_empty];exact e⟩⟩
  loc:=⟨_,hns₁,fun i y v e1 e2 e3=>by
   have e1':((".0":Str) :: (tns ++ cns))[i]?=some y:=e1
   unfold az at e2
   cases i with
   | zero=>simp at e2
   | succ i=>
    rw [List.getElem?_cons_succ] at e1' e2
    by_cases hi:i < tns.length
    ·rw [List.getElem?_append_left (by simpa using hi),List.getElem?_replicate,if_pos hi] at e2
     cases e2
    ·rw [List.getElem?_append_right (by omega)] at e1'
     rw [List.getElem?_append_right (by simp;omega),List.length_replicate] at e2
     obtain ⟨q,hq,hN,hm⟩:=S.cap _ _ e1'
     rw [List.getElem?_map,hq] at e2
     have e2':(σ[q]?).join=some v:=by simpa using e2
     have e4:σ[q]?=some (some v):=by
      cases z:σ[q]? with
      | none=>rw [z] at e2';cases e2'
      | some o=>rw [z] at e2';rw [show o=some v from e2']
     obtain ⟨m,hns,hl⟩:=I2.loc
     have hvis:Vis X.env.scope y:=by
      rcases S.free (y,.free) hm rfl with z | z
      ·exact .inr (.inl z)
      ·exact .inr (.inr z)
     obtain ⟨u,ru,lk⟩:=hl q y v hN e4 hvis
     refine ⟨u,ru,.inr ?_⟩
     have hkk:X.env.kindOf y=some .cell\/X.env.kindOf y=some .free:=S.free (y,.free) hm rfl
     rcases lk with ⟨k1,_⟩ | ⟨_,c,hc1,hc2⟩
     ·rcases hkk with z | z <;> (rw [k1] at z;cases z)
     ·obtain ⟨c',hc'⟩:=cQ (cells:=X.env.cells) (acc:=[]) hm
      have ecc:c'=c:=by
       have:=hsub y c' hc'
       rw [hc1] at this;cases this;rfl
      subst ecc
      have e3':Vis (relabel scope X.env) y:=e3
      refine ⟨?_,c',hc',?_⟩
      ·rcases e3' with z | z | z
       ·exfalso
        exact S.noloc y hm z
       ·exact .inl z
       ·exact .inr z
      ·exact hc2.keeps old⟩
  cell:=fun y c e=>by
   obtain ⟨v,q⟩:=I2.cell y c (hsub y c e)
   exact ⟨v,q.keeps old⟩
  free:=by show upd H2 s2.heap.objs.size (.lst []) G2.objs.size=none;rw [al (Ne.symm hDC)];exact hnC
  freeC:=fun y c e=>by rw [al (clD y c e)];exact I2.freeC y c (hsub y c e)
  pin:=fun p hp=>by
   have hp':p∈([]:List (Addr×Obj)) ++ []:=hp
   simp at hp'
  hok:=hokD
  len:=by
   show (az _ ci σ).length=((".0":Str) :: (tns ++ cns)).length
   unfold az
   simp [S.len]}
 have st3:tn 0 h₁:=T.keep _ _ _ st2 fun b _ o e=>old b o e
 have fr3:∀b∈fp,upd H2 s2.heap.objs.size (.lst []) b=none:=fun b hb=>by rw [al (Nat.ne_of_lt (fpl b hb))];exact (f2 b hb).1
 have stat:∀{H':Hp},(∀b∈fp,H' b=none)->∀b∈fp,iL (X.blk (".0" :: (tns ++ cns)) scope ⟨G2.objs.size,fp,s2,H2⟩) [] H' b:=fun hn b hb=>
  ⟨hn b hb,below b (fpl b hb),ok.exfs b hb,.inl hb,fun y c e=>(f2 b hb).2.2.2.2.1 y c (hsub y c e),fun p hp=>by
   have hp':p∈([]:List (Addr×Obj)) ++ []:=hp
   simp at hp'⟩
 have loop:∀s₃:Shared,s₃={s2 with heap:=h₁,toks:=s2.toks+([]:List (Str×Value)).length}->
   codeAny (model X.prog X.w) X.A (.compLoop (.ListComp elt [⟨tgt,iter,ifs,0⟩] scope pos) 0 (.ref it) (.ref s2.heap.objs.size) (compEnvC scope (ck X.env.cells scope.names []) G2.objs.size X.env))
    (RR (.ref s2.heap.objs.size) G2.objs.size) s₃:=by
  rintro s₃ rfl
  refine g8 (fun n s'=>∃(i:Nat)(os:List (Option V)) (ys:List V) (H':Hp),os.length=tns.length/\Inv (X.blk (".0" :: (tns ++ cns)) scope ⟨G2.objs.size,fp,s2,H2⟩) [] (az os ci σ) H' s'/\tn i s'.heap/\(∀b∈fp,H' b=none)/\W i n ys H') ?_ m0 ⟨0,_,[],_,by simp,I3,st3,fr3,w0⟩
  rintro n s4 ⟨i,os,ys,H4,hos,I4,st4,fr4,w4⟩
  rcases turn i n ys H4 w4 with ⟨stop,q⟩ | ⟨go,N,hN,step⟩
  ·refine thn (T.done (X.blk (".0" :: (tns ++ cns)) scope ⟨G2.objs.size,fp,s2,H2⟩) rfl rfl rfl hc i [] s4 _ H4 (fun _ _=>False) I4 (stat fr4) st4 stop) fun r s5 ⟨hr,I5⟩=>?_
   subst hr
   obtain ⟨m,hm,_⟩:=I5.loc
   have fC:H4 G2.objs.size=none:=I5.free
   have ub:Un (frs X.stack) fp H2 H4 s2.heap s5.heap:=I5.base
   have IX:Inv X pins σ H4 s5:=I2.call' (s':=s5) (show s5.os=s2.os from I5.os) ub I5.hok I5.bare fun b hb=>⟨(f2 b hb).2.2.2.1,(f2 b hb).2.1,(f2 b hb).2.2.2.2.1,(f2 b hb).2.2.2.2.2⟩
   exact fin _ _ s5 H4 m IX hm (I2.fpOk (by omega) fC) q
  ·refine thn (T.item (X.blk (".0" :: (tns ++ cns)) scope ⟨G2.objs.size,fp,s2,H2⟩) rfl rfl rfl hc i [] s4 _ H4 (fun _ _=>False) I4 (stat fr4) st4 go) fun r s5 ⟨u,hr,h5⟩=>?_
   subst hr
   refine thn h5 fun _ s6 hhx=>?_
   obtain ⟨y,H6,I6,r6,y6,st6,fr6⟩:=hhx
   have I6':=I6.pinned (stat fr6) (T.obj _ _ st6)
   refine thn (hg _ _ s6 _ H6 y u _ I6' r6 (step y H6 os hos y6)) fun _ s7 ⟨σ7,H7,I7,⟨os',hos',e7⟩,q7⟩=>?_
   subst e7
   have back:∀{H9:Hp} {s9:Shared},Inv (X.blk (".0" :: (tns ++ cns)) scope ⟨G2.objs.size,fp,s2,H2⟩) ([] ++ fV fp s6.heap) (az os' ci σ) H9 s9->tn (i+1) s9.heap/\∀b∈fp,H9 b=none:=fun {H9 s9} I9=>
    ⟨T.keep _ _ _ st6 fun b hb ob e=>(I9.pin (b,ob) (List.mem_append_right _ (List.mem_append_right _ (cb hb e)))).1,fun b hb=>by
     obtain ⟨ob,e,d⟩:=T.obj _ _ st6 b hb
     exact (I9.pin (b,ob) (List.mem_append_right _ (List.mem_append_right _ (cb hb e)))).2.1⟩
   refine thn (ht _ _ s7 _ H7 _ I7 q7) fun b s8 hhx=>?_
   obtain ⟨H8,I8,q8⟩:=hhx
   cases b with
   | false=>
    rw [if_neg Bool.false_ne_true] at q8 ⊢
    obtain ⟨m',hm',w8⟩:=hN _ _ q8
    exact ⟨m',hm',i+1,os',ys,_,hos',I8.unpinned,(back I8).1,(back I8).2,w8⟩
   | true=>
    rw [if_pos rfl] at q8 ⊢
    refine thn (he _ _ s8 _ H8 _ I8 q8) fun zv s8 hhx=>?_
    obtain ⟨z,H8,I8,rz,ha8,hl8,n8⟩:=hhx
    obtain ⟨m',hm',w8⟩:=hN _ _ n8
    refine thn (aP (X:=X.blk (".0" :: (tns ++ cns)) scope ⟨G2.objs.size,fp,s2,H2⟩) _ s8 _ H8 (.ref s2.heap.objs.size) [z] (.ref s2.heap.objs.size) [zv] (fun _ H9=>H9=upd H8 s2.heap.objs.size (.lst (ys ++ [z]))) I8 rfl (.cons rz .nil) ⟨_,ys,z,rfl,rfl,ha8,hl8,rfl⟩) fun _ s9 hhx=>?_
    obtain ⟨_,H9,I9,_,e9⟩:=hhx
    subst e9
    exact ⟨m',hm',i+1,os',ys ++ [z],_,hos',I9.unpinned,(back I9).1,(back I9).2,w8⟩
 exact codeAny_compStart_list (loop _ rfl) (T.self _ 0 _ _ _ st3 (loop _ rfl))
theorem wg{X:Cx}{elt iter tgt:Expr}{ifs:List Expr}{pos:Pos}{scope:Scope}{wi:TI}{g:Bk->TG}{tt:Bk->TT}{te:Bk->TE}{tns cns:List Str}{ci:List Nat}(hc:X.calm=true)(S:CompSc X scope cns ci)(hi:PI X tgt iter wi)
  (hg:∀bk:Bk,PG (X.blk (".0" :: (tns ++ cns)) scope bk) tgt (g bk))
  (ht:∀bk:Bk,mR (X.blk (".0" :: (tns ++ cns)) scope bk) ifs (tt bk))
  (he:∀bk:Bk,PE (X.blk (".0" :: (tns ++ cns)) scope bk) elt (te bk))
  (hs:∀v,foldedSetIterable iter X.env v=pure v:=by intro _;rfl) :
  PE X (.ListComp elt [⟨tgt,iter,ifs,0⟩] scope pos) (ky wi g tt te tns.length ci):=by
 intro pins s σ H Q I h
 have hfc:∀y∈scope.names,y.2=.free->∃c,X.env.cells.lookup y.1=some c:=fun y hy hk=>I.ok.has _ (S.free y hy hk)
 rw [eval_ListComp]
 refine wpAny_comprehension_free (use:=none) rfl hs (dc hfc) S.kind S.names (thn (hi pins s σ H _ I h) fun v s1 h1=>thn h1 fun itv s2 h2=>?_)
 obtain ⟨it,fp,tn,J,H2,rfl,I2,T,st2,f2,hcw⟩:=h2
 refine kX (RR:=fun acc C=>compPost (model X.prog X.w) X.A X.xe none (EP X pins σ Q) acc C) hc S hg ht he I2 T st2 f2 hcw fun D C s5 H4 m I5 hm fo q=>?_
 refine ⟨m,hm,fun h' hs'=>⟨.ref D,H4,?_,rfl,q⟩⟩
 exact I5.turned (t':=s5.toks) (it:=C) (fun b o hb e=>(hs'.2 b hb).trans e) fo.1 fo.2.1 fo.2.2.2.1 fo.2.2.2.2.1 fo.2.2.2.2.2
def kh(i:Nat)(wi:TI)(g:Bk->TG)(tt:Bk->TT)(te:Bk->TE)(nt:Nat)(ci:List Nat):TS:=fun D σ H=>wi σ H fun J H1=>∀acc,H1 acc=none->∀bk:Bk,bC J (g bk) (tt bk) (te bk) nt ci σ acc (fun H'=>D.nx (σ.set i (some (.ref acc))) H') (upd H1 acc (.lst []))
theorem qL{X:Cx}{i:Nat}{x:Str}{px pos':Pos}{elt iter tgt:Expr}{ifs:List Expr}{pos:Pos}{scope:Scope}{wi:TI}{g:Bk->TG}{tt:Bk->TT}{te:Bk->TE}{tns cns:List Str}{ci:List Nat}
  (hN:X.N.Nodup) (hx:X.N[i]?=some x) (hl:Loc X.env.scope x) (hf:X.fn x=true) (hsw:swapsWith (.ListComp elt [⟨tgt,iter,ifs,0⟩] scope pos) (some (.Name x px)) pos'.line X.env=pure true)
  (hc:X.calm=true) (S:CompSc X scope cns ci) (hi:PI X tgt iter wi)
  (hg:∀bk:Bk,PG (X.blk (".0" :: (tns ++ cns)) scope bk) tgt (g bk))
  (ht:∀bk:Bk,mR (X.blk (".0" :: (tns ++ cns)) scope bk) ifs (tt bk))
  (he:∀bk:Bk,PE (X.blk (".0" :: (tns ++ cns)) scope bk) elt (te bk))
  (hs:∀v,foldedSetIterable iter X.env v=pure v:=by intro _;rfl) :
  PS X (.Assign [.Name x px] (.ListComp elt [⟨tgt,iter,ifs,0⟩] scope pos) pos') (kh i wi g tt te tns.length ci):=by
 intro pins s σ H D I h
 have hfc:∀y∈scope.names,y.2=.free->∃c,X.env.cells.lookup y.1=some c:=fun y hy hk=>I.ok.has _ (S.free y hy hk)
 rw [exec_Assign_Name_used _ _ _ _ hsw]
 refine wpAny_bind (wpAny_standAt (wpAny_bind ?_))
 show wpAny _ _ (do let _ <- comprehension (.ListComp elt [⟨tgt,iter,ifs,0⟩] scope pos) scope X.env _ (newList []) false (eval iter X.env) (some (assign (.Name x px) X.env))) _ _ s
 refine wpAny_bind (wpAny_mono (wpAny_comprehension_free (use:=some (assign (.Name x px) X.env)) (Q:=fun _ s'=>SP X pins D .next s') rfl hs (dc hfc) S.kind S.names
  (thn (hi pins s σ H _ I h) fun v s1 h1=>thn h1 fun itv s2 h2=>?_)) (fun _ s' hq=>wpAny_pure (wpAny_pure hq)) fun _ _ e=>e)
 obtain ⟨it,fp,tn,J,H2,rfl,I2,T,st2,f2,hcw⟩:=h2
 refine kX (RR:=fun acc C=>compPost (model X.prog X.w) X.A X.xe (some (assign (.Name x px) X.env)) (fun _ s'=>SP X pins D .next s') acc C) hc S hg ht he I2 T st2 f2 hcw fun D' C s5 H4 m I5 hm fo q=>?_
 obtain ⟨o,es,ep,ho,hd,hr⟩:=id hm
 have IP:Inv X (pins ++ fV [C] s5.heap) σ H4 s5:=I5.pinned (fp:=[C]) (fun b hb=>by rw [List.mem_singleton.mp hb];exact fo) fun b hb=>by
  rw [List.mem_singleton.mp hb]
  exact ⟨o,ho,fun v z=>by rw [hd] at z;cases z⟩
 show wpAny _ _ (assign (.Name x px) X.env (.ref D')) _ _ s5
 refine thn (sy (X:=X) (i:=i) hN hx hl (.inl hf) _ s5 σ H4 (.ref D') (.ref D') (fun σ' H'=>σ'=σ.set i (some (.ref D'))/\H'=H4) IP rfl ⟨rfl,rfl⟩) fun _ s6 hhx=>?_
 obtain ⟨σ6,H6,I6,e1,e2⟩:=hhx
 subst e1 e2
 have hC6:s6.heap.get? C=some o:=(I6.pin (C,o) (List.mem_append_right _ (List.mem_append_right _ (cb (List.mem_singleton.mpr rfl) ho)))).1
 refine ⟨m,⟨o,es,ep,hC6,hd,hr⟩,fun h' hs'=>⟨_,_,?_,q⟩⟩
 exact I6.unpinned.turned (t':=s6.toks) (it:=C) (fun b o hb e=>(hs'.2 b hb).trans e) fo.1 fo.2.1 fo.2.2.2.1 fo.2.2.2.2.1 fo.2.2.2.2.2
def uD(scope osc:Scope):List (Str×NameKind):=scope.names.map fun (n,k)=>if (k == NameKind.free && osc.kind == .function && osc.names.lookup n == some .cell) then (n,NameKind.cell) else (n,k)
def j4(N:List Str)(names:List (Str×NameKind)):List Str->List Nat->Bool
 | [],[]=>true
 | x :: xs,i :: is=>N[i]? == some x && names.any (fun y=>y.1 == x && y.2 == .free) && j4 N names xs is
 | _,_=>false
def Cl(osc:Scope)(N:List Str)(scope:Scope)(cns:List Str)(ci:List Nat):Bool:=
 scope.kind == .function && scope.names.all (fun y=>y.2 != .cell) && scope.names.all (fun y=>y.2 != .local || scope.names.lookup y.1 == some .local) &&
 scope.names.all (fun y=>y.2 != .free || (osc.names.lookup y.1 == some .cell || osc.names.lookup y.1 == some .free)) && j4 N scope.names cns ci &&
 scope.names.all (fun y=>y.2 != .free || (uD scope osc).lookup y.1 != some .local)
theorem i5{N:List Str}{names:List (Str×NameKind)}:∀{cns:List Str} {ci:List Nat},j4 N names cns ci=true->cns.length=ci.length/\∀(j:Nat)x,cns[j]?=some x->∃i,ci[j]?=some i/\N[i]?=some x/\(x,NameKind.free)∈names
 | [],[],_=>⟨rfl,fun j x e=>by simp at e⟩
 | [],_ :: _,h=>by simp [j4] at h
 | _ :: _,[],h=>by simp [j4] at h
 | x :: xs,i :: is,h=>by
  unfold j4 at h
  rw [Bool.and_eq_true,Bool.and_eq_true] at h
  obtain ⟨⟨h1,h2⟩,h3⟩:=h
  obtain ⟨l,r⟩:=i5 h3
  refine ⟨by simp [l],fun j y e=>?_⟩
  cases j with
  | zero=>
   have e':x=y:=by simpa using e
   subst e'
   refine ⟨i,by simp,by simpa using h1,?_⟩
   obtain ⟨z,hz,hq⟩:=List.any_eq_true.mp h2
   rw [Bool.and_eq_true] at hq
   obtain ⟨a,b⟩:=z
   have e1:a=x:=by simpa using hq.1
   have e2:b=.free:=by simpa using hq.2
   subst e1 e2
   exact hz
  | succ j=>
   obtain ⟨k,hk⟩:=r j y (by simpa using e)
   exact ⟨k,by simpa using hk.1,hk.2⟩
theorem CompSc.of{scope:Scope}{cns:List Str}{ci:List Nat}(h:Cl X.env.scope X.N scope cns ci=true):CompSc X scope cns ci:=by
 unfold Cl at h
 rw [Bool.and_eq_true,Bool.and_eq_true,Bool.and_eq_true,Bool.and_eq_true,Bool.and_eq_true] at h
 obtain ⟨⟨⟨⟨⟨h1,h2⟩,h3⟩,h4⟩,h5⟩,h6⟩:=h
 obtain ⟨l,r⟩:=i5 h5
 refine ⟨by simpa using h1,fun y hy=>?_,fun y hy hk=>?_,fun y hy hk=>?_,r,l,fun y hy z=>?_⟩
 ·simpa using List.all_eq_true.mp h2 y hy
 ·have:=List.all_eq_true.mp h3 y hy
  rw [Bool.or_eq_true] at this
  rcases this with q | q
  ·exact absurd hk (by simpa using q)
  ·simpa using q
 ·have:=List.all_eq_true.mp h4 y hy
  rw [Bool.or_eq_true,Bool.or_eq_true] at this
  rcases this with q | q | q
  ·exact absurd hk (by simpa using q)
  ·exact .inl (show X.env.scope.names.lookup y.1=_ by simpa using q)
  ·exact .inr (show X.env.scope.names.lookup y.1=_ by simpa using q)
 ·have:=List.all_eq_true.mp h6 _ hy
  rw [Bool.or_eq_true] at this
  rcases this with q | q
  ·simp at q
  ·have z':(uD scope X.env.scope).lookup y=some .local:=z
   have q':((uD scope X.env.scope).lookup y != some .local)=true:=q
   rw [z'] at q'
   exact absurd q' (by decide)
section
variable {K:PySem.W.Frag} {g:TG} {tt:TT} {te:TE} {nt:Nat} {ci:List Nat} {σ:St} {acc:Addr} {Q:Hp->Prop} {H0:Hp}
theorem cD{a:Addr}{xs:List V}(Pv:Nat->List V->Hp->Prop)(h0:Pv 0 [] H0)(hl:∀i ys H,i<=xs.length->Pv i ys H->SqL K H a xs)
 (hs:∀(i:Nat)x ys H os,xs[i]?=some x->os.length=nt->Pv i ys H->g x (az os ci σ) H fun σ1 H1=>(∃os',os'.length=nt/\σ1=az os' ci σ)/\tt σ1 H1 fun b H2=>
 if b=true then te σ1 H2 fun z H3=>H3 acc=some (.lst ys)/\ys.length < sizeLine/\Pv (i+1) (ys ++ [z]) (upd H3 acc (.lst (ys ++ [z]))) else Pv (i+1) ys H2)
 (hd:∀ys H,Pv xs.length ys H->Q H):bC (Itl K a) g tt te nt ci σ acc Q H0:=by
 refine ⟨fun i m ys H=>m=xs.length - i/\i<=xs.length/\Pv i ys H,⟨xs.length,by simp,Nat.zero_le _,h0⟩,?_⟩
 rintro i m ys H ⟨rfl,hi,p⟩
 have q:=hl i ys H hi p
 by_cases hlt:i < xs.length
 ·refine .inr ⟨⟨xs,xs[i],q,by simp [hlt]⟩,Pv (i+1),fun ys' H' p'=>⟨xs.length - (i+1),by omega,rfl,hlt,p'⟩,fun y H' os ho yl=>?_⟩
  obtain ⟨rfl,yl⟩:=yl
  exact hs i y ys H' os (yl xs q) ho p
 ·have e:i=xs.length:=by omega
  subst e
  exact .inl ⟨⟨xs,q,Nat.le_refl _⟩,hd ys H p⟩
theorem vf{a:Addr}{xs:List V}(Pv:Nat->List V->Hp->Prop)(h0:Pv 0 [] H0)(hl:∀i ys H,i<=xs.length->Pv i ys H->SqT K H a xs)
 (hs:∀(i:Nat)x ys H os,xs[i]?=some x->os.length=nt->Pv i ys H->g x (az os ci σ) H fun σ1 H1=>(∃os',os'.length=nt/\σ1=az os' ci σ)/\tt σ1 H1 fun b H2=>
 if b=true then te σ1 H2 fun z H3=>H3 acc=some (.lst ys)/\ys.length < sizeLine/\Pv (i+1) (ys ++ [z]) (upd H3 acc (.lst (ys ++ [z]))) else Pv (i+1) ys H2)
 (hd:∀ys H,Pv xs.length ys H->Q H):bC (Itt K a) g tt te nt ci σ acc Q H0:=by
 refine ⟨fun i m ys H=>m=xs.length - i/\i<=xs.length/\Pv i ys H,⟨xs.length,by simp,Nat.zero_le _,h0⟩,?_⟩
 rintro i m ys H ⟨rfl,hi,p⟩
 have q:=hl i ys H hi p
 by_cases hlt:i < xs.length
 ·refine .inr ⟨⟨xs,xs[i],q,by simp [hlt]⟩,Pv (i+1),fun ys' H' p'=>⟨xs.length - (i+1),by omega,rfl,hlt,p'⟩,fun y H' os ho yl=>?_⟩
  obtain ⟨rfl,yl⟩:=yl
  exact hs i y ys H' os (yl xs q) ho p
 ·have e:i=xs.length:=by omega
  subst e
  exact .inl ⟨⟨xs,q,Nat.le_refl _⟩,hd ys H p⟩
theorem j7{lo:Int}{n:Nat}(Pv:Nat->List V->Hp->Prop)(h0:Pv 0 [] H0)
 (hs:∀(i:Nat)ys H os,i < n->os.length=nt->Pv i ys H->g (.int (lo+i)) (az os ci σ) H fun σ1 H1=>(∃os',os'.length=nt/\σ1=az os' ci σ)/\tt σ1 H1 fun b H2=>
 if b=true then te σ1 H2 fun z H3=>H3 acc=some (.lst ys)/\ys.length < sizeLine/\Pv (i+1) (ys ++ [z]) (upd H3 acc (.lst (ys ++ [z]))) else Pv (i+1) ys H2)
 (hd:∀ys H,Pv n ys H->Q H):bC (Itr lo n) g tt te nt ci σ acc Q H0:=by
 refine ⟨fun i m ys H=>m=n - i/\i<=n/\Pv i ys H,⟨n,by simp,Nat.zero_le _,h0⟩,?_⟩
 rintro i m ys H ⟨rfl,hi,p⟩
 by_cases hlt:i < n
 ·refine .inr ⟨hlt,Pv (i+1),fun ys' H' p'=>⟨n - (i+1),by omega,rfl,hlt,p'⟩,fun y H' os ho yl=>?_⟩
  obtain ⟨rfl,rfl⟩:=yl
  exact hs i ys H' os hlt ho p
 ·have e:i=n:=by omega
  subst e
  exact .inl ⟨Nat.le_refl _,hd ys H p⟩
end
end L2
namespace L2
open PySem PySem.Spec PyProof.Rows
def isiT:List String:=["int","bool","str","list","tuple","dict"]
inductive dU (K:PySem.W.Frag) (H:Hp):V->String->Prop where
 | non:dU K H .non "NoneType"
 | bl {b:Bool}:dU K H (.bl b) "bool"
 | int {i:Int}:dU K H (.int i) "int"
 | str {x:Str}:dU K H (.str x) "str"
 | lst {a:Addr} {xs:List V} (h:SqL K H a xs):dU K H (.ref a) "list"
 | tup {a:Addr} {xs:List V} (h:SqT K H a xs):dU K H (.ref a) "tuple"
 | dic {a:Addr} (h:IsD H a):dU K H (.ref a) "dict"
def aX(k T:String):Bool:=k == T || (k == "bool" && T == "int")
def cf(K:PySem.W.Frag):List V->Hp->VK->Prop:=fun xs H Q=>∃x T k,xs=[x,.ty T]/\isiT.contains T=true/\dU K H x k/\Q (.bl (aX k T)) H
section
variable {X:Cx}
theorem bD:cw X (.builtin "isinstance") (cf X.K):=by
 intro pins s σ H xs us Q I r h
 obtain ⟨x,T,k,rfl,hT,hk,q⟩:=h
 obtain ⟨u,v,rfl,ru,rv⟩:=yb r
 cases rv
 have hT':T="int"\/T="bool"\/T="str"\/T="list"\/T="tuple"\/T="dict":=by simpa [isiT] using hT
 have fin:∀{b:Bool},b=aX k T->EP X pins σ Q (.bool b) s:=fun e=>⟨.bl _,H,I,rfl,by rw [e];exact q⟩
 have finT:∀{b:Bool},b=aX k T->EP X pins σ Q (.bool b) {s with toks:=s.toks+1}:=fun e=>⟨.bl _,H,I.tok _,rfl,by rw [e];exact q⟩
 cases hk with
 | non=>
  cases ru
  rcases hT' with rfl | rfl | rfl | rfl | rfl | rfl
  ·exact IsiPair.NoneType_int (finT (by decide +kernel))
  ·exact IsiPair.NoneType_bool (finT (by decide +kernel))
  ·exact IsiPair.NoneType_str (finT (by decide +kernel))
  ·exact IsiPair.NoneType_list (finT (by decide +kernel))
  ·exact IsiPair.NoneType_tuple (finT (by decide +kernel))
  ·exact IsiPair.NoneType_dict (finT (by decide +kernel))
 | bl=>
  cases ru
  rcases hT' with rfl | rfl | rfl | rfl | rfl | rfl
  ·exact IsiPair.bool_int (fin (by decide +kernel))
  ·exact IsiPair.bool_bool (fin (by decide +kernel))
  ·exact IsiPair.bool_str (finT (by decide +kernel))
  ·exact IsiPair.bool_list (finT (by decide +kernel))
  ·exact IsiPair.bool_tuple (finT (by decide +kernel))
  ·exact IsiPair.bool_dict (finT (by decide +kernel))
 | int=>
  obtain ⟨t,rfl⟩:=ru
  rcases hT' with rfl | rfl | rfl | rfl | rfl | rfl
  ·exact IsiPair.int_int (fin (by decide +kernel))
  ·exact IsiPair.int_bool (finT (by decide +kernel))
  ·exact IsiPair.int_str (finT (by decide +kernel))
  ·exact IsiPair.int_list (finT (by decide +kernel))
  ·exact IsiPair.int_tuple (finT (by decide +kernel))
  ·exact IsiPair.int_dict (finT (by decide +kernel))
 | str=>
  obtain ⟨t,rfl⟩:=ru
  rcases hT' with rfl | rfl | rfl | rfl | rfl | rfl
  ·exact IsiPair.str_int (finT (by decide +kernel))
  ·exact IsiPair.str_bool (finT (by decide +kernel))
  ·exact IsiPair.str_str (fin (by decide +kernel))
  ·exact IsiPair.str_list (finT (by decide +kernel))
  ·exact IsiPair.str_tuple (finT (by decide +kernel))
  ·exact IsiPair.str_dict (finT (by decide +kernel))
 | lst hl=>
  cases ru
  obtain ⟨its,_,⟨o,n,e,c,_⟩,_⟩:=I.list hl
  rcases hT' with rfl | rfl | rfl | rfl | rfl | rfl
  ·exact IsiPair.list_int e c (finT (by decide +kernel))
  ·exact IsiPair.list_bool e c (finT (by decide +kernel))
  ·exact IsiPair.list_str e c (finT (by decide +kernel))
  ·exact IsiPair.list_list e c (fin (by decide +kernel))
  ·exact IsiPair.list_tuple e c (finT (by decide +kernel))
  ·exact IsiPair.list_dict e c (finT (by decide +kernel))
 | tup hl=>
  cases ru
  obtain ⟨its,_,⟨o,e,c,_⟩,_⟩:=I.tuple hl
  rcases hT' with rfl | rfl | rfl | rfl | rfl | rfl
  ·exact IsiPair.tuple_int e c (finT (by decide +kernel))
  ·exact IsiPair.tuple_bool e c (finT (by decide +kernel))
  ·exact IsiPair.tuple_str e c (finT (by decide +kernel))
  ·exact IsiPair.tuple_list e c (finT (by decide +kernel))
  ·exact IsiPair.tuple_tuple e c (fin (by decide +kernel))
  ·exact IsiPair.tuple_dict e c (finT (by decide +kernel))
 | dic hl=>
  cases ru
  obtain ⟨o,e,c⟩:=(B6 I hl).1
  rcases hT' with rfl | rfl | rfl | rfl | rfl | rfl
  ·exact IsiPair.dict_int e c (finT (by decide +kernel))
  ·exact IsiPair.dict_bool e c (finT (by decide +kernel))
  ·exact IsiPair.dict_str e c (finT (by decide +kernel))
  ·exact IsiPair.dict_list e c (finT (by decide +kernel))
  ·exact IsiPair.dict_tuple e c (finT (by decide +kernel))
  ·exact IsiPair.dict_dict e c (fin (by decide +kernel))
theorem kA:∀{ns:List Int} {us:List Value},Vals (ns.map V.int) us->∃xs:List (Int×Tok),us=xs.map (fun p=>Value.int p.1 p.2)/\xs.map (·.1)=ns
 | [],_,r=>by cases r;exact ⟨[],rfl,rfl⟩
 | n :: ns,_,r=>by
  cases r with
  | cons r0 rr=>
   obtain ⟨t,rfl⟩:=r0
   obtain ⟨xs,rfl,rfl⟩:=kA rr
   exact ⟨(n,t) :: xs,rfl,rfl⟩
theorem ox(xs:List (Int×Tok)):preSum (numAt xs.toArray) xs.toArray.size=(xs.map (·.1)).sum:=by
 rw [preSum_eq,List.take_of_length_le (by simp)]
theorem va(hc:X.calm=true):cw X (.builtin "sum") (fun xs H Q=>∃(a:Addr)(ns:List Int),xs=[.ref a]/\SqL X.K H a (ns.map V.int)/\Q (.int ns.sum) H):=by
 intro pins s σ H xs us Q I r h
 obtain ⟨a,ns,rfl,hq,q⟩:=h
 obtain ⟨u,rfl,ru⟩:=eR r
 cases ru
 obtain ⟨its,rv,pl,_⟩:=I.list hq
 obtain ⟨ys,rfl,rfl⟩:=kA rv
 refine sum_intListG (xs:=ys.toArray) (I.ok.hd hc) (by have:=pl.isList;simpa [intItems] using this) fun h' tk t' hk=>?_
 rw [ox]
 exact ⟨.int _,H,I.kept hk,⟨_,rfl⟩,q⟩
end
section
variable {H:Hp} {Q:VK} {σ:St} {D:cA} {K:PySem.W.Frag}
theorem gs{wi:TI}{g:Bk->TG}{tt:Bk->TT}{te:Bk->TE}{nt:Nat}{ci:List Nat}:ky wi g tt te nt ci σ H Q=wi σ H fun J H1=>∀acc,H1 acc=none->∀bk:Bk,bC J (g bk) (tt bk) (te bk) nt ci σ acc (fun H'=>Q (.ref acc) H') (upd H1 acc (.lst [])):=rfl
theorem du{i:Nat}{wi:TI}{g:Bk->TG}{tt:Bk->TT}{te:Bk->TE}{nt:Nat}{ci:List Nat}:kh i wi g tt te nt ci D σ H=wi σ H fun J H1=>∀acc,H1 acc=none->∀bk:Bk,bC J (g bk) (tt bk) (te bk) nt ci σ acc (fun H'=>D.nx (σ.set i (some (.ref acc))) H') (upd H1 acc (.lst [])):=rfl
theorem pk{Q:Bool->Hp->Prop}:fu σ H Q=Q true H:=rfl
theorem aU{x:V}{T k:String}(hk:dU K H x k)(hT:isiT.contains T=true)(hf:∀k',dU K H x k'->k'=k):cf K [x,.ty T] H Q=Q (.bl (aX k T)) H:=
 propext ⟨by rintro ⟨_,_,k',e,_,h2,q⟩;cases e;rw [hf k' h2] at q;exact q,by intro q;exact ⟨x,T,k,rfl,hT,hk,q⟩⟩
theorem fD{i:Int}:cf K [.int i,.ty "int"] H Q=Q (.bl true) H:=(aU (T:="int") .int (by decide +kernel) (fun k h=>by cases h;rfl)).trans (by rw [show aX "int" "int"=true by decide +kernel])
theorem ez{i:Int}:cf K [.int i,.ty "bool"] H Q=Q (.bl false) H:=(aU (T:="bool") .int (by decide +kernel) (fun k h=>by cases h;rfl)).trans (by rw [show aX "int" "bool"=false by decide +kernel])
theorem fE{i:Int}:cf K [.int i,.ty "str"] H Q=Q (.bl false) H:=(aU (T:="str") .int (by decide +kernel) (fun k h=>by cases h;rfl)).trans (by rw [show aX "int" "str"=false by decide +kernel])
theorem eC{i:Int}:cf K [.int i,.ty "list"] H Q=Q (.bl false) H:=(aU (T:="list") .int (by decide +kernel) (fun k h=>by cases h;rfl)).trans (by rw [show aX "int" "list"=false by decide +kernel])
theorem dO{i:Int}:cf K [.int i,.ty "tuple"] H Q=Q (.bl false) H:=(aU (T:="tuple") .int (by decide +kernel) (fun k h=>by cases h;rfl)).trans (by rw [show aX "int" "tuple"=false by decide +kernel])
theorem eA{i:Int}:cf K [.int i,.ty "dict"] H Q=Q (.bl false) H:=(aU (T:="dict") .int (by decide +kernel) (fun k h=>by cases h;rfl)).trans (by rw [show aX "int" "dict"=false by decide +kernel])
theorem gD{b:Bool}:cf K [.bl b,.ty "int"] H Q=Q (.bl true) H:=(aU (T:="int") .bl (by decide +kernel) (fun k h=>by cases h;rfl)).trans (by rw [show aX "bool" "int"=true by decide +kernel])
theorem fz{b:Bool}:cf K [.bl b,.ty "bool"] H Q=Q (.bl true) H:=(aU (T:="bool") .bl (by decide +kernel) (fun k h=>by cases h;rfl)).trans (by rw [show aX "bool" "bool"=true by decide +kernel])
theorem gE{b:Bool}:cf K [.bl b,.ty "str"] H Q=Q (.bl false) H:=(aU (T:="str") .bl (by decide +kernel) (fun k h=>by cases h;rfl)).trans (by rw [show aX "bool" "str"=false by decide +kernel])
theorem fB{b:Bool}:cf K [.bl b,.ty "list"] H Q=Q (.bl false) H:=(aU (T:="list") .bl (by decide +kernel) (fun k h=>by cases h;rfl)).trans (by rw [show aX "bool" "list"=false by decide +kernel])
theorem eh{b:Bool}:cf K [.bl b,.ty "tuple"] H Q=Q (.bl false) H:=(aU (T:="tuple") .bl (by decide +kernel) (fun k h=>by cases h;rfl)).trans (by rw [show aX "bool" "tuple"=false by decide +kernel])
theorem fA{b:Bool}:cf K [.bl b,.ty "dict"] H Q=Q (.bl false) H:=(aU (T:="dict") .bl (by decide +kernel) (fun k h=>by cases h;rfl)).trans (by rw [show aX "bool" "dict"=false by decide +kernel])
theorem fH{x:Str}:cf K [.str x,.ty "int"] H Q=Q (.bl false) H:=(aU (T:="int") .str (by decide +kernel) (fun k h=>by cases h;rfl)).trans (by rw [show aX "str" "int"=false by decide +kernel])
theorem eG{x:Str}:cf K [.str x,.ty "bool"] H Q=Q (.bl false) H:=(aU (T:="bool") .str (by decide +kernel) (fun k h=>by cases h;rfl)).trans (by rw [show aX "str" "bool"=false by decide +kernel])
theorem fI{x:Str}:cf K [.str x,.ty "str"] H Q=Q (.bl true) H:=(aU (T:="str") .str (by decide +kernel) (fun k h=>by cases h;rfl)).trans (by rw [show aX "str" "str"=true by decide +kernel])
theorem eJ{x:Str}:cf K [.str x,.ty "list"] H Q=Q (.bl false) H:=(aU (T:="list") .str (by decide +kernel) (fun k h=>by cases h;rfl)).trans (by rw [show aX "str" "list"=false by decide +kernel])
theorem dQ{x:Str}:cf K [.str x,.ty "tuple"] H Q=Q (.bl false) H:=(aU (T:="tuple") .str (by decide +kernel) (fun k h=>by cases h;rfl)).trans (by rw [show aX "str" "tuple"=false by decide +kernel])
theorem eI{x:Str}:cf K [.str x,.ty "dict"] H Q=Q (.bl false) H:=(aU (T:="dict") .str (by decide +kernel) (fun k h=>by cases h;rfl)).trans (by rw [show aX "str" "dict"=false by decide +kernel])
theorem fF :cf K [.non,.ty "int"] H Q=Q (.bl false) H:=(aU (T:="int") .non (by decide +kernel) (fun k h=>by cases h;rfl)).trans (by rw [show aX "NoneType" "int"=false by decide +kernel])
theorem eD :cf K [.non,.ty "bool"] H Q=Q (.bl false) H:=(aU (T:="bool") .non (by decide +kernel) (fun k h=>by cases h;rfl)).trans (by rw [show aX "NoneType" "bool"=false by decide +kernel])
theorem fG :cf K [.non,.ty "str"] H Q=Q (.bl false) H:=(aU (T:="str") .non (by decide +kernel) (fun k h=>by cases h;rfl)).trans (by rw [show aX "NoneType" "str"=false by decide +kernel])
theorem eF :cf K [.non,.ty "list"] H Q=Q (.bl false) H:=(aU (T:="list") .non (by decide +kernel) (fun k h=>by cases h;rfl)).trans (by rw [show aX "NoneType" "list"=false by decide +kernel])
theorem dP :cf K [.non,.ty "tuple"] H Q=Q (.bl false) H:=(aU (T:="tuple") .non (by decide +kernel) (fun k h=>by cases h;rfl)).trans (by rw [show aX "NoneType" "tuple"=false by decide +kernel])
theorem eE :cf K [.non,.ty "dict"] H Q=Q (.bl false) H:=(aU (T:="dict") .non (by decide +kernel) (fun k h=>by cases h;rfl)).trans (by rw [show aX "NoneType" "dict"=false by decide +kernel])
end
end L2
variable {H:Hp}
namespace L2
open PySem PySem.Spec PyProof.Rows
section
variable {H:Hp} {Q:VK} {σ:St} {D:cA} {K:PySem.W.Frag}
theorem p9{a:Addr}{lo hi:Option Int}:CP K (.ref a) lo hi H Q=∃xs,SqT K H a xs/\¬(HT.sIx xs.length 0 lo=0/\HT.sIx xs.length xs.length hi=xs.length)/\∀p,H p=none->Q (.ref p) (upd H p (.tup (cR xs lo hi))):=propext ⟨by rintro ⟨_,xs,e1,h⟩;cases e1;exact ⟨xs,h⟩,by rintro ⟨xs,h⟩;exact ⟨_,xs,rfl,h⟩⟩
theorem oM{x:V}{p:Addr}:rIn K false x (.ref p) H Q=∃xs,(SqL K H p xs\/SqT K H p xs)/\bz x=true/\xs.all bz=true/\Q (.bl (inV x xs)) H:=propext ⟨by rintro ⟨_,xs,e1,h⟩;cases e1;exact ⟨xs,h⟩,by rintro ⟨xs,h⟩;exact ⟨_,xs,rfl,h⟩⟩
theorem eL{x:V}{p:Addr}:rIn K true x (.ref p) H Q=∃xs,(SqL K H p xs\/SqT K H p xs)/\bz x=true/\xs.all bz=true/\Q (.bl (!inV x xs)) H:=propext ⟨by rintro ⟨_,xs,e1,h⟩;cases e1;exact ⟨xs,h⟩,by rintro ⟨xs,h⟩;exact ⟨_,xs,rfl,h⟩⟩
end
theorem Paired.get{α β:Type}{F:α->β->Prop}:∀{l₁:List α} {l₂:List β} {i:Nat} {a:α},Paired F l₁ l₂->l₁[i]?=some a->∃b,l₂[i]?=some b/\F a b
 | _,_,_,_,.nil,e=>by simp at e
 | _,_,0,_,.cons h _,e=>by simp at e;subst e;exact ⟨_,rfl,h⟩
 | _,_,i+1,a,.cons _ t,e=>by
  obtain ⟨b,h1,h2⟩:=Paired.get (i:=i) (a:=a) t (by simpa using e)
  exact ⟨b,by simpa using h1,h2⟩
theorem Paired.getR{α β:Type}{F:α->β->Prop}:∀{l₁:List α} {l₂:List β} {i:Nat} {b:β},Paired F l₁ l₂->l₂[i]?=some b->∃a,l₁[i]?=some a/\F a b
 | _,_,_,_,.nil,e=>by simp at e
 | _,_,0,_,.cons h _,e=>by simp at e;subst e;exact ⟨_,rfl,h⟩
 | _,_,i+1,b,.cons _ t,e=>by
  obtain ⟨a,h1,h2⟩:=Paired.getR (i:=i) (b:=b) t (by simpa using e)
  exact ⟨a,by simpa using h1,h2⟩
theorem Same.updM{H0:Hp}{p:Addr}{o:HO}(s:Same H0 H)(h:H0 p=none):Same H0 (L2.upd H p o):=fun b u e=>by rw [al (ai e h)];exact s b u e
theorem Same.updN{H0 H:Hp}{p:Addr}{o:HO}(s:Same H0 H)(h:H p=none):Same H0 (L2.upd H p o):=s.updM (s.free h)
theorem dh{b:Bool}{A B:Prop}(h1:b=true->A)(h2:b=false->B):if b=true then A else B:=by
 cases b
 ·rw [if_neg Bool.false_ne_true];exact h2 rfl
 ·rw [if_pos rfl];exact h1 rfl
theorem ja{CX:CXT}{P:Program}{w:World}{K:PySem.W.Frag}{mg:Str->Option Value}{base:Heap}{N:List Str}{qual:Str}{scope:Scope}{f:Addr}{cd:Value}{A:Around}{outer:List Env}{s:Shared}{E:XK}:(qo CX P w K mg base N qual scope f cd A outer s H E).K=K:=rfl
theorem kB{X:Cx}{E:Value->Shared->Prop}:(X.wish E).K=X.K:=rfl
theorem nu{X:Cx}{N':List Str}{scope:Scope}{b:Bk}:(X.blk N' scope b).K=X.K:=rfl
theorem ju{o:Option V}{ci:List Nat}{σ:St}:az [o] ci σ=none :: o :: ci.map fun i=>(σ[i]?).join:=rfl
theorem jv{o o':Option V}{ci:List Nat}{σ:St}:az [o,o'] ci σ=none :: o :: o' :: ci.map fun i=>(σ[i]?).join:=rfl
theorem jk{n k:Nat}{P:Prop}(h:¬HT.sIx n 0 (some (k:Int))=0):¬(HT.sIx n 0 (some (k:Int))=0/\P):=fun z=>h z.1
def ib:V->Bool
 | .str _=>true
 | _=>false
theorem eV{n:Str}:∀{ns:List Str},inV (.str n) (ns.map V.str)=decide (n∈ns)
 | []=>by simp [inV]
 | m :: ns=>by
  have ih:=eV (n:=n) (ns:=ns)
  unfold inV at ih ⊢
  rw [List.map_cons,List.any_cons,ih]
  have e:eqV (.str m) (.str n)=decide (m=n):=by unfold eqV;rfl
  rw [e]
  by_cases h1:m=n
  ·subst h1;simp
  ·have h2:¬n=m:=fun z=>h1 z.symm
   simp [h1,h2]
theorem i6:∀{ns:List Str},(ns.map V.str).all bz=true
 | []=>rfl
 | n :: ns=>by rw [List.map_cons,List.all_cons,i6];rfl
section
variable {K:PySem.W.Frag} {tt:TT} {te:TE} {ci:List Nat} {σ:St} {acc:Addr} {Q:Hp->Prop} {H1:Hp} {a:Addr} {xs:List V}
theorem tU(p:V->Bool)(f:V->V){x:V}{ys:List V}{H:Hp}{os:List (Option V)}{i:Nat}{Pv:Nat->List V->Hp->Prop}(ho:os.length=1)(hi:xs[i]?=some x)
  (hp:∀Q',Q' (p x) H->tt (az [some x] ci σ) H Q') (hf:∀Q',p x=true->Q' (f x) H->te (az [some x] ci σ) H Q') (hacc:H acc=some (.lst ys)) (hlen:ys.length < sizeLine)
  (h1:p x=true->Pv (i+1) (ys ++ [f x]) (upd H acc (.lst (ys ++ [f x])))) (h2:p x=false->Pv (i+1) ys H) :
  aQ 1 x (az os ci σ) H fun σ1 H1=>(∃os',os'.length=1/\σ1=az os' ci σ)/\tt σ1 H1 fun b H2=>
   if b=true then te σ1 H2 fun z H3=>H3 acc=some (.lst ys)/\ys.length < sizeLine/\Pv (i+1) (ys ++ [z]) (upd H3 acc (.lst (ys ++ [z]))) else Pv (i+1) ys H2:=by
 have e:(az os ci σ).set 1 (some x)=az [some x] ci σ:=by
  match os,ho with
  | [o],_=>rfl
 show (∃os',os'.length=1/\(az os ci σ).set 1 (some x)=az os' ci σ)/\tt ((az os ci σ).set 1 (some x)) H _
 rw [e]
 refine ⟨⟨[some x],rfl,rfl⟩,hp _ ?_⟩
 cases hb:p x with
 | true=>rw [if_pos rfl];exact hf _ hb ⟨hacc,hlen,h1 hb⟩
 | false=>rw [if_neg Bool.false_ne_true];exact h2 hb
theorem c9{p:V->Bool}{f:V->V}{xs:List V}{i:Nat}{x:V}(hi:xs[i]?=some x):((xs.take (i+1)).filter p).map f=((xs.take i).filter p).map f ++ (if p x=true then [f x] else []):=by
 obtain ⟨h,e⟩:=List.getElem?_eq_some_iff.mp hi
 rw [List.take_succ_eq_append_getElem h,e,List.filter_append,List.map_append]
 congr 1
 cases hb:p x <;> simp [hb]
theorem nP{p:V->Bool}{f:V->V}{xs:List V}{i:Nat}{x:V}(hi:xs[i]?=some x)(hz:xs.length<=sizeLine):(((xs.take i).filter p).map f).length < sizeLine:=by
 obtain ⟨h,e⟩:=List.getElem?_eq_some_iff.mp hi
 rw [List.length_map]
 have:=List.length_filter_le p (xs.take i)
 rw [List.length_take] at this
 omega
theorem m7{J:It}(p:V->Bool)(f:V->V)(hz:xs.length<=sizeLine)(hacc:H1 acc=none)
 (hJ:∀(Pv:Nat->List V->Hp->Prop),Pv 0 [] (upd H1 acc (.lst []))->(∀i ys H,Pv i ys H->∃ys',H=upd H1 acc (.lst ys'))->
 (∀(i:Nat)x ys H os,xs[i]?=some x->os.length=1->Pv i ys H->aQ 1 x (az os ci σ) H fun σ1 H1=>(∃os',os'.length=1/\σ1=az os' ci σ)/\tt σ1 H1 fun b H2=>
 if b=true then te σ1 H2 fun z H3=>H3 acc=some (.lst ys)/\ys.length < sizeLine/\Pv (i+1) (ys ++ [z]) (upd H3 acc (.lst (ys ++ [z]))) else Pv (i+1) ys H2)->
 (∀ys H,Pv xs.length ys H->Q H)->bC J (aQ 1) tt te 1 ci σ acc Q (upd H1 acc (.lst [])))
 (hp:∀x∈xs,∀H Q',Same H1 H->Q' (p x) H->tt (az [some x] ci σ) H Q') (hf:∀x∈xs,∀H Q',Same H1 H->p x=true->Q' (f x) H->te (az [some x] ci σ) H Q')
 (q:Q (upd H1 acc (.lst ((xs.filter p).map f)))):bC J (aQ 1) tt te 1 ci σ acc Q (upd H1 acc (.lst [])):=by
 refine hJ (fun i ys H=>ys=((xs.take i).filter p).map f/\H=upd H1 acc (.lst ys)) ⟨by simp,rfl⟩ (fun i ys H h=>⟨ys,h.2⟩) ?_ ?_
 ·rintro i x ys H os hi ho ⟨rfl,rfl⟩
  have hm:=List.mem_of_getElem? hi
  refine tU (xs:=xs) (Pv:=fun i ys H=>ys=((xs.take i).filter p).map f/\H=upd H1 acc (.lst ys)) p f ho hi (fun Q' h=>hp x hm _ _ (Same.upd hacc) h) (fun Q' hb h=>hf x hm _ _ (Same.upd hacc) hb h) ae (nP hi hz) (fun hb=>?_) (fun hb=>?_)
  ·rw [c9 hi,if_pos hb];exact ⟨rfl,by rw [zV]⟩
  ·rw [c9 hi,if_neg (by rw [hb];exact Bool.false_ne_true),List.append_nil];exact ⟨rfl,rfl⟩
 ·rintro ys H ⟨rfl,rfl⟩
  rw [List.take_length]
  exact q
theorem vb(p:V->Bool)(f:V->V)(hz:xs.length<=sizeLine)(hl:SqL K H1 a xs)(hacc:H1 acc=none)
  (hp:∀x∈xs,∀H Q',Same H1 H->Q' (p x) H->tt (az [some x] ci σ) H Q') (hf:∀x∈xs,∀H Q',Same H1 H->p x=true->Q' (f x) H->te (az [some x] ci σ) H Q')
  (q:Q (upd H1 acc (.lst ((xs.filter p).map f)))):bC (Itl K a) (aQ 1) tt te 1 ci σ acc Q (upd H1 acc (.lst [])):=
 m7 p f hz hacc (fun Pv h0 hH hs hd=>cD Pv h0 (fun i ys H _ h=>by obtain ⟨ys',rfl⟩:=hH i ys H h;exact (Same.upd hacc).seq hl) hs hd) hp hf q
theorem j5(p:V->Bool)(f:V->V)(hz:xs.length<=sizeLine)(hl:SqT K H1 a xs)(hacc:H1 acc=none)
  (hp:∀x∈xs,∀H Q',Same H1 H->Q' (p x) H->tt (az [some x] ci σ) H Q') (hf:∀x∈xs,∀H Q',Same H1 H->p x=true->Q' (f x) H->te (az [some x] ci σ) H Q')
  (q:Q (upd H1 acc (.lst ((xs.filter p).map f)))):bC (Itt K a) (aQ 1) tt te 1 ci σ acc Q (upd H1 acc (.lst [])):=
 m7 p f hz hacc (fun Pv h0 hH hs hd=>vf Pv h0 (fun i ys H _ h=>by obtain ⟨ys',rfl⟩:=hH i ys H h;exact (Same.upd hacc).seqT hl) hs hd) hp hf q
theorem vd{lo:Int}{n:Nat}(p:Int->Bool)(f:Int->V)(hz:n<=sizeLine)(hacc:H1 acc=none)
 (hp:∀i:Nat,i < n->∀H Q',Same H1 H->Q' (p (lo+i)) H->tt (az [some (.int (lo+i))] ci σ) H Q') (hf:∀i:Nat,i < n->∀H Q',Same H1 H->p (lo+i)=true->Q' (f (lo+i)) H->te (az [some (.int (lo+i))] ci σ) H Q')
 (q:Q (upd H1 acc (.lst (((List.range n).filter fun i:Nat=>p (lo+i)).map fun i:Nat=>f (lo+i))))):bC (Itr lo n) (aQ 1) tt te 1 ci σ acc Q (upd H1 acc (.lst [])):=by
 have hx:∀(i:Nat),i < n->((List.range n).map fun k:Nat=>V.int (lo+k))[i]?=some (.int (lo+i)):=fun i hi=>by simp [hi]
 have key:=m7 (xs:=(List.range n).map fun k:Nat=>V.int (lo+k)) (J:=Itr lo n) (tt:=tt) (te:=te) (ci:=ci) (σ:=σ) (acc:=acc) (Q:=Q) (H1:=H1)
  (fun x=>match x with | .int i=>p i | _=>false) (fun x=>match x with | .int i=>f i | _=>.non) (by simpa using hz) hacc
  (fun Pv h0 hH hs hd=>j7 Pv h0 (fun i ys H os hi ho h=>hs i _ ys H os (hx i hi) ho h) (fun ys H h=>hd ys H (by simpa using h)))
  (fun x hm H Q' sm h=>by
   obtain ⟨k,hk,rfl⟩:=List.mem_map.mp hm
   exact hp k (List.mem_range.mp hk) H Q' sm h)
  (fun x hm H Q' sm hb h=>by
   obtain ⟨k,hk,rfl⟩:=List.mem_map.mp hm
   exact hf k (List.mem_range.mp hk) H Q' sm hb h)
 refine key ?_
 have e:(((List.range n).map fun k:Nat=>V.int (lo+k)).filter (fun x=>match x with | .int i=>p i | _=>false)).map (fun x=>match x with | .int i=>f i | _=>.non)=((List.range n).filter fun i:Nat=>p (lo+i)).map fun i:Nat=>f (lo+i):=by
  rw [List.filter_map,List.map_map]
  rfl
 rw [e]
 exact q
end
end L2
namespace FB
open PySem L2
inductive Opd where
 | box (n:Str)
 | word (i:Int)
 deriving DecidableEq
def Opd.v:Opd->V
 | .box n=>.str n
 | .word i=>.int i
def Opd.reads:Opd->List Str
 | .box n=>[n]
 | .word _=>[]
inductive Deed where
 | tell (a:Opd)
 | copy (d:Str) (a:Opd)
 | op (f d:Str) (a b:Opd)
 deriving DecidableEq
def opsL:List Str:=["plus","less","and","or","xor","below","same"]
def Deed.vs:Deed->List V
 | .tell a=>[.str "tell",a.v]
 | .copy d a=>[.str "copy",.str d,a.v]
 | .op f d a b=>[.str f,.str d,a.v,b.v]
def Deed.fine:Deed->Prop
 | .op f _ _ _=>f∈opsL
 | _=>True
def Deed.reads:Deed->List Str
 | .tell a=>a.reads
 | .copy _ a=>a.reads
 | .op _ _ a b=>a.reads ++ b.reads
def Deed.writes:Deed->List Str
 | .tell _=>[]
 | .copy d _=>[d]
 | .op _ d _ _=>[d]
def Deed.tells:Deed->Bool
 | .tell _=>true
 | _=>false
def nS(one other:Deed):Option Int:=
 if one.tells=true/\other.tells=true then some 1
 else if ∃n∈one.writes,n∈other.reads\/n∈other.writes then some 1
 else if ∃n∈other.writes,n∈one.reads then some 0 else none
def mq:Option Int->V
 | none=>.non
 | some i=>.int i
end FB
namespace L2
open PySem PySem.Spec PyProof.Rows
section
variable {X:Cx}
theorem lQ:∀{ns:List Str} {us:List Value},Vals (ns.map V.str) us->StrsAre us ns
 | [],_,r=>by cases r;exact .nil
 | n :: ns,_,r=>by
  cases r with
  | cons r0 rr=>
   obtain ⟨t,rfl⟩:=r0
   exact StrsAre.cons _ _ (lQ rr)
def A8(K:PySem.W.Frag):V->List V->Hp->VK->Prop:=fun x vs H Q=>∃(z:Str)(p:Addr)(ys:List Str),x=.str z/\vs=[.ref p]/\SqL K H p (ys.map V.str)/\(ys.map (·.length)).sum+ys.length * z.length<=16777216/\Q (.str (Txt.join z ys)) H
theorem yX:MtR X "str.join" (A8 X.K):=by
 intro pins s σ H x vs v us Q I rx rv h
 obtain ⟨z,p,ys,rfl,rfl,hq,hz,q⟩:=h
 obtain ⟨t,rfl⟩:=rx
 obtain ⟨u,rfl,ru⟩:=rv.one
 cases ru
 obtain ⟨its,r,pl,_⟩:=I.list hq
 exact join_list pl.isList (by simpa using lQ r) hz fun t' k=>⟨.str _,H,I.tok _,⟨_,rfl⟩,q⟩
end
end L2
variable {H:Hp} {sc:Scope} {σ:St}
namespace L2
open PySem PySem.Spec PyProof.Rows
section
variable {X:Cx} {x:Str} {p pos:Pos} {e:Expr} {es:List Expr} {t:TA} {id T:String} {r:List V->Hp->VK->Prop}
theorem qv(i:Nat){x:Str}{pos:Pos}(hv:Vis X.env.scope x)(hN:X.N[i]?=some x:=by rfl)(hd:(x == ("__debug__":Str))=false:=by kernel_rfl) (hcd:(x == ("__classdict__":Str))=false:=by kernel_rfl):PE X (.Name x pos) (Cc i):=Bw hN hv hd hcd
theorem vl{x:Str}(h:sc.names.lookup x=some .local:=by kernel_rfl):Vis sc x:=.inl h
theorem vc{x:Str}(h:sc.names.lookup x=some .cell:=by kernel_rfl):Vis sc x:=.inr (.inl h)
theorem ll{x:Str}(h:sc.names.lookup x=some .local:=by kernel_rfl):Loc sc x:=.inl h
theorem lc{x:Str}(h:sc.names.lookup x=some .cell:=by kernel_rfl):Loc sc x:=.inr h
theorem gl{X:Cx}{x:Str}(h:X.env.scope.names.lookup x=some .globalImplicit:=by kernel_rfl):Gl X x:=h
theorem mk{x:Str}(h:(x == ("__name__":Str))=false:=by kernel_rfl):x≠"__name__":=fun z=>by subst z;exact absurd h (by decide +kernel)
theorem wC(hc:cw X (.builtin id) r)(hg:Gl X x)(hm:X.mg x=none)(hv:bootBuiltins x=some (.builtin id))(ha:PA X (e :: es) t)(hn:(x == ("__name__":Str))=false:=by kernel_rfl) (hdb:(x == ("__debug__":Str))=false:=by kernel_rfl)
  (he:starEach (e :: es) X.env=(false,eval e X.env) :: starEach es X.env:=by rfl) (hpl:(backTo pos (starEach es X.env)).any (·.1)=false:=by rfl):PE X (.Call (.Name x p) (e :: es) [] pos) (tCB r t):=we hc hg hm hv ha (mk hn) hdb he hpl
theorem uz(hc:cw X (.type T) r)(hg:Gl X x)(hm:X.mg x=none)(hv:bootBuiltins x=some (.type T))(ha:PA X (e :: es) t)(hn:(x == ("__name__":Str))=false:=by kernel_rfl) (hdb:(x == ("__debug__":Str))=false:=by kernel_rfl)
  (he:starEach (e :: es) X.env=(false,eval e X.env) :: starEach es X.env:=by rfl) (hpl:(backTo pos (starEach es X.env)).any (·.1)=false:=by rfl):PE X (.Call (.Name x p) (e :: es) [] pos) (tCB r t):=uq hc hg hm hv ha (mk hn) hdb he hpl
theorem zC{x:Str}{v:V}{u:Value}{pos:Pos}(hg:Gl X x)(hm:X.mg x=none)(hv:bootBuiltins x=some u)(r:RelV v u)(hn:(x == ("__name__":Str))=false:=by kernel_rfl) (hd:(x == ("__debug__":Str))=false:=by kernel_rfl):PE X (.Name x pos) (tC v):=zi hg hm hv r (mk hn) hd
theorem zD{x:Str}{v:V}{u:Value}{pos:Pos}(hg:Gl X x)(hm:X.mg x=some u)(r:RelV v u)(hd:(x == ("__debug__":Str))=false:=by kernel_rfl):PE X (.Name x pos) (tC v):=zm hg hm r hd
theorem wD{k:Nat}{f:Addr}{fd:FuncData}{ps:List Str}{sp:Sp}{x:Str}{st:Stmt}{p pos:Pos}{e:Expr}{es:List Expr}{t:TA}(D:b9 X.K X.mg x st ps f fd)(G:FnOk X.prog X.w X.K X.mg X.base CX0 k f fd ps sp)(hr:Room k X.A)
  (ha:PA X (e :: es) t) (hg:Gl X x) (hdb:(x == ("__debug__":Str))=false:=by kernel_rfl) (he:starEach (e :: es) X.env=(false,eval e X.env) :: starEach es X.env:=by rfl) (hpl:(backTo pos (starEach es X.env)).any (·.1)=false:=by rfl) :
  PE X (.Call (.Name x p) (e :: es) [] pos) (pY sp [] E0 t):=wf D G hr ha hg hdb he hpl
def qm:Expr->Option V
 | .Constant (.int i) _ _=>some (.int i)
 | .Constant (.str x) _ _=>some (.str x)
 | .Constant (.bool b) _ _=>some (.bl b)
 | .Constant .none _ _=>some .non
 | _=>none
def iR:List Expr->Option (List V)
 | []=>some []
 | e :: es=>(qm e).bind fun v=>(iR es).map fun vs=>v :: vs
def tVs(vs:List V):TA:=fun _ H Q=>Q vs H
theorem tO{e:Expr}{v:V}(h:qm e=some v):PE X e (tC v)/\∀es,starEach (e :: es) X.env=(false,eval e X.env) :: starEach es X.env:=by
 unfold qm at h
 split at h
 ·cases h;exact ⟨wn,fun _=>rfl⟩
 ·cases h;exact ⟨ww,fun _=>rfl⟩
 ·cases h;exact ⟨A7,fun _=>rfl⟩
 ·cases h;exact ⟨wu,fun _=>rfl⟩
 ·cases h
theorem ou:∀{es:List Expr} {vs:List V},iR es=some vs->PA X es (tVs vs)
 | [],_,h=>by cases h;exact w9
 | e :: es,vs,h=>by
  unfold iR at h
  obtain ⟨v,h1,h2⟩:=Option.bind_eq_some_iff.mp h
  obtain ⟨ws,h3,h4⟩:=Option.map_eq_some_iff.mp h2
  subst h4
  obtain ⟨p1,p2⟩:=tO (X:=X) h1
  exact sv p1 (ou h3) (p2 es)
theorem wL{vs:List V}{Z:List V->Hp->Prop}:tVs vs σ H Z=Z vs H:=rfl
theorem jO{z:Str}{p:Addr}{K:PySem.W.Frag}{Q:VK}:A8 K (.str z) [.ref p] H Q=∃ys:List Str,SqL K H p (ys.map V.str)/\(ys.map (·.length)).sum+ys.length * z.length<=16777216/\Q (.str (Txt.join z ys)) H:=propext ⟨by rintro ⟨_,_,ys,e1,e2,h⟩;cases e1;cases e2;exact ⟨ys,h⟩,by rintro ⟨ys,h⟩;exact ⟨_,_,ys,rfl,rfl,h⟩⟩
theorem gG{z:Str}{K:PySem.W.Frag}:tyV K "str" (.str z) H=True:=eq_true (show ("str":String)="str" from rfl)
theorem sH{Q:VK}:C4 σ H Q=∀p,H p=none->Q (.ref p) (upd H p (.dK [])):=rfl
theorem wS{td ty tv:TE}{D:cA}:CU td ty tv D σ H=tv σ H fun v H1=>td σ H1 fun x H2=>ty σ H2 fun y H3=>∃a H4,x=.ref a/\Ch H3 a y v H4/\D.nx σ H4:=rfl
theorem wU{c:Addr}{Z:Addr->Hp->Prop}:(∃a H4,V.ref c=.ref a/\Z a H4)=∃H4,Z c H4:=propext ⟨by rintro ⟨_,H4,e,q⟩;cases e;exact ⟨H4,q⟩,by rintro ⟨H4,q⟩;exact ⟨c,H4,rfl,q⟩⟩
theorem jG{to ti:TE}{ts:uZ}{v:V}{Q:St->Hp->Prop}:AZ to ti ts v σ H Q=to σ H fun o H1=>ti σ H1 fun i H2=>ts o i v H2 fun H3=>Q σ H3:=rfl
def zT(t u:TS):TS:=fun D σ H=>∃Mid:St->Hp->Prop,t {D with nx:=Mid} σ H/\∀σ' H',Mid σ' H'->u D σ' H'
theorem zx{st:Stmt}{ss:List Stmt}{ta tb:TS}(h1:PS X st ta)(h2:PSs X ss tb):PSs X (st :: ss) (zT ta tb):=by
 intro pins s σ H D I h
 obtain ⟨Mid,a,b⟩:=h
 refine wpAny_execs_cons (thn (h1 pins s σ H {D with nx:=Mid} I a) fun f s1 q=>?_)
 cases f with
 | next=>
  obtain ⟨σ',H',I',q⟩:=q
  exact h2 pins s1 σ' H' D I' (b σ' H' q)
 | ret v=>exact q
 | brk=>exact q
 | cont=>exact q
theorem xh{ta tb:TS}{D:cA}:zT ta tb D σ H=∃Mid:St->Hp->Prop,ta {D with nx:=Mid} σ H/\∀σ' H',Mid σ' H'->tb D σ' H':=rfl
end
end L2
variable {dx:Addr} {f:Str} {ta:TE}
namespace L2
open PySem PySem.Spec PyProof.Rows
structure KlsAt(K:PySem.W.Frag)(mg:Str->Option Value)(x:Str)(C:Addr):Prop where
 cl:Cls K C
 mks:PySem.W.makesIn K C=true
 kp:PySem.W.keepIn K (.ref C)=true
 M:mg x=some (.ref C)
structure bm(K:PySem.W.Frag)(C:Addr)(m qual:Str)(st:Stmt)(ps:List Str)(f:Addr)(fd:FuncData):Prop where
 F:Fun K m qual st f fd
 B:Binds K fd ps []
 M:tI K C m f
theorem KlsAt.make{K:PySem.W.Frag}{mg:Str->Option Value}{x qual:Str}{C f:Addr}{st:Stmt}{ps:List Str}{fd:FuncData}(c:KlsAt K mg x C)(m:bm K C "__init__" qual st ps f fd):Mk K C f:=⟨c.mks,m.M.at_,m.M.fn,c.kp⟩
section
variable {X:Cx} {k:Nat} {f C:Addr} {fd:FuncData} {ps:List Str} {sp:Sp} {x m qual:Str} {st:Stmt} {p pos apos:Pos} {e o:Expr} {es:List Expr} {ta:TE} {t:TA}
theorem wF(c:KlsAt X.K X.mg x C)(D:bm X.K C "__init__" qual st ps f fd) (G:FnOk X.prog X.w X.K X.mg X.base CX0 k f fd ps sp) (hr:Room (k+1) X.A)
  (ha:PA X (e :: es) t) (hg:Gl X x) (hdb:(x == ("__debug__":Str))=false:=by kernel_rfl) (he:starEach (e :: es) X.env=(false,eval e X.env) :: starEach es X.env:=by rfl) (hpl:(backTo pos (starEach es X.env)).any (·.1)=false:=by rfl) :
  PE X (.Call (.Name x p) (e :: es) [] pos) (iK C sp [] E0 t):=zn (c.make D) G hr hg c.M D.B .nil ow ha hdb he hpl
theorem uA(c:KlsAt X.K X.mg x C)(D:bm X.K C "__init__" qual st ps f fd) (G:FnOk X.prog X.w X.K X.mg X.base CX0 k f fd ps sp) (hr:Room (k+1) X.A)
  (hg:Gl X x) (hdb:(x == ("__debug__":Str))=false:=by kernel_rfl):PE X (.Call (.Name x p) [] [] pos) (iK C sp [] E0 mG):=wq (c.make D) G hr hg c.M D.B .nil ow hdb
theorem wG{pl:Sem Bool}(c:Cls X.K C)(D:bm X.K C m qual st ps f fd)(G:FnOk X.prog X.w X.K X.mg X.base CX0 k f fd ps sp)(hr:Room k X.A)(he:PE X o ta)(ha:PA X (e :: es) t)
  (hst:starEach (e :: es) X.env=(false,eval e X.env) :: starEach es X.env:=by rfl) (hpl:(backTo pos (starEach es X.env)).any (·.1)=false:=by rfl)
  (ht:eval (.Call (.Attribute o m apos) (e :: es) [] pos) X.env=(do
   let ov <- eval o X.env
   standAt apos.atName
   let (f,first) <- holding [ov] (getMethod ov m pl)
   callWith pos f first (backTo pos (starEach (e :: es) X.env)) (backToKw pos (keywordEach [] X.env))):=by rfl) :
  PE X (.Call (.Attribute o m apos) (e :: es) [] pos) (hW C m sp [] E0 ta t):=sw he c D.M G hr D.B .nil ow ha hst hpl ht
theorem uB{pl:Sem Bool}(c:Cls X.K C)(D:bm X.K C m qual st ps f fd)(G:FnOk X.prog X.w X.K X.mg X.base CX0 k f fd ps sp)(hr:Room k X.A)(he:PE X o ta)
  (ht:eval (.Call (.Attribute o m apos) [] [] pos) X.env=(do
   let ov <- eval o X.env
   standAt apos.atName
   let (f,first) <- holding [ov] (getMethod ov m pl)
   callWith pos f first (backTo pos (starEach [] X.env)) (backToKw pos (keywordEach [] X.env))):=by rfl) :
  PE X (.Call (.Attribute o m apos) [] [] pos) (hW C m sp [] E0 ta mG):=wt he c D.M G hr D.B .nil ow ht
end
section
variable {H:Hp} {Q:VK} {σ:St} {D:cA} {K:PySem.W.Frag}
def uY(K:PySem.W.Frag)(x:V)(f:Str)(y:V)(H:Hp)(Z:Hp->Prop):Prop:=∃a C dx fs,x=.ref a/\H a=some (.ins C dx fs)/\Cls K C/\NoAttr K C f/\fs.length < 1000/\Z (upd H a (.ins C dx (cH f y fs)))
def uX(K:PySem.W.Frag)(x:V)(f:Str)(H:Hp)(Q:VK):Prop:=∃a C dx fs v,x=.ref a/\H a=some (.ins C dx fs)/\Cls K C/\NoAttr K C f/\fs.lookup f=some v/\Q v H
def lW(C:Addr)(m:Str)(x:V)(H:Hp)(Z:Prop):Prop:=∃a dx fs,x=.ref a/\H a=some (.ins C dx fs)/\fs.lookup m=none/\Z
def Cj(C:Addr)(sp:Sp)(vs:List V)(H:Hp)(Q:VK)(E:XK):Prop:=∀x dx,H x=none->H dx=none->dx≠x->sp (.ref x :: vs) (upd (upd H dx (.own x)) x (.ins C dx [])) (fun v H2=>v=.non/\Q (.ref x) H2) E
theorem kc{tv:TE}:BY K ta tv f D σ H=tv σ H fun y H1=>ta σ H1 fun x H2=>uY K x f y H2 (D.nx σ):=rfl
theorem jJ:C5 K ta f σ H Q=ta σ H fun x H1=>uX K x f H1 Q:=rfl
theorem jZ{C:Addr}{m:Str}{sp:Sp}{E:XK}{t:TA}:hW C m sp [] E ta t σ H Q=ta σ H fun x H1=>lW C m x H1 (t σ H1 fun vs H2=>sp (x :: vs) H2 Q E):=by
 unfold hW lW;simp only [List.append_nil]
theorem jY{C:Addr}{sp:Sp}{E:XK}{t:TA}:iK C sp [] E t σ H Q=t σ H fun vs H1=>Cj C sp vs H1 Q E:=by
 unfold iK Cj;simp only [List.append_nil]
theorem nQ{p C dx:Addr}{fs:List (Str×V)}{f:Str}{y:V}{Z:Hp->Prop}(e:H p=some (.ins C dx fs))(c:Cls K C)(n:NoAttr K C f)(l:fs.length < 1000)(h:Z (upd H p (.ins C dx (cH f y fs)))):uY K (.ref p) f y H Z:=⟨p,C,dx,fs,rfl,e,c,n,l,h⟩
theorem ga{p C dx:Addr}{fs:List (Str×V)}{f:Str}{v:V}(e:H p=some (.ins C dx fs))(c:Cls K C)(n:NoAttr K C f)(l:fs.lookup f=some v)(h:Q v H):uX K (.ref p) f H Q:=⟨p,C,dx,fs,v,rfl,e,c,n,l,h⟩
theorem bw{p C dx:Addr}{fs:List (Str×V)}{m:Str}{Z:Prop}(e:H p=some (.ins C dx fs))(l:fs.lookup m=none)(h:Z):lW C m (.ref p) H Z:=⟨p,dx,fs,rfl,e,l,h⟩
end
end L2
namespace L2
open PySem PySem.Spec PyProof.Rows
section
variable {K:PySem.W.Frag} {h:Heap} {mg:Str->Option Value}
abbrev fnS (x qual:Str) (st:Stmt) (kV doc pm:Value) (an:Option Addr) (cdv ct:Value):FuncData:=PySem.W.fnOf x qual (cE st) (cu st) (av st) .none kV doc pm an cdv ct
abbrev qf (x qual:Str) (st:Stmt) (ps:List Str):Prop:=∀(kV doc pm:Value)(an:Option Addr)(cdv ct:Value)(us:List Value),us.length=ps.length->bindArgs (fnS x qual st kV doc pm an cdv ct) ⟨us,[]⟩=pure (ps.zip us)
theorem c7{x:Str}{st:Stmt}{ps:List Str}{f:Addr}{oc:Value}{od an:Option Addr}{osl:Array (Option Value)}{kV doc pm cdv ct:Value}(X:K.In h)(G:h.Ns mainGlobals mg)(a:PySem.W.nsIn K mainGlobals x=some (some (.ref f)))
  (l:K.lookup f=some ⟨oc,od,.func (PySem.W.fnOf x x (cE st) (cu st) (av st) .none kV doc pm an cdv ct),osl⟩) (c:PySem.W.codeIn K cdv x=true) (k:PySem.W.keepIn K (.ref f)=true) (b:qf x x st ps):b9 K mg x st ps f (PySem.W.fnOf x x (cE st) (cu st) (av st) .none kV doc pm an cdv ct):=
 ⟨m9 l c k,(m9 l c k).binds b,PySem.W.mg_of X G a⟩
theorem gk{C:Addr}{x qual:Str}{st:Stmt}{ps:List Str}{f:Addr}{oc:Value}{od an:Option Addr}{osl:Array (Option Value)}{kV doc pm cdv ct:Value}(a:PySem.W.findIn K (.ref C) x=some (some (.ref f)))(i:PySem.W.isFn K (.ref f)=true)
  (l:K.lookup f=some ⟨oc,od,.func (PySem.W.fnOf x qual (cE st) (cu st) (av st) .none kV doc pm an cdv ct),osl⟩) (c:PySem.W.codeIn K cdv qual=true) (k:PySem.W.keepIn K (.ref f)=true) (b:qf x qual st ps):bm K C x qual st ps f (PySem.W.fnOf x qual (cE st) (cu st) (av st) .none kV doc pm an cdv ct):=
 ⟨m9 l c k,(m9 l c k).binds b,⟨a,i,k⟩⟩
theorem AU{x:Str}{C:Addr}(X:K.In h)(G:h.Ns mainGlobals mg)(a:PySem.W.nsIn K mainGlobals x=some (some (.ref C)))(h1:PySem.W.plainGet K C Str.empty=true)(h2:PySem.W.hasDictIn K C=true)(h3:PySem.W.plainOver K C=true)
  (h4:PySem.W.findIn K (.ref C) "__setattr__"=some (some (.builtin "object.__setattr__"))) (h5:PySem.W.makesIn K C=true) (h6:PySem.W.keepIn K (.ref C)=true):KlsAt K mg x C:=⟨⟨h1,h2,h3,h4⟩,h5,h6,PySem.W.mg_of X G a⟩
end
section
variable {x qual p q r s t u:Str} {st:Stmt}
theorem bn1(h:∀kV doc pm an cdv ct a,bindArgs (fnS x qual st kV doc pm an cdv ct) ⟨[a],[]⟩=pure [(p,a)]):qf x qual st [p]:=fun kV doc pm an cdv ct us hl=>by
 match us,hl with
 | [a],_=>exact h kV doc pm an cdv ct a
theorem bn2(h:∀kV doc pm an cdv ct a b,bindArgs (fnS x qual st kV doc pm an cdv ct) ⟨[a,b],[]⟩=pure [(p,a),(q,b)]):qf x qual st [p,q]:=fun kV doc pm an cdv ct us hl=>by
 match us,hl with
 | [a,b],_=>exact h kV doc pm an cdv ct a b
theorem bn3(h:∀kV doc pm an cdv ct a b c,bindArgs (fnS x qual st kV doc pm an cdv ct) ⟨[a,b,c],[]⟩=pure [(p,a),(q,b),(r,c)]):qf x qual st [p,q,r]:=fun kV doc pm an cdv ct us hl=>by
 match us,hl with
 | [a,b,c],_=>exact h kV doc pm an cdv ct a b c
theorem bn4(h:∀kV doc pm an cdv ct a b c d,bindArgs (fnS x qual st kV doc pm an cdv ct) ⟨[a,b,c,d],[]⟩=pure [(p,a),(q,b),(r,c),(s,d)]):qf x qual st [p,q,r,s]:=fun kV doc pm an cdv ct us hl=>by
 match us,hl with
 | [a,b,c,d],_=>exact h kV doc pm an cdv ct a b c d
theorem bn5(h:∀kV doc pm an cdv ct a b c d e,bindArgs (fnS x qual st kV doc pm an cdv ct) ⟨[a,b,c,d,e],[]⟩=pure [(p,a),(q,b),(r,c),(s,d),(t,e)]):qf x qual st [p,q,r,s,t]:=fun kV doc pm an cdv ct us hl=>by
 match us,hl with
 | [a,b,c,d,e],_=>exact h kV doc pm an cdv ct a b c d e
end
end L2
namespace L2
open PySem PySem.Spec PyProof.Rows
section
variable {X:Cx}
end
end L2
namespace L2
open PySem PySem.Spec PyProof.Rows
theorem se:∀{ns:List Int} {its:List Value},Vals (ns.map V.int) its->IntsAre its ns
 | [],_,.nil=>.nil
 | n :: ns,_,.cons h t=>by
  obtain ⟨tk,rfl⟩:=h
  exact .cons _ _ (se t)
section
variable {X:Cx}
def sE(K:PySem.W.Frag):List V->Hp->VK->Prop:=fun xs H Q=>∃(a:Addr)(ns:List Int),xs=[.ref a]/\SqL K H a (ns.map V.int)/\ns.length < 64/\∀(l:Addr)(ns':List Int),H l=none->ns'.Perm ns->ns'.Pairwise (·<=·)->Q (.ref l) (upd H l (.lst (ns'.map V.int)))
theorem nA:cw X (.builtin "sorted") (sE X.K):=by
 intro pins s σ H xs us Q I r h
 obtain ⟨a,ns,rfl,hq,h64,q⟩:=h
 obtain ⟨u,rfl,ru⟩:=eR r
 cases ru
 obtain ⟨its,rv,pl,_⟩:=I.list hq
 have hl:=rv.length
 rw [List.length_map] at hl
 refine sorted_ints (vs:=its) pl.isList (se rv) (by omega) fun out ns' a1 a2 a3=>?_
 obtain ⟨e,he⟩:=sortedAll_at s.heap its out
 have hk:∀b o,s.heap.get? b=some o->(sortedAll s.heap its out).get? b=some o:=fun _ _=>sortedAll_old
 refine ⟨.ref (s.heap.objs.size+1),_,I.laid (t':=s.toks) hk (Nat.le_succ _) (show ObjOk X.prog X.w _ (sortedAll s.heap its out) _ (.lst (ns'.map V.int)) from ⟨?_,out.toList,e,ip a1,?_⟩),rfl,q _ _ (I.hok.fresh (Nat.le_succ _)) a2 a3⟩
 ·rw [List.length_map,a2.length_eq,sizeLine_eq];omega
 ·rw [Array.toArray_toList];exact he
theorem nv:∀{bs:List Bool} {its:List Value},Vals (bs.map V.bl) its->its=bs.map Value.bool
 | [],_,.nil=>rfl
 | b :: bs,_,.cons h t=>by
  have e:_=Value.bool b:=h
  rw [e,nv t];rfl
theorem uC{bs:List Bool}:(List.range bs.length).any (fun i=>bs.getD i true)=bs.any id:=by
 rw [Bool.eq_iff_iff,List.any_eq_true,List.any_eq_true]
 constructor
 ·rintro ⟨i,hi,h⟩
  have hi:=List.mem_range.mp hi
  rw [List.getD_eq_getElem?_getD,List.getElem?_eq_getElem hi] at h
  exact ⟨_,List.getElem_mem hi,h⟩
 ·rintro ⟨b,hb,h⟩
  obtain ⟨i,hi,rfl⟩:=List.mem_iff_getElem.mp hb
  refine ⟨i,List.mem_range.mpr hi,?_⟩
  rw [List.getD_eq_getElem?_getD,List.getElem?_eq_getElem hi]
  exact h
def Da(K:PySem.W.Frag):List V->Hp->VK->Prop:=fun xs H Q=>∃(a:Addr)(bs:List Bool),xs=[.ref a]/\SqL K H a (bs.map V.bl)/\Q (.bl (bs.all id)) H
def CK(K:PySem.W.Frag):List V->Hp->VK->Prop:=fun xs H Q=>∃(a:Addr)(bs:List Bool),xs=[.ref a]/\SqL K H a (bs.map V.bl)/\Q (.bl (bs.any id)) H
theorem q9{P:Program}{w:World}{A:Around}{bs:List Bool}:TruthOf P w A (fun i v=>(bs.map Value.bool).toArray[i]?=some v) (fun i=>bs.getD i true):=by
 intro i v s Q E hv q
 rw [List.getElem?_toArray,List.getElem?_map] at hv
 obtain ⟨b,hb,rfl⟩:=Option.map_eq_some_iff.mp hv
 replace q:Q (bs.getD i true) s:=q
 rw [List.getD_eq_getElem?_getD,hb] at q
 exact wpAny_truthy_bool q
theorem ny(hc:X.calm=true):cw X (.builtin "any") (CK X.K):=by
 intro pins s σ H xs us Q I r h
 obtain ⟨a,bs,rfl,hq,q⟩:=h
 obtain ⟨u,rfl,ru⟩:=eR r
 cases ru
 obtain ⟨its,rv,pl,_⟩:=I.list hq
 obtain rfl:=nv rv
 obtain ⟨o,ho,ro⟩:=pl.isList
 have W:=Walks.list (prog:=X.prog) (w:=X.w) (A:=X.A.in1) (I.ok.hd hc) s.heap.objs.size a (Nat.ne_of_lt (Heap.lt_size ho)) (bs.map Value.bool).toArray
 refine call_any_walk (wpAny_pyIter_list pl.isList ⟨s.heap.objs.size,_,_,_,_,_,fun i=>bs.getD i true,rfl,W,⟨⟨_,Heap.get?_push_size _ rfl,rfl,rfl⟩,pl.isList.push _⟩,q9,fun h' tk hk=>?_⟩)
 have e:(bs.map Value.bool).toArray.size=bs.length:=by simp
 rw [e,uC]
 exact ⟨.bl _,H,I.kept (t':=tk) fun b ob hb=>hk b ob (fun z=>Nat.lt_irrefl _ (by have:=Heap.lt_size hb;rw [List.mem_singleton.mp z] at this;exact this)) (Heap.get?_push_of_some _ hb),rfl,q⟩
end
end L2
namespace L2
open PySem PySem.Spec PyProof.Rows
open AutoSeq1 (wpAny_loadPart')
theorem sT:mroOf (.type "reversed")=pure [.type "reversed",.type "object"]:=by rw [mroOf_type];kernel_rfl
theorem zJ:typeLookup (.type "reversed") "__new__"=pure (some (.builtin "reversed.__new__")):=by rw [typeLookup_type,builtinLookup_eq_fast];kernel_rfl
theorem xx:Bind.madeBy (.type "reversed")=pure (some "reversed.__new__"):=madeBy_type sT zJ (by decide +kernel)
theorem zK:isSubtype (.type "list_reverseiterator") (.type "reversed")=pure false:=by rw [isSubtype_type];kernel_rfl
theorem xy:isSubtype (.type "reversed") (.type "reversed")=pure true:=by rw [isSubtype_type];kernel_rfl
theorem uE:entryFor table "reversed.__new__"=some Builtin.«reversed.__new__»:=entryFor_of_tree (by kernel_rfl)
theorem fS(l:Addr)(items:Array Value)(n:Nat)(dct:Option Addr)(sl:Array (Option Value)):
  Meets (Builtin.«reversed.__new__» ⟨[.type "reversed",.ref l],[]⟩) (fun _ R s=>s.heap.get? l=some {cls:=.type "list",dict:=dct,data:=.seq items n,slots:=sl}/\
   R (.ok (.ret (.ref s.heap.objs.size))) {s with heap:=s.heap.push {cls:=.type "list_reverseiterator",data:=.fields #[.ref l,rawInt (((items.size:Nat):Int) - 1)]}}):=
 .of_wp fun prog w A R s h=>by
  obtain ⟨hp,g,d,tk,os⟩:=s;obtain ⟨hl,h⟩:=h
  have hsub:=xy
  have hL:Heap.IsList (Shared.heap ⟨hp,g,d,tk,os⟩) l items:=⟨_,hl,rfl,n,rfl⟩
  wp_walk using wpAny_loadPart' hl
  refine wpAny_of_eq PySem.F.slot_list_reversed.lookup ?_
  refine wpAny_bind ?_
  unfold bindSpecial
  refine wpAny_bind (wpAny_of_eq PySem.F.type_list_reversed ?_)
  rw [if_pos (by decide)]
  refine wpAny_pure ?_
  show wpAny _ _ (if (Value.builtin "list.__reversed__" == Value.none)=true then _ else _) _ _ _
  rw [if_neg (by decide)]
  refine wpAny_bind (wpAny_rule ?_)
  refine wpAny_bind ?_
  show wpAny (model prog w) A.in1 (call (.builtin "list.__reversed__") [.ref l]) _ _ _
  refine wpAny_call_entry PySem.F.slot_list_reversed hL.typeIs PySem.F.entry_list_reversed ?_ (PySem.F.args_list_reversed_1 _)
  wp_walk using wpAny_loadPart' hl
  exact ⟨_,rfl,wpAny_pure ⟨_,rfl,h⟩⟩
def IsRev(h:Heap)(it l:Addr)(k:Int):Prop:=∃o,h.get? it=some o/\o.cls=.type "list_reverseiterator"/\o.data=.fields #[.ref l,.int k 0]
section
variable {prog:Program} {w:World} {A:Around} {E:Value->Shared->Prop} {s:Shared}
theorem fP{l:Addr}{items:Array Value}{Q:Value->Shared->Prop}(hL:s.heap.IsList l items)
  (h:∀h',IsRev h' s.heap.objs.size l (((items.size:Nat):Int) - 1)->h'.objs.size=s.heap.objs.size+1->(∀b o,s.heap.get? b=some o->h'.get? b=some o)->Q (.ref s.heap.objs.size) {s with heap:=h'}) :
  wpAny (model prog w) A (call (.type "reversed") [.ref l]) Q E s:=by
 obtain ⟨⟨c,dct,dt,sl⟩,hl,hc,n,hd⟩:=hL
 replace hc:c=.type "list":=hc
 replace hd:dt=.seq items n:=hd
 subst hc hd
 have hmro:=sT
 have hmade:=xx
 have hsub:=zK
 refine wpAny_call (codeAny_of_tree ?_)
 show wpAny _ _ (callAny (.type "reversed") _) _ _ _
 refine wpAny_pure ⟨Code.quiet_builtin _ (by decide +kernel),codeAny_builtin F.entry_type_call ?_⟩
 rw [Around.under_plain (weight_type_call_type "reversed" [.ref l] []) (units_type_call_type "reversed" [.ref l] [])]
 have h1:(Value.type "reversed" == Value.type "type")=false:=by decide +kernel
 have h2:((Manifest.find? "reversed").bind (·.mro.findSome? fun t=>(Manifest.find? t).bind fun b=>if b.noNew then some true else if b.attrs.any (·.1 == "__new__") then some false else none)).getD false=false:=by decide +kernel
 have hct:checkTypeCall "reversed" ⟨[.ref l],[]⟩=pure ():=by kernel_rfl
 have hcn:checkBuiltinCall "reversed.__new__" ⟨[.type "reversed",.ref l],[]⟩=pure ():=by kernel_rfl
 repeat (any_goals (first | assumption | wp_step))
 have key:=fS l items n dct sl prog w A.in1 (wants (fun v s'=>v=.ref s.heap.objs.size/\s'={s with heap:=s.heap.push {cls:=.type "list_reverseiterator",data:=.fields #[.ref l,rawInt (((items.size:Nat):Int) - 1)]}}) E) s ⟨hl,rfl,rfl⟩
 refine codeAny_mono (codeAny_call_builtin (by decide +kernel) uE (wpAny_of_eq hcn key)) fun r s₁ hr=>?_
 cases r with
 | error e=>exact hr
 | ok fl=>
  cases fl with
  | ret obj=>
   obtain ⟨rfl,rfl⟩:=hr
   have hT:Shared.TypeIs {s with heap:=s.heap.push {cls:=.type "list_reverseiterator",data:=.fields #[.ref l,rawInt (((items.size:Nat):Int) - 1)]}} (.ref s.heap.objs.size) "list_reverseiterator":=⟨_,Heap.get?_push_size _ rfl,rfl⟩
   repeat (any_goals (first | assumption | wp_step))
   exact h _ ⟨_,Heap.get?_push_size _ rfl,rfl,rfl⟩ (Heap.size_push ..) (fun b o x=>Heap.get?_push_of_some _ x)
  | _=>exact hr.elim
end
end L2
variable {it l:Addr}
namespace L2
open PySem PySem.Spec PyProof.Rows
theorem slot_rev_next:Slot "list_reverseiterator" "__next__" "list_reverseiterator.__next__":=
 .of (owner:="list_reverseiterator") (n:="__next__") (by rw [typeLookup_type,builtinLookup_eq_fast];kernel_rfl) (by decide +kernel) (by decide +kernel) (by decide +kernel)
  (by first | exact .inl (by decide +kernel) | exact .inr (by decide +kernel)) (by rw [isSubtype_type];kernel_rfl)
theorem fN:Slot "list_reverseiterator" "__iter__" "list_reverseiterator.__iter__":=
 .of (owner:="list_reverseiterator") (n:="__iter__") (by rw [typeLookup_type,builtinLookup_eq_fast];kernel_rfl) (by decide +kernel) (by decide +kernel) (by decide +kernel)
  (by first | exact .inl (by decide +kernel) | exact .inr (by decide +kernel)) (by rw [isSubtype_type];kernel_rfl)
theorem dX:entryFor table "list_reverseiterator.__next__"=some Builtin.«list_reverseiterator.__next__»:=entryFor_of_tree (by kernel_rfl)
theorem jc:entryFor table "list_reverseiterator.__iter__"=some Builtin.«dict_keyiterator.__iter__»:=
 entryFor_alias (id':="dict_keyiterator.__iter__") (by kernel_rfl) (by first | rfl | decide +kernel | (unfold String.splitOn;simp +decide [String.splitOnAux])) (by decide +kernel) (by kernel_rfl)
theorem fv(a:Value):argsOk "list_reverseiterator.__next__" ⟨[a],[]⟩:=by unfold argsOk;kernel_rfl
theorem kF(a:Value):argsOk "list_reverseiterator.__iter__" ⟨[a],[]⟩:=by unfold argsOk;kernel_rfl
theorem IsRev.typeIs{s:Shared}{it l:Addr}{k:Int}(x:IsRev s.heap it l k):s.TypeIs (.ref it) "list_reverseiterator":=let ⟨o,ho,hc,_⟩:=x;⟨o,ho,hc⟩
section
variable {prog:Program} {w:World} {A:Around} {E:Value->Shared->Prop} {s:Shared}
theorem jr{it l:Addr}{k:Int}{Q:Value->Shared->Prop}(hi:IsRev s.heap it l k)(h:Q (.ref it) s):wpAny (model prog w) A (pyIter (.ref it)) Q E s:=by
 refine wpAny_pyIter_slot hi.typeIs fN (wpAny_call_entry fN hi.typeIs jc ?_ (kF _))
 show wpAny _ _ (ret (.ref it)) _ _ s
 exact wpAny_pure ⟨_,rfl,"list_reverseiterator",_,hi.typeIs,slot_rev_next.lookup,h⟩
theorem iP{it l:Addr}{i:Nat}{items:Array Value}{x:Value}{Q:Option Value->Shared->Prop}(hit:IsRev s.heap it l (i:Int))(hl:s.heap.IsList l items)(hx:items[i]?=some x)
 (hQ:∀h',IsRev h' it l ((i:Int) - 1)->Heap.SameBut it s.heap h'->Q (some x) {s with heap:=h'}):wpAny (model prog w) A (pyNext (.ref it)) Q E s:=by
 obtain ⟨o,ho,hc,hd⟩:=id hit
 obtain ⟨ol,hol,_,nl,hdl⟩:=hl
 unfold pyNext
 refine wpAny_bind (wpAny_attempt (wpAny_callSpecial?_slot (name:=Str.ofString "__next__") hit.typeIs slot_rev_next (wpAny_call_entry slot_rev_next hit.typeIs dX ?_ (fv _))))
 show wpAny _ _ (field (.ref it) 1 >>= _) _ _ s
 refine wpAny_bind (wpAny_field ho hd (x:=.int i 0) rfl ?_)
 show wpAny _ _ (if (i:Int) < 0 then _ else _) _ _ s
 rw [if_neg (by omega)]
 show wpAny _ _ (field (.ref it) 0 >>= _) _ _ s
 refine wpAny_bind (wpAny_field ho hd (x:=.ref l) rfl ?_)
 show wpAny _ _ (seqItems? (.ref l) >>= _) _ _ s
 refine wpAny_bind (wpAny_seqItems hol hdl ?_)
 simp only [Int.toNat_natCast,hx]
 refine wpAny_bind (wpAny_setField ho hd (by simp) (wpAny_pure ⟨x,rfl,wpAny_pure (hQ _ ?_ (Heap.SameBut.update ..))⟩))
 exact ⟨_,Heap.get?_update_self _ ho (Obj.isFreed_of_fields (Obj.data_mapFields hd _)),(Obj.cls_mapFields ..).trans hc,by
  rw [Obj.data_mapFields hd];simp [rawInt]⟩
theorem js{it l:Addr}{Q:Option Value->Shared->Prop}(hh:A.handled=none)(hit:IsRev s.heap it l (-1))
 (hQ:∀h',Heap.ExtBut it s.heap h'->Q none {s with heap:=h'}):wpAny (model prog w) A (pyNext (.ref it)) Q E s:=by
 obtain ⟨o,ho,hc,hd⟩:=id hit
 unfold pyNext
 refine wpAny_bind (wpAny_attempt (wpAny_callSpecial?_slot (name:=Str.ofString "__next__") hit.typeIs slot_rev_next (wpAny_call_entry slot_rev_next hit.typeIs dX ?_ (fv _))))
 show wpAny _ _ (field (.ref it) 1 >>= _) _ _ s
 refine wpAny_bind (wpAny_field ho hd (x:=.int (-1) 0) rfl ?_)
 show wpAny _ _ (if (-1:Int) < 0 then _ else _) _ _ s
 rw [if_pos (by decide)]
 refine wpAny_bind (wpAny_rule ?_)
 refine wpAny_bind ?_
 show wpAny _ _ (newExc (.type "StopIteration") [] >>= _) _ _ _
 refine wpAny_bind ?_
 simp only [newExc,newTuple]
 refine wpAny_bind (wpAny_newObj_type ?_ (by size_fits))
 refine wpAny_bind (m:=firstArgMember _ _) (wpAny_of_eq (a:=Value.none) (by first | rfl | (simp only [firstArgMember];rfl)) ?_)
 refine wpAny_newObj_type ?_ (by size_fits)
 simp only [raiseNew]
 refine wpAny_bind (wpAny_handled ?_)
 rw [show A.in1.handled=none from hh]
 refine wpAny_bind (wpAny_pure (wpAny_throw ?_))
 refine wpAny_bind (wpAny_isInstance (T:="StopIteration") (b:=true) ⟨_,Heap.get?_push_size _ rfl,rfl⟩ isSubtype_stop ?_)
 exact wpAny_pure (hQ _ (fun b o _ e=>Heap.get?_push_of_some _ (Heap.get?_push_of_some _ e)))
end
end L2
namespace L2
open PySem PySem.Spec PyProof.Rows
def Itv(K:PySem.W.Frag)(a:Addr)(n:Nat):It:=
 ⟨fun i H=>∃xs,SqL K H a xs/\xs.length=n/\i < n,fun i H x H'=>H'=H/\∀xs,SqL K H a xs->xs.reverse[i]?=some x,fun i _=>n<=i⟩
theorem BX{α:Type}{xs:List α}{i:Nat}(h:i < xs.length):xs.reverse[i]?=xs[xs.length - 1 - i]?:=by
 rw [List.getElem?_reverse h]
theorem IsRev.keep{h h':Heap}{it l:Addr}{k:Int}(x:IsRev h it l k)(hk:∀o,h.get? it=some o->h'.get? it=some o):IsRev h' it l k:=let ⟨o,ho,r⟩:=x;⟨o,hk o ho,r⟩
theorem y8{P:Program}{w:World}{K:PySem.W.Frag}{tg:Expr}(a it:Addr)(n:Nat):kE P w K tg (Itv K a n) [it] it (fun i h=>i<=n/\IsRev h it a ((n:Int) - 1 - (i:Nat))) where
 mem:=by simp
 obj:=fun i h st b hb=>by
  have e:b=it:=by simpa using hb
  subst e
  obtain ⟨_,o,e,c,d⟩:=st
  exact ⟨o,e,fun v z=>by rw [d] at z;cases z⟩
 keep:=fun i h h' st k=>⟨st.1,st.2.keep fun o e=>k it (by simp) o e⟩
 item:=by
  intro X hP hw hK hc i pins s σ H E I hf st hg
  subst hP hw hK
  obtain ⟨xs,hq,hn,hi⟩:=hg
  subst hn
  obtain ⟨x,hx⟩:∃x,xs[xs.length - 1 - i]?=some x:=⟨_,List.getElem?_eq_getElem (by omega)⟩
  obtain ⟨its,rv,p,hz⟩:=I.list hq
  obtain ⟨u,hu,ru⟩:=rv.get hx
  obtain ⟨f0,f1,f2,f3,f4,f5⟩:=hf it (by simp)
  have st0:IsRev s.heap it a ((xs.length - 1 - i:Nat):Int):=by
   have:=st.2
   rw [show ((xs.length:Int) - 1 - (i:Nat))=((xs.length - 1 - i:Nat):Int) by omega] at this
   exact this
  refine iP st0 p.isList (x:=u) (by simpa using hu) fun h' st' sb=>?_
  have I1:Inv X pins σ H {s with heap:=h'}:=I.turned (t':=s.toks) (fun b o hb e=>(sb.2 b hb).trans e) f0 f1 f3 f4 f5
  obtain ⟨o,e,c,d⟩:=id st'
  have st2:IsRev h' it a ((xs.length:Int) - 1 - ((i+1:Nat):Int)):=by
   rw [show ((xs.length:Int) - 1 - ((i+1:Nat):Int))=((xs.length - 1 - i:Nat):Int) - 1 by omega]
   exact st'
  exact ⟨u,rfl,rY (s:={s with heap:=h'}) e c d (by decide) ⟨x,H,I1,ru,⟨rfl,fun ys hy=>by rw [I.list_inj hy hq,BX hi];exact hx⟩,⟨hi,st2⟩,fun b hb=>(hf b hb).1⟩⟩
 done:=by
  intro X hP hw hK hc i pins s σ H E I hf st hg
  subst hP hw hK
  obtain ⟨f0,f1,f2,f3,f4,f5⟩:=hf it (by simp)
  have hg':n<=i:=hg
  have e:i=n:=Nat.le_antisymm st.1 hg'
  have st0:IsRev s.heap it a (-1):=by
   have:=st.2
   rw [show ((n:Int) - 1 - (i:Nat))=-1 by omega] at this
   exact this
  exact js (I.ok.hd hc) st0 fun h' eb=>⟨rfl,I.turned (t':=s.toks) (fun b o hb e=>eb b o hb e) f0 f1 f3 f4 f5⟩
 self:=fun _ _ _ _ _ st h=>jr st.2 h
def B3(K:PySem.W.Frag)(ta:TA):TI:=fun σ H R=>ta σ H fun vs H1=>∃a xs,vs=[.ref a]/\SqL K H1 a xs/\R (Itv K a xs.length) H1
theorem BB{X:Cx}{tg a:Expr}{ta:TA}{p pos:Pos}(hm:X.mg "reversed"=none) (ha:PA X [a] ta) (hg:Gl X "reversed":=by rfl) (hs:starEach [a] X.env=[(false,eval a X.env)]:=by rfl) :
  PI X tg (.Call (.Name "reversed" p) [a] [] pos) (B3 X.K ta):=by
 intro pins s σ H R I h
 refine Call_ (df I hg hm boot_reversed (PyProof.Rows.callWith_type1 (thn (ha pos pins s σ H _ I h) fun us s1 hhx=>?_) hs rfl))
 obtain ⟨vs,H1,I1,r1,q1⟩:=hhx
 obtain ⟨l,xs,e,hq,q⟩:=q1
 subst e
 cases r1 with
 | cons r rr=>
  cases rr
  cases r
  obtain ⟨its,rv,pl,hz⟩:=I1.list hq
  have hlen:=rv.length
  refine fP pl.isList fun h' hit hsz hk=>?_
  refine jr hit ?_
  have I2:Inv X pins σ H1 {s1 with heap:=h'}:=I1.kept (t':=s1.toks) hk
  refine ⟨s1.heap.objs.size,[s1.heap.objs.size],_,_,H1,rfl,I2,y8 l _ xs.length,⟨Nat.zero_le _,?_⟩,fun b hb=>?_,q⟩
  ·have e:(((its.toArray.size:Nat):Int) - 1)=((xs.length:Int) - 1 - ((0:Nat):Int)):=by simp [hlen]
   rw [e] at hit
   exact hit
  ·rw [List.mem_singleton.mp hb]
   exact I1.fpOk (Nat.le_refl _) (I1.hok.fresh (Nat.le_refl _))
section
variable {g:TG} {tb:TS} {D:cA} {σ:St} {H:Hp}
theorem jK{K:PySem.W.Frag}{ta:TA}{R:It->Hp->Prop}:B3 K ta σ H R=ta σ H fun vs H1=>∃a xs,vs=[.ref a]/\SqL K H1 a xs/\R (Itv K a xs.length) H1:=rfl
theorem AW{K:PySem.W.Frag}{a:Addr}{xs:List V}(Pv:Nat->St->Hp->Prop)(h0:Pv 0 σ H)(hl:∀i σ H,i<=xs.length->Pv i σ H->SqL K H a xs)
  (hs:∀(i:Nat)x σ H,xs.reverse[i]?=some x->Pv i σ H->g x σ H fun σ2 H2=>tb {D with nx:=Pv (i+1),ct:=Pv (i+1),bk:=D.nx} σ2 H2) (hd:∀σ H,Pv xs.length σ H->D.nx σ H):mQ (Itv K a xs.length) g tb D σ H:=by
 refine ⟨fun i m σ H=>m=xs.length - i/\i<=xs.length/\Pv i σ H,⟨xs.length,by simp,Nat.zero_le _,h0⟩,?_⟩
 rintro i m σ H ⟨rfl,hi,p⟩
 have q:=hl i σ H hi p
 by_cases hlt:i < xs.length
 ·refine .inr ⟨⟨xs,q,rfl,hlt⟩,Pv (i+1),fun σ' H' p'=>⟨xs.length - (i+1),by omega,rfl,hlt,p'⟩,fun x H' y=>?_⟩
  obtain ⟨eH,y⟩:=y
  subst eH
  exact hs i x σ H' (y xs q) p
 ·have e:i=xs.length:=by omega
  subst e
  exact .inl ⟨Nat.le_refl _,hd σ H p⟩
end
end L2
namespace L2
open PySem PySem.Spec PyProof.Rows
section
variable {prog:Program} {w:World} {A:Around} {E:Value->Shared->Prop} {s:Shared}
end
end L2
namespace L2
open PySem PySem.Spec PyProof.Rows
def xT(K:PySem.W.Frag)(ta:TA):TE:=fun σ H Q=>ta σ H fun vs H1=>∃a xs,vs=[.ref a]/\SqL K H1 a xs/\∀l,H1 l=none->Q (.ref l) (upd H1 l (.lst xs.reverse))
theorem lC{K:PySem.W.Frag}{ta:TA}{σ:St}{H:Hp}{Q:VK}:xT K ta σ H Q=ta σ H fun vs H1=>∃a xs,vs=[.ref a]/\SqL K H1 a xs/\∀l,H1 l=none->Q (.ref l) (upd H1 l (.lst xs.reverse)):=rfl
section
variable {X:Cx}
end
def uM(to:TE):TE:=fun σ H Q=>to σ H fun x H1=>∃a kvs,x=.ref a/\H1 a=some (.dK kvs)/\∀l,H1 l=none->Q (.ref l) (upd H1 l (.lst (kvs.map (·.2))))
theorem jX{to:TE}{σ:St}{H:Hp}{Q:VK}:uM to σ H Q=to σ H fun x H1=>∃a kvs,x=.ref a/\H1 a=some (.dK kvs)/\∀l,H1 l=none->Q (.ref l) (upd H1 l (.lst (kvs.map (·.2)))):=rfl
end L2
namespace L2
open PySem PySem.Spec PyProof.Rows
def Ca(K:PySem.W.Frag)(te tst:TE):TE:=fun σ H Q=>te σ H fun x H1=>tst σ H1 fun y H2=>∃a xs,x=.ref a/\y=.int (-1)/\SqL K H2 a xs/\∀l,H2 l=none->Q (.ref l) (upd H2 l (.lst xs.reverse))
theorem sG{td ty tx:TE}{σ:St}{H:Hp}{Q:VK}:C3 td ty tx σ H Q=td σ H fun x H1=>∃a,x=.ref a/\IsD H1 a/\ty σ H1 fun y H2=>tx σ H2 fun z H3=>∃o,DGet H3 a y o/\Q (o.getD z) H3:=rfl
theorem sR{K:PySem.W.Frag}{te tst:TE}{σ:St}{H:Hp}{Q:VK}:Ca K te tst σ H Q=te σ H fun x H1=>tst σ H1 fun y H2=>∃a xs,x=.ref a/\y=.int (-1)/\SqL K H2 a xs/\∀l,H2 l=none->Q (.ref l) (upd H2 l (.lst xs.reverse)):=rfl
end L2
variable {X:Cx} {apos pos':Pos} {es:List Expr} {f:Addr} {iter o:Expr} {ps:List Str} {qual:Str} {sp:Sp} {tA:TT} {ta te:TE} {wi:TI}
namespace L2
open PySem PySem.Spec PyProof.Rows
structure XE(X:Cx)(e:Expr)(t:TE):Prop where
 h:PE X e t
structure XT(X:Cx)(e:Expr)(t:TT):Prop where
 h:PT X e t
structure XW(X:Cx)(e:Expr)(t:TT):Prop where
 h:PW X e t
structure XA(X:Cx)(es:List Expr)(t:TA):Prop where
 h:PA X es t
structure XS(X:Cx)(st:Stmt)(t:TS):Prop where
 h:PS X st t
structure XSs(X:Cx)(st:List Stmt)(t:TS):Prop where
 h:PSs X st t
structure XG(X:Cx)(target:Expr)(t:TG):Prop where
 h:PG X target t
structure XGs(X:Cx)(ts:List Expr)(t:TGs):Prop where
 h:PGs X ts t
structure XI(X:Cx)(tg iter:Expr)(wi:TI):Prop where
 h:PI X tg iter wi
structure XO(X:Cx)(e:Option Expr)(t:TO):Prop where
 h:PO X e t
structure XC(X:Cx)(op:CmpOp)(a b:Expr)(t:TE):Prop where
 h:PC X op a b t
structure v0(X:Cx)(ifs:List Expr)(t:TT):Prop where
 h:mR X ifs t
theorem ad{i j pos}:XE X (.Constant (.int i) j pos) (tC (.int i)):=⟨wn⟩
theorem bL{b j pos}:XE X (.Constant (.bool b) j pos) (tC (.bl b)):=⟨A7⟩
theorem fh{j pos}:XE X (.Constant .none j pos) (tC .non):=⟨wu⟩
theorem aC{x j pos}:XE X (.Constant (.str x) j pos) (tC (.str x)):=⟨ww⟩
theorem ak{X:Cx}{a b:Expr}{tb:TE}{pos:Pos}{op:Operator}{r:R2}(ho:OpR X (binaryOp op) r)(ha:XE X a ta)(hb:XE X b tb):XE X (.BinOp a op b pos) (tOp r ta tb):=⟨CF ho ha.h hb.h⟩
theorem rg{X:Cx}{a:Expr}{pos:Pos}{op:UnaryOp}{r:V->Hp->VK->Prop}(ho:UnR X (unaryOp op) r)(ha:XE X a ta):XE X (.UnaryOp op a pos) (tUn r ta):=⟨CH ho ha.h⟩
theorem aY{X:Cx}{a b:Expr}{tb:TE}{pos:Pos}{op:CmpOp}{r:R2}(ho:OpR X (compareOp op) r)(ha:XE X a ta)(hb:XE X b tb)(hm:behindInMarks op b=false):XE X (.Compare a [op] [b] pos) (tOp r ta tb):=⟨zk ho ha.h hb.h hm⟩
theorem cq{X:Cx}{a b:Expr}{tb:TE}{pos:Pos}{cr:List Expr}(ha:XE X a ta)(hb:XE X (.BoolOp .And (b :: cr) pos) tb):XE X (.BoolOp .And (a :: b :: cr) pos) (xO ta tb):=⟨Bq ha.h hb.h⟩
theorem yg{X:Cx}{a b:Expr}{tb:TE}{pos:Pos}{cr:List Expr}(ha:XE X a ta)(hb:XE X (.BoolOp .Or (b :: cr) pos) tb):XE X (.BoolOp .Or (a :: b :: cr) pos) (C9 ta tb):=⟨CG ha.h hb.h⟩
theorem cM{X:Cx}{a:Expr}{pos:Pos}{op}{t:TE}(h:XE X a t):XE X (.BoolOp op [a] pos) t:=⟨Bu h.h⟩
theorem zZ{X:Cx}{a:Expr}{pos:Pos}(ha:XE X a ta):XE X (.UnaryOp .Not a pos) (xW ta):=⟨Bt ha.h⟩
theorem iq{X:Cx}{a b:Expr}{tb:TE}{pos:Pos}{c:Expr}(hc:XT X c tA)(ha:XE X a ta)(hb:XE X b tb):XE X (.IfExp c a b pos) (tIf tA ta tb):=⟨wm hc.h ha.h hb.h⟩
theorem aI{X:Cx}{es:List Expr}{t:TA}{pos:Pos}(h:XA X es t):XE X (.List es pos) (C7 t):=⟨Bs h.h⟩
theorem aE{X:Cx}{es:List Expr}{t:TA}{pos:Pos}{x1}(h:XA X es t):XE X (.Tuple es x1 pos) (Cb t):=⟨Bv h.h⟩
theorem aq{X:Cx}{x:Str}{p pos:Pos}{e:Expr}{es:List Expr}{t:TA}{id:String}{r:List V->Hp->VK->Prop}(hc:cw X (.builtin id) r)(hg:Gl X x)(hm:X.mg x=none)(hv:bootBuiltins x=some (.builtin id))(ha:XA X (e :: es) t)(hn:(x == ("__name__":Str))=false:=by kernel_rfl) (hdb:(x == ("__debug__":Str))=false:=by kernel_rfl) (he:starEach (e :: es) X.env=(false,eval e X.env) :: starEach es X.env:=by rfl) (hpl:(backTo pos (starEach es X.env)).any (·.1)=false:=by rfl):XE X (.Call (.Name x p) (e :: es) [] pos) (tCB r t):=⟨wC hc hg hm hv ha.h hn hdb he hpl⟩
theorem bO{X:Cx}{x:Str}{p pos:Pos}{e:Expr}{es:List Expr}{t:TA}{T:String}{r:List V->Hp->VK->Prop}(hc:cw X (.type T) r)(hg:Gl X x)(hm:X.mg x=none)(hv:bootBuiltins x=some (.type T))(ha:XA X (e :: es) t)(hn:(x == ("__name__":Str))=false:=by kernel_rfl) (hdb:(x == ("__debug__":Str))=false:=by kernel_rfl) (he:starEach (e :: es) X.env=(false,eval e X.env) :: starEach es X.env:=by rfl) (hpl:(backTo pos (starEach es X.env)).any (·.1)=false:=by rfl):XE X (.Call (.Name x p) (e :: es) [] pos) (tCB r t):=⟨uz hc hg hm hv ha.h hn hdb he hpl⟩
theorem am{X:Cx}{k:Nat}{f:Addr}{fd:FuncData}{ps:List Str}{x:Str}{st:Stmt}{p pos:Pos}{e:Expr}{es:List Expr}{t:TA}(D:b9 X.K X.mg x st ps f fd)(G:FnOk X.prog X.w X.K X.mg X.base CX0 k f fd ps sp)(hr:Room k X.A)(ha:XA X (e :: es) t)(hg:Gl X x)(hdb:(x == ("__debug__":Str))=false:=by kernel_rfl) (he:starEach (e :: es) X.env=(false,eval e X.env) :: starEach es X.env:=by rfl) (hpl:(backTo pos (starEach es X.env)).any (·.1)=false:=by rfl):XE X (.Call (.Name x p) (e :: es) [] pos) (pY sp [] E0 t):=⟨wD D G hr ha.h hg hdb he hpl⟩
theorem bM{X:Cx}{o e:Expr}{es:List Expr}{to:TE}{t:TA}{name:Str}{cpos:Pos}{T id:String}{r:V->List V->Hp->VK->Prop}(pa:PlainAttrs T)(slot:Slot T name id)(hty:typeOf (.builtin id)=pure (.type "method_descriptor")) (hm:MtR X id r) (ho:XE X o to) (ha:XA X (e :: es) t) (hbase:attributeBase o name X.env (eval o X.env)=eval o X.env:=by rfl) (hfew:((backTo cpos (starEach (e :: es) X.env)).all (fun x=>!x.1) && (backToKw cpos (keywordEach [] X.env)).all (fun x=>x.1.isSome)
 && decide ((e :: es).length+([]:List Keyword).length+(if ([]:List Keyword).isEmpty then 0 else 1) < 30))=true:=by rfl) (hline:(apos.endLine == cpos.line)=true:=by rfl) (hs:starEach (e :: es) X.env=(false,eval e X.env) :: starEach es X.env:=by rfl) (hplain:(backTo cpos (starEach es X.env)).any (·.1)=false:=by rfl):XE X (.Call (.Attribute o name apos) (e :: es) [] cpos) (tBM X.K T r to t):=⟨CC pa slot hty hm ho.h ha.h hbase hfew hline hs hplain⟩
theorem bi{X:Cx}{e:Expr}{lo hi:Option Expr}{tl th:TO}{pos p2:Pos}{r:V->Option Int->Option Int->Hp->VK->Prop}(hr:SlR X r)(he:XE X e te)(hl:XO X lo tl)(hu:XO X hi th):XE X (.Subscript e (.Slice lo hi none p2) pos) (tSl r te tl th):=⟨wv hr he.h hl.h hu.h⟩
theorem yf{X:Cx}{o i:Expr}{pos:Pos}{td ty:TE}(hu:X.A.units+1 < cLine)(ho:XE X o td)(hi:XE X i ty)(hs:AQ i):XE X (.Subscript o i pos) (xR td ty):=⟨zl hu ho.h hi.h hs⟩
theorem aj{X:Cx}{a b:Expr}{tb:TE}{pos:Pos}{r:R2}(hr:IxR X r)(ha:XE X a ta)(hb:XE X b tb)(hs:rq b):XE X (.Subscript a b pos) (tOp r ta tb):=⟨CD hr ha.h hb.h hs⟩
theorem bS{X:Cx}{e:Expr}{f:Str}{pos:Pos}(he:XE X e ta)(hb:attributeBase e f X.env (eval e X.env)=eval e X.env):XE X (.Attribute e f pos) (C5 X.K ta f):=⟨Br he.h hb⟩
theorem b7{X:Cx}{elt iter tgt:Expr}{ifs:List Expr}{pos:Pos}{scope:Scope}{g:Bk->TG}{tt:Bk->TT}{te:Bk->TE}{tns cns:List Str}{ci:List Nat}(hc:X.calm=true)(S:CompSc X scope cns ci)(hi:XI X tgt iter wi)(hg:∀bk:Bk,XG (X.blk (".0" :: (tns ++ cns)) scope bk) tgt (g bk)) (ht:∀bk:Bk,v0 (X.blk (".0" :: (tns ++ cns)) scope bk) ifs (tt bk)) (he:∀bk:Bk,XE (X.blk (".0" :: (tns ++ cns)) scope bk) elt (te bk)) (hs:∀v,foldedSetIterable iter X.env v=pure v:=by intro _;rfl):XE X (.ListComp elt [⟨tgt,iter,ifs,0⟩] scope pos) (ky wi g tt te tns.length ci):=⟨wg hc S hi.h (fun bk=>(hg bk).h) (fun bk=>(ht bk).h) (fun bk=>(he bk).h) hs⟩
theorem bI{X:Cx}{x:Str}{v:V}{u:Value}{pos:Pos}(hg:Gl X x)(hm:X.mg x=none)(hv:bootBuiltins x=some u)(r:RelV v u)(hn:(x == ("__name__":Str))=false:=by kernel_rfl) (hd:(x == ("__debug__":Str))=false:=by kernel_rfl):XE X (.Name x pos) (tC v):=⟨zC hg hm hv r hn hd⟩
theorem yi{X:Cx}{x:Str}{v:V}{u:Value}{pos:Pos}(hg:Gl X x)(hm:X.mg x=some u)(r:RelV v u)(hd:(x == ("__debug__":Str))=false:=by kernel_rfl):XE X (.Name x pos) (tC v):=⟨zD hg hm r hd⟩
theorem ap{X:Cx}{a b:Expr}{tb:TE}{pos:Pos}{op:CmpOp}{r:R2}(ho:OpR X (compareOp op) r)(ha:XE X a ta)(hb:XE X b tb)(hm:behindInMarks op b=false):XT X (.Compare a [op] [b] pos) (xY (tOp r ta tb)):=⟨zA ho ha.h hb.h hm⟩
theorem b8{X:Cx}{e:Expr}{t:TE}(h:XE X e t)(he:∀whole,isTrue e X.env whole=(do let v <- whole;standAt e.pos;holding [v] (truthy v)):=by intro _;rfl):XT X e (tB t):=⟨BM h.h he⟩
theorem bu{X:Cx}{a:Expr}{pos:Pos}(ha:XT X a tA):XT X (.UnaryOp .Not a pos) (C8 tA):=⟨BL ha.h⟩
theorem A2{X:Cx}{a b:Expr}{pos:Pos}{op:CmpOp}{t:TE}(h:XC X op a b t)(h1:behindInMarks op b=false:=by first | exact oi _ (by decide) (by decide) | rfl):XT X (.Compare a [op] [b] pos) (tB t):=⟨BK h.h h1⟩
theorem bG{X:Cx}{e:Expr}{t:TT}(h:XW X e t):XT X e t:=⟨PW.pt h.h⟩
theorem fi{X:Cx}{a b:Expr}{pos:Pos}{tB':TT}{cr:List Expr}(ha:XT X a tA)(hb:XW X (.BoolOp .And (b :: cr) pos) tB'):XW X (.BoolOp .And (a :: b :: cr) pos) (C1 tA tB'):=⟨BO ha.h hb.h⟩
theorem dE{X:Cx}{a:Expr}{pos:Pos}(ha:XT X a tA):XW X (.BoolOp .And [a] pos) tA:=⟨zB ha.h⟩
theorem bH{X:Cx}{a b:Expr}{pos:Pos}{tB':TT}{cr:List Expr}(ha:XT X a tA)(hb:XW X (.BoolOp .Or (b :: cr) pos) tB'):XW X (.BoolOp .Or (a :: b :: cr) pos) (tOr tA tB'):=⟨CJ ha.h hb.h⟩
theorem bT{X:Cx}{a:Expr}{pos:Pos}(ha:XT X a tA):XW X (.BoolOp .Or [a] pos) tA:=⟨BP ha.h⟩
theorem ac:XA X [] mG:=⟨w9⟩
theorem aa{X:Cx}{e:Expr}{es:List Expr}{t:TA}(ha:XE X e te)(hr:XA X es t)(hs:starEach (e :: es) X.env=(false,eval e X.env) :: starEach es X.env:=by rfl):XA X (e :: es) (xQ te t):=⟨sv ha.h hr.h hs⟩
theorem bW:XO X none mH:=⟨zt⟩
theorem bd{X:Cx}{e:Expr}(h:XE X e te):XO X (some e) (xX te):=⟨zu h.h⟩
theorem aA{pos:Pos}{i:Nat}{x:Str}(hN:X.N.Nodup)(hi:X.N[i]?=some x)(hx:Loc X.env.scope x)(hf:X.fn x=true\/X.env.scope.names.lookup x=some .local:=by first | exact .inl rfl | exact .inr rfl | assumption):XG X (.Name x pos) (aQ i):=⟨sy hN hi hx hf⟩
theorem mM{X:Cx}{pos:Pos}{es:List Expr}{k:Nat}{t:TGs}{n:Nat}(hc:X.calm=true)(h:XGs X es t)(hn:(assignEach es X.env).length=n:=by rfl)(hst:(assignEach es X.env).findIdx? (·.1)=none:=by rfl):XG X (.Tuple es k pos) (B0 X.K n t):=⟨BA hc h.h hn hst⟩
theorem kC:XGs X [] AY:=⟨zo⟩
theorem cP{X:Cx}{e:Expr}{es:List Expr}{t:TG}{u:TGs}(h1:XG X e t)(h2:XGs X es u)(hs:(assignEach (e :: es) X.env).map (·.2)=assign e X.env :: (assignEach es X.env).map (·.2):=by rfl):XGs X (e :: es) (vo t u):=⟨wx h1.h h2.h hs⟩
theorem mL{X:Cx}{pos:Pos}{o i:Expr}{to ti:TE}{t:uZ}(ho:XE X o to)(hi:XE X i ti)(hs:AS X t)(ha:∀v,assign (.Subscript o i pos) X.env v=(do
 let ov <- holding [v] (eval o X.env)
 let iv <- holding [v,ov] (eval i X.env)
 standAt pos
 holding [v,ov,iv] (setItem ov iv v)
 release [v,ov,iv] []):=by intro _;rfl):XG X (.Subscript o i pos) (AZ to ti t):=⟨Bz ho.h hi.h hs ha⟩
theorem bV{X:Cx}{tg:Expr}{a:Expr}{ta:TA}{p pos:Pos}(hg:Gl X "range") (hm:X.mg "range"=none) (ha:XA X [a] ta) (hs:starEach [a] X.env=[(false,eval a X.env)]:=by rfl):XI X tg (.Call (.Name "range" p) [a] [] pos) (vw ta):=⟨uw hg hm ha.h hs⟩
theorem rj{X:Cx}{tg:Expr}{a b:Expr}{ta:TA}{p pos:Pos}(hg:Gl X "range") (hm:X.mg "range"=none) (ha:XA X [a,b] ta) (hs:starEach [a,b] X.env=[(false,eval a X.env),(false,eval b X.env)]:=by rfl) (hs2:starEach [b] X.env=[(false,eval b X.env)]:=by rfl):XI X tg (.Call (.Name "range" p) [a,b] [] pos) (vx ta):=⟨ux hg hm ha.h hs hs2⟩
theorem yh{X:Cx}{a:Expr}{ta:TA}{p pos pos0:Pos}{elts:List Expr}{k0:Nat}(hm:X.mg "enumerate"=none) (ha:XA X [a] ta) (hg:Gl X "enumerate":=by rfl) (hs:starEach [a] X.env=[(false,eval a X.env)]:=by rfl):XI X (.Tuple elts k0 pos0) (.Call (.Name "enumerate" p) [a] [] pos) (vt X.K ta):=⟨zq hm ha.h hg hs⟩
theorem aO{X:Cx}{tg:Expr}{l:Expr}{tl:TE}(hl:XE X l tl):XI X tg l (vv X.K tl):=⟨zr hl.h⟩
theorem iX{X:Cx}{tg:Expr}{l:Expr}{tl:TE}(hl:XE X l tl):XI X tg l (B4 X.K tl):=⟨BC hl.h⟩
theorem ar{X:Cx}{pos:Pos}{i:Nat}{x:Str}{e:Expr}(hN:X.N.Nodup)(hi:X.N[i]?=some x)(hx:Loc X.env.scope x)(he:XE X e te)(hs:swapsWith e (some (.Name x pos')) pos.line X.env=pure false:=by rfl)(hf:X.fn x=true\/X.env.scope.names.lookup x=some .local:=by first | exact .inl rfl | exact .inr rfl | assumption):XS X (.Assign [.Name x pos'] e pos) (xP te (aQ i)):=⟨BJ hN hi hx he.h hs hf⟩
theorem ce{X:Cx}{i:Nat}{x:Str}{px:Pos}{elt iter tgt:Expr}{ifs:List Expr}{pos:Pos}{scope:Scope}{g:Bk->TG}{tt:Bk->TT}{te:Bk->TE}{tns cns:List Str}{ci:List Nat}(hN:X.N.Nodup)(hx:X.N[i]?=some x)(hl:Loc X.env.scope x)(hf:X.fn x=true)(hsw:swapsWith (.ListComp elt [⟨tgt,iter,ifs,0⟩] scope pos) (some (.Name x px)) pos'.line X.env=pure true)(hc:X.calm=true)(S:CompSc X scope cns ci)(hi:XI X tgt iter wi)(hg:∀bk:Bk,XG (X.blk (".0" :: (tns ++ cns)) scope bk) tgt (g bk)) (ht:∀bk:Bk,v0 (X.blk (".0" :: (tns ++ cns)) scope bk) ifs (tt bk)) (he:∀bk:Bk,XE (X.blk (".0" :: (tns ++ cns)) scope bk) elt (te bk)) (hs:∀v,foldedSetIterable iter X.env v=pure v:=by intro _;rfl):XS X (.Assign [.Name x px] (.ListComp elt [⟨tgt,iter,ifs,0⟩] scope pos) pos') (kh i wi g tt te tns.length ci):=⟨qL hN hx hl hf hsw hc S hi.h (fun bk=>(hg bk).h) (fun bk=>(ht bk).h) (fun bk=>(he bk).h) hs⟩
theorem mN{X:Cx}{pos:Pos}{tg e:Expr}{g:TG}(he:XE X e te)(hg:XG X tg g)(hs:swapsWithSole [tg] e pos.line X.env=pure false:=by rfl)(hw:swappedStores [tg] e X.env=pure none:=by rfl)(h1:(assignEach [tg] X.env).map (·.2)=[assign tg X.env]:=by rfl):XS X (.Assign [tg] e pos) (xP te g):=⟨BF he.h hg.h hs hw h1⟩
theorem db{X:Cx}{o value:Expr}{f:Str}{pos:Pos}{tv:TE}(ha:XE X o ta)(hv:XE X value tv)(hs:swapsWith value (some (.Attribute o f pos')) pos.line X.env=pure false):XS X (.Assign [.Attribute o f pos'] value pos) (BY X.K ta tv f):=⟨BG ha.h hv.h hs⟩
theorem ao{X:Cx}{e:Expr}{pos:Pos}(he:XE X e te):XS X (.Return (some e) pos) (uO te):=⟨BI he.h⟩
theorem bg{X:Cx}{e:Expr}{pos:Pos}(he:XE X e te)(hs:swapsWith e none pos.line X.env=pure false:=by rfl):XS X (.Expr e pos) (xS te):=⟨zw he.h hs⟩
theorem aD{X:Cx}{t u:TS}{pos:Pos}{c:Expr}{a b:List Stmt}{tc:TT}(hc:XT X c tc)(ha:XSs X a t)(hb:XSs X b u):XS X (.If c a b pos) (zS tc t u):=⟨CI hc.h ha.h hb.h⟩
theorem lS{X:Cx}{pos:Pos}{c:Expr}{body:List Stmt}{tc:TT}{tb:TS}(hp:PassesOwn (model X.prog X.w) X.A X.env X.xe)(hc:XT X c tc)(hb:XSs X body tb):XS X (.While c body [] pos) (xZ tc tb):=⟨wA hp hc.h hb.h⟩
theorem bB{X:Cx}{tg:Expr}{iter:Expr}{body:List Stmt}{g:TG}{tb:TS}{pos:Pos}(hp:PassesOwn (model X.prog X.w) X.A X.env X.xe)(hc:X.calm=true)(hi:XI X tg iter wi)(hg:XG X tg g)(hb:XSs X body tb)(hs:∀x,foldedSetIterable iter X.env x=pure x:=by intro _;rfl):XS X (.For tg iter body [] pos) (C6 wi g tb):=⟨BH hp hc hi.h hg.h hb.h hs⟩
theorem ay:XSs X [] xV:=⟨zy⟩
theorem ag{X:Cx}{st:Stmt}{t:TS}(h1:XS X st t):XSs X [st] t:=⟨zz h1.h⟩
theorem af{X:Cx}{st:Stmt}{cr:List Stmt}{t u:TS}(h1:XS X st t)(h2:XSs X cr u):XSs X (st :: cr) (zU t u):=⟨wB h1.h h2.h⟩
theorem bj{X:Cx}{st:Stmt}{ss:List Stmt}{ta tb:TS}(h1:XS X st ta)(h2:XSs X ss tb):XSs X (st :: ss) (zT ta tb):=⟨zx h1.h h2.h⟩
theorem bN:v0 X [] fu:=⟨Bx⟩
theorem da{X:Cx}{c:Expr}{t:TT}(h:XT X c t):v0 X [c] t:=⟨By h.h⟩
theorem rb{X:Cx}{o i:Expr}{td ty:TE}(hu:X.A.units+1 < cLine)(hi:XE X i ty)(ho:XE X o td):XC X .NotIn i o (mE ty td):=⟨uo hu hi.h ho.h⟩
theorem D0{X:Cx}{CX:CXT}{k:Nat}{f C:Addr}{fd:FuncData}{ps:List Str}{dvs:List V}{ds:List Value}{E:XK}{m:Str}{pos:Pos}{e o:Expr}{es:List Expr}{t:TA}{pl:Sem Bool}(he:XE X o ta)(c:Cls X.K C)(hm:tI X.K C m f)(F:FnOk X.prog X.w X.K X.mg X.base CX k f fd ps sp)(hr:Room k X.A)(hb:Binds X.K fd ps ds)(hd:Vals dvs ds)(hx:dF CX X E)(ha:XA X (e :: es) t)(hst:starEach (e :: es) X.env=(false,eval e X.env) :: starEach es X.env:=by rfl)(hpl:(backTo pos (starEach es X.env)).any (·.1)=false:=by rfl)(ht:eval (.Call (.Attribute o m apos) (e :: es) [] pos) X.env=(do
 let ov <- eval o X.env
 standAt apos.atName
 let (f,first) <- holding [ov] (getMethod ov m pl)
 callWith pos f first (backTo pos (starEach (e :: es) X.env)) (backToKw pos (keywordEach [] X.env))):=by rfl):XE X (.Call (.Attribute o m apos) (e :: es) [] pos) (hW C m sp dvs E ta t):=⟨sw he.h c hm F hr hb hd hx ha.h hst hpl ht⟩
theorem lT{X:Cx}{k:Nat}{f C:Addr}{fd:FuncData}{ps:List Str}{x qual:Str}{st:Stmt}{p pos:Pos}{e:Expr}{es:List Expr}{t:TA}(c:KlsAt X.K X.mg x C)(D:bm X.K C "__init__" qual st ps f fd) (G:FnOk X.prog X.w X.K X.mg X.base CX0 k f fd ps sp) (hr:Room (k+1) X.A) (ha:XA X (e :: es) t) (hg:Gl X x) (hdb:(x == ("__debug__":Str))=false:=by kernel_rfl) (he:starEach (e :: es) X.env=(false,eval e X.env) :: starEach es X.env:=by rfl) (hpl:(backTo pos (starEach es X.env)).any (·.1)=false:=by rfl):XE X (.Call (.Name x p) (e :: es) [] pos) (iK C sp [] E0 t):=⟨wF c D G hr ha.h hg hdb he hpl⟩
theorem rm{X:Cx}{k:Nat}{f C:Addr}{fd:FuncData}{ps:List Str}{x qual:Str}{st:Stmt}{p pos:Pos}(c:KlsAt X.K X.mg x C)(D:bm X.K C "__init__" qual st ps f fd) (G:FnOk X.prog X.w X.K X.mg X.base CX0 k f fd ps sp) (hr:Room (k+1) X.A) (hg:Gl X x) (hdb:(x == ("__debug__":Str))=false:=by kernel_rfl):XE X (.Call (.Name x p) [] [] pos) (iK C sp [] E0 mG):=⟨uA c D G hr hg hdb⟩
theorem aM{X:Cx}{k:Nat}{f C:Addr}{fd:FuncData}{ps:List Str}{m qual:Str}{st:Stmt}{pos:Pos}{e o:Expr}{es:List Expr}{t:TA}{pl:Sem Bool}(c:Cls X.K C)(D:bm X.K C m qual st ps f fd)(G:FnOk X.prog X.w X.K X.mg X.base CX0 k f fd ps sp)(hr:Room k X.A)(he:XE X o ta)(ha:XA X (e :: es) t)(hst:starEach (e :: es) X.env=(false,eval e X.env) :: starEach es X.env:=by rfl)(hpl:(backTo pos (starEach es X.env)).any (·.1)=false:=by rfl)(ht:eval (.Call (.Attribute o m apos) (e :: es) [] pos) X.env=(do
 let ov <- eval o X.env
 standAt apos.atName
 let (f,first) <- holding [ov] (getMethod ov m pl)
 callWith pos f first (backTo pos (starEach (e :: es) X.env)) (backToKw pos (keywordEach [] X.env))):=by rfl):XE X (.Call (.Attribute o m apos) (e :: es) [] pos) (hW C m sp [] E0 ta t):=⟨wG c D G hr he.h ha.h hst hpl ht⟩
theorem kD{X:Cx}{k:Nat}{f C:Addr}{fd:FuncData}{ps:List Str}{m qual:Str}{st:Stmt}{pos:Pos}{o:Expr}{pl:Sem Bool}(c:Cls X.K C)(D:bm X.K C m qual st ps f fd)(G:FnOk X.prog X.w X.K X.mg X.base CX0 k f fd ps sp)(hr:Room k X.A)(he:XE X o ta)(ht:eval (.Call (.Attribute o m apos) [] [] pos) X.env=(do
 let ov <- eval o X.env
 standAt apos.atName
 let (f,first) <- holding [ov] (getMethod ov m pl)
 callWith pos f first (backTo pos (starEach [] X.env)) (backToKw pos (keywordEach [] X.env))):=by rfl):XE X (.Call (.Attribute o m apos) [] [] pos) (hW C m sp [] E0 ta mG):=⟨uB c D G hr he.h ht⟩
theorem c5{es:List Expr}{vs:List V}(h:iR es=some vs):XA X es (tVs vs):=⟨ou h⟩
end L2
namespace L2
open PySem PySem.Spec PyProof.Rows
theorem A0  {X:Cx} {tg a:Expr} {ta:TA} {p pos:Pos} (hm:X.mg "reversed"=none) (ha:XA X [a] ta) (hg:Gl X "reversed":=by rfl) (hs:starEach [a] X.env=[(false,eval a X.env)]:=by rfl):XI X tg (.Call (.Name "reversed" p) [a] [] pos) (B3 X.K ta):=⟨BB hm ha.h hg hs⟩
end L2
variable {H:Hp} {σ:St}
namespace L2
open PySem PySem.Spec PyProof.Rows
section
variable {X:Cx}
def yP(i:Int)(n:Nat):Nat:=if i < 0 then (i+n).toNat else min i.toNat n
def zE:V->List V->Hp->VK->Prop:=fun x vs H Q=>∃l xs i y,x=.ref l/\vs=[.int i,y]/\H l=some (.lst xs)/\-(2 ^ 63)<=i/\i < 2 ^ 63/\xs.length < sizeLine/\Q .non (upd H l (.lst (xs.take (yP i xs.length) ++ y :: xs.drop (yP i xs.length))))
def yF(x:V)(xs:List V):Nat:=xs.countP fun y=>eqV y x
def wH(K:PySem.W.Frag):V->List V->Hp->VK->Prop:=fun x vs H Q=>∃l xs y,x=.ref l/\vs=[y]/\SqL K H l xs/\bz y=true/\xs.all bz=true/\Q (.int (yF y xs)) H
theorem kY{x:V}:∀{xs:List V} {us:List Value},Vals xs us->xs.all bz=true->us.countP (eqU x)=xs.countP fun y=>eqV y x
 | _,_,.nil,_=>rfl
 | x' :: xs,_,.cons h t,f=>by
  rw [List.all_cons,Bool.and_eq_true] at f
  rw [List.countP_cons,List.countP_cons,kY t f.2,qz h f.1]
theorem vI:MtM X "list.count" (wH X.K):=by
 intro pins s σ H x vs v us Q I rx rv h
 obtain ⟨l,xs,y,rfl,rfl,hq,fy,fx,q⟩:=h
 cases rx
 obtain ⟨u,rfl,ru⟩:=rv.one
 obtain ⟨its,r,pl,_⟩:=I.list hq
 obtain ⟨o,n,e,c,hd,hdt⟩:=id pl
 obtain ⟨oc,od,odt,osl⟩:=o
 simp only at c hd hdt
 subst c hd hdt
 refine call_meets F.slot_list_count ⟨_,e,rfl⟩ F.entry_list_count (F.args_list_count_2 _ _) (SeqAt.list_countAt l its.toArray n none osl u (eqU y)) ⟨e,fun z hz=>dk ru fy r fx z (by simpa using hz),?_⟩
 rw [show its.toArray.toList=its from rfl,kY r fx]
 exact ⟨.int _,H,I.tok _,⟨_,rfl⟩,q⟩
def xU(ta:TA):TE:=fun σ H Q=>ta σ H fun vs H1=>∃n:Nat,vs=[.int n]/\n<=1000/\∀l,H1 l=none->Q (.ref l) (upd H1 l (.lst ((List.range n).map fun i:Nat=>V.int i)))
theorem u8{acc:Array Value}{n:Nat}(h:ItemsOf (fun i v=>∃t,v=Value.int (0+(i:Int) * 1) t) acc n):Vals ((List.range n).map fun i:Nat=>V.int i) acc.toList:=by
 obtain ⟨h1,h2⟩:=h
 subst h1
 rw [<- Array.length_toList]
 have g:∀(l:List Value)(k:Nat),(∀(i:Nat)v,l[i]?=some v->∃t,v=Value.int ((k+i:Nat):Int) t)->Vals ((List.range' k l.length).map fun i:Nat=>V.int i) l:=by
  intro l
  induction l with
  | nil=>intro k _;exact .nil
  | cons a l ih=>
   intro k hl
   refine .cons ?_ (ih (k+1) fun i v hv=>?_)
   ·obtain ⟨t,e⟩:=hl 0 a rfl
    exact ⟨t,e⟩
   ·obtain ⟨t,e⟩:=hl (i+1) v hv
    exact ⟨t,by rw [e];congr 1;omega⟩
 have z:=g acc.toList 0 fun i v hv=>by
  obtain ⟨t,e⟩:=h2 i v (by rw [<- hv,Array.getElem?_toList])
  exact ⟨t,by rw [e];congr 1;omega⟩
 rw [List.range_eq_range']
 exact z
theorem lD{ta:TA}{Q:VK}:xU ta σ H Q=ta σ H fun vs H1=>∃n:Nat,vs=[.int n]/\n<=1000/\∀l,H1 l=none->Q (.ref l) (upd H1 l (.lst ((List.range n).map fun i:Nat=>V.int i))):=rfl
end
def B8(pr:Params):Key->Int
 | .inl k=>hashInt k
 | .inr x=>if x.cps.isEmpty=true then 0 else reduceHash (pr.strHash x.cps)
def mP(K:PySem.W.Frag)(pr:Params)(a:Addr)(kvs:List (Key×V)):Prop:=∃(es:List DictEntry)(ep:Nat),K.lookup a=some ⟨.type "dict",none,.dict es.toArray ep,#[]⟩/\(a == sysModules)=false/\(kvs.map (·.1)).Nodup/\Paired (fun (kv:Key×V) (e:DictEntry)=>iB kv.1 e.key=true/\e.hash=B8 pr kv.1/\RelV kv.2 e.val) kvs es
theorem iA{P:Program}{w:World}:∀{kvs:List (Key×V)} {es:List DictEntry},Paired (fun (kv:Key×V) (e:DictEntry)=>iB kv.1 e.key=true/\e.hash=B8 w.params kv.1/\RelV kv.2 e.val) kvs es->
  ∃vs:List (Key×Value),KV kvs vs/\Pairs (br P w) es vs/\∀e∈es,∃k,(br P w).is k e.key=true/\e.hash=(br P w).hash k
 | _,_,.nil=>⟨[],.nil,.nil,by simp⟩
 | kv :: kvs,e :: es,.cons h t=>by
  obtain ⟨vs,r,p,q⟩:=iA (P:=P) t
  obtain ⟨h1,h2,h3⟩:=h
  refine ⟨(kv.1,e.val) :: vs,.cons ⟨rfl,h3⟩ r,.cons h1 rfl p,fun e' he=>?_⟩
  rcases List.mem_cons.mp he with z | z
  ·subst z
   refine ⟨kv.1,h1,h2.trans ?_⟩
   obtain ⟨k,v⟩:=kv
   cases k <;> rfl
  ·exact q e' z
theorem nK{X:Cx}{pins:List (Addr×Obj)}{σ:St}{H:Hp}{s:Shared}{a:Addr}{kvs:List (Key×V)}{pr:Params}(hw:pr=X.w.params)(I:Inv X pins σ H s)(D:mP X.K pr a kvs):(a == sysModules)=false/\∃vs,KV kvs vs/\s.heap.DictOf (br X.prog X.w) a vs:=by
 subst hw
 obtain ⟨es,ep,hk,hd,nd,pr⟩:=D
 obtain ⟨vs,r,p,q⟩:=iA (P:=X.prog) pr
 refine ⟨hd,vs,r,_,es.toArray,ep,I.kIn a _ hk,⟨rfl,rfl,rfl⟩,rfl,fun e he=>q e (by simpa using he),p,?_⟩
 rw [<- r.keys]
 exact nd
def qY(kvs:List (Key×V))(ty:TE):TE:=fun σ H Q=>ty σ H fun y H1=>∃k,y=kV k/\Q ((d5 kvs k).getD .non) H1
section
variable {X:Cx} {e:Expr} {x:Str} {p apos cpos:Pos} {ty:TE} {a:Addr} {kvs:List (Key×V)} {pr:Params}
theorem wE(hw:pr=X.w.params)(D:mP X.K pr a kvs)(hm:X.mg x=some (.ref a))(hg:Gl X x)(he:PE X e ty)(m:M1 X (.Name x p) "get" apos e cpos) (hdb:(x == ("__debug__":Str))=false:=by kernel_rfl) :
  PE X (.Call (.Attribute (.Name x p) "get" apos) [e] [] cpos) (qY kvs ty):=by
 intro pins s σ H Q I h
 refine wpAny_Call_method m.base m.few m.line PySem.F.plainAttrs_dict PySem.F.slot_dict_get PySem.F.type_dict_get (gi I hg hm ?_ hdb)
 obtain ⟨hd,vs,rel,dd⟩:=nK hw I D
 refine ⟨dd.typeIs,fun b q=>?_,?_⟩
 ·cases q
  obtain ⟨ob,_,_,h1,h2,_⟩:=dd
  exact ⟨ob,h1,h2.2.1⟩
 rw [m.trees]
 refine Calls.callWith_builtin rfl (Calls.evalArgs_plain (Calls.spliced_cons (thn (he pins s σ H _ I h) fun iv s2 ⟨y,H2,I2,ry,k,ek,q2⟩=>Calls.spliced_nil ?_)))
 subst ek
 obtain ⟨hd,vs,rel,dd⟩:=nK hw I2 D
 refine call_meetsIn PySem.F.slot_dict_get dd.typeIs PySem.F.entry_dict_get (PySem.F.args_dict_get_2 _ _) (meets_dict_get (br X.prog X.w) a (sj ry) hd) ⟨_,dd.mapOf,⟨_,H2,I2.tok _,(rel.val k).getD (show RelV .non .none from rfl),q2⟩⟩
theorem uV(hw:pr=X.w.params)(D:mP X.K pr a kvs)(hm:X.mg x=some (.ref a))(hg:Gl X x)(he:XE X e ty)(m:M1 X (.Name x p) "get" apos e cpos) (hdb:(x == ("__debug__":Str))=false:=by kernel_rfl) :
  XE X (.Call (.Attribute (.Name x p) "get" apos) [e] [] cpos) (qY kvs ty):=⟨wE hw D hm hg he.h m hdb⟩
theorem gF{kvs:List (Key×V)}{ty:TE}{Q:VK}:qY kvs ty σ H Q=ty σ H fun y H1=>∃k,y=kV k/\Q ((d5 kvs k).getD .non) H1:=rfl
end
end L2
namespace L2
open PySem PySem.Spec PyProof.Rows
section
variable {prog:Program} {w:World} {A:Around} {E:Value->Shared->Prop} {s:Shared}
open AutoSeq1 (wpAny_loadPart') in
end
def Ci(K:PySem.W.Frag)(a:Addr):It:=
  ⟨fun i H=>∃xs x,SqT K H a xs/\xs[i]?=some x,
   fun i H x H'=>∃p y,x=.ref p/\H p=none/\H'=upd H p (.tup [.int i,y])/\∀xs,SqT K H a xs->xs[i]?=some y,
   fun i H=>∃xs,SqT K H a xs/\xs.length<=i⟩
def B2(K:PySem.W.Frag)(ta:TA):TI:=fun σ H R=>ta σ H fun vs H1=>∃a,vs=[.ref a]/\(∃xs,SqT K H1 a xs)/\R (Ci K a) H1
theorem oK{K:PySem.W.Frag}{ta:TA}{σ:St}{H:Hp}{R:It->Hp->Prop}:B2 K ta σ H R=ta σ H fun vs H1=>∃a,vs=[.ref a]/\(∃xs,SqT K H1 a xs)/\R (Ci K a) H1:=rfl
section
variable {K:PySem.W.Frag} {a:Addr} {xs:List V}
end
section
variable {K:PySem.W.Frag} {a b:Addr} {H:Hp} {Q:VK}
theorem eN:sE K [.ref a] H Q=∃ns:List Int,SqL K H a (ns.map V.int)/\ns.length < 64/\∀(l:Addr)(ns':List Int),H l=none->ns'.Perm ns->ns'.Pairwise (·<=·)->Q (.ref l) (upd H l (.lst (ns'.map V.int))):=propext ⟨by rintro ⟨_,ns,e,q⟩;cases e;exact ⟨ns,q⟩,by rintro ⟨ns,q⟩;exact ⟨a,ns,rfl,q⟩⟩
theorem Ac:Da K [.ref a] H Q=∃bs:List Bool,SqL K H a (bs.map V.bl)/\Q (.bl (bs.all id)) H:=propext ⟨by rintro ⟨_,ns,e,q⟩;cases e;exact ⟨ns,q⟩,by rintro ⟨ns,q⟩;exact ⟨a,ns,rfl,q⟩⟩
theorem oz:CK K [.ref a] H Q=∃bs:List Bool,SqL K H a (bs.map V.bl)/\Q (.bl (bs.any id)) H:=propext ⟨by rintro ⟨_,ns,e,q⟩;cases e;exact ⟨ns,q⟩,by rintro ⟨ns,q⟩;exact ⟨a,ns,rfl,q⟩⟩
theorem oN{i:Int}{y:V}:zE (.ref a) [.int i,y] H Q=∃xs,H a=some (.lst xs)/\-(2 ^ 63)<=i/\i < 2 ^ 63/\xs.length < sizeLine/\Q .non (upd H a (.lst (xs.take (yP i xs.length) ++ y :: xs.drop (yP i xs.length)))):=propext ⟨by rintro ⟨_,xs,_,_,e1,e2,q⟩;cases e1;cases e2;exact ⟨xs,q⟩,by rintro ⟨xs,q⟩;exact ⟨a,xs,i,y,rfl,rfl,q⟩⟩
theorem gu{y:V}:wH K (.ref a) [y] H Q=∃xs,SqL K H a xs/\bz y=true/\xs.all bz=true/\Q (.int (yF y xs)) H:=propext ⟨by rintro ⟨_,xs,_,e1,e2,q⟩;cases e1;cases e2;exact ⟨xs,q⟩,by rintro ⟨xs,q⟩;exact ⟨a,xs,y,rfl,rfl,q⟩⟩
theorem sQ{i:Int}:BS (.ref a) [.int i] H Q=∃xs k y,H a=some (.lst xs)/\-(2 ^ 63)<=i/\i < 2 ^ 63/\seqIndex? i xs.length=some k/\xs[k]?=some y/\Q y (upd H a (.lst (xs.eraseIdx k))):=propext ⟨by rintro ⟨_,xs,_,k,y,e1,e2,q⟩;cases e1;cases e2;exact ⟨xs,k,y,q⟩,by rintro ⟨xs,k,y,q⟩;exact ⟨a,xs,i,k,y,rfl,rfl,q⟩⟩
theorem lE:wI (.ref a) [] H Q=∃xs,H a=some (.lst xs)/\Q .non (upd H a (.lst xs.reverse)):=propext ⟨by rintro ⟨_,xs,e1,_,q⟩;cases e1;exact ⟨xs,q⟩,by rintro ⟨xs,q⟩;exact ⟨a,xs,rfl,rfl,q⟩⟩
theorem oG:sD (.ref a) [.ref b] H Q=∃xs zs,H a=some (.lst xs)/\H b=some (.lst zs)/\xs.length+zs.length<=sizeLine/\Q .non (upd H a (.lst (xs ++ zs))):=propext ⟨by rintro ⟨_,_,xs,zs,e1,e2,q⟩;cases e1;cases e2;exact ⟨xs,zs,q⟩,by rintro ⟨xs,zs,q⟩;exact ⟨a,b,xs,zs,rfl,rfl,q⟩⟩
end
end L2
namespace L2
open PySem PySem.Spec PyProof.Rows
def Cx.blkZ(X:Cx)(z0:Str)(N':List Str)(scope:Scope)(b:Bk):Cx:=
 {prog:=X.prog,w:=X.w,K:=X.K,mg:=X.mg,base:=X.base,A:=X.A,N:=N',s₀:=b.s₂,H₀:=b.H₂,env:=compEnvC scope ((z0,b.C+1) :: ck X.env.cells scope.names []) b.C X.env,outer:=X.stack,stack:=X.stack,ex:=b.fp,fn:=fun x=>x == z0,calm:=X.calm,pn:=[],xe:=fun _ _=>False}
theorem j1{X:Cx}{z0:Str}{N':List Str}{scope:Scope}{b:Bk}:(X.blkZ z0 N' scope b).K=X.K:=rfl
structure CompScZ(X:Cx)(z0:Str)(scope:Scope)(cns:List Str)(ci:List Nat):Prop where
 kind:scope.kind=.function
 names:∀y∈scope.names,y.2=.local->scope.names.lookup y.1=some .local
 free:∀y∈scope.names,y.2=.free->X.env.kindOf y.1=some .cell\/X.env.kindOf y.1=some .free
 cap:∀(j:Nat)x,cns[j]?=some x->∃i,ci[j]?=some i/\X.N[i]?=some x/\(x,NameKind.free)∈scope.names
 len:cns.length=ci.length
 noloc:∀y,(y,NameKind.free)∈scope.names->¬(relabel scope X.env).names.lookup y=some .local
 nofree:(z0,NameKind.free)∉scope.names
 seen:∀y,(relabel scope X.env).names.lookup y=some .cell\/(relabel scope X.env).names.lookup y=some .free->y=z0\/(y,NameKind.free)∈scope.names
 cells:∀n acc,cellsFrom n scope.names acc=(z0,n) :: acc
 push:∀h,pushCells h scope.names=h.push {cls:=.type "cell",data:=.cell none}
section
variable {M:Model} {A:Around} {E:Value->Shared->Prop} {s:Shared}
theorem iO{scope:Scope}{globals:Addr}{closure:List (Str×Addr)}{qual:Str}{outer:Env}{z0:Str}{Q:Env->Shared->Prop}
  (hc:∀n acc,cellsFrom n scope.names acc=(z0,n) :: acc) (hp:∀h,pushCells h scope.names=h.push {cls:=.type "cell",data:=.cell none})
  (hQ:Q {scope:=scope,locals:=s.heap.objs.size,globals:=globals,cells:=(z0,s.heap.objs.size+1) :: closure,qual:=qual,func:=none,code:=outer.code,frame:=outer.frame,builtins:=outer.builtins}
   {s with heap:=(s.heap.push {cls:=.type "dict",data:=.dict #[]}).push {cls:=.type "cell",data:=.cell none}}) :
  wpAny M A (newFunctionEnv scope globals closure [] qual none .none (some outer)) Q E s:=by
 simp only [newFunctionEnv,Option.isSome_some,if_true]
 refine wpAny_bind (wpAny_alloc ?_)
 refine wpAny_bind (wpAny_layCells _ (fun name kind cells=>by cases hkc:kind == NameKind.cell <;> simp [hkc]) _ _ _ _ ?_)
 rw [hc,hp,show ({s with heap:=s.heap.push {cls:=.type "dict",data:=.dict #[]}}:Shared).heap.objs.size=s.heap.objs.size+1 from Heap.size_push ..]
 refine wpAny_bind ?_
 rw [List.forIn_nil]
 exact wpAny_pure (wpAny_pure hQ)
end
theorem ql{X:Cx}{elt iter tgt:Expr}{ifs:List Expr}{pos:Pos}{scope:Scope}{z0:Str}{g:Bk->TG}{tt:Bk->TT}{te:Bk->TE}{tns cns:List Str}{ci:List Nat}{RR:Value->Addr->Result->Shared->Prop}{E:Value->Shared->Prop}
  {pins:List (Addr×Obj)} {σ:St} {H2:Hp} {s2:Shared} {it:Addr} {fp:List Addr} {tn:Nat->Heap->Prop} {J:It} {Q:Addr->Hp->Prop}
  (hc:X.calm=true) (S:CompScZ X z0 scope cns ci)
  (hg:∀bk:Bk,PG (X.blkZ z0 (".0" :: (tns ++ cns)) scope bk) tgt (g bk))
  (ht:∀bk:Bk,mR (X.blkZ z0 (".0" :: (tns ++ cns)) scope bk) ifs (tt bk))
  (he:∀bk:Bk,PE (X.blkZ z0 (".0" :: (tns ++ cns)) scope bk) elt (te bk))
  (I2:Inv X pins σ H2 s2) (T:kE X.prog X.w X.K tgt J fp it tn) (st2:tn 0 s2.heap) (f2:∀b∈fp,iL X pins H2 b)
  (hcw:∀acc,H2 acc=none->∀bk:Bk,bC J (g bk) (tt bk) (te bk) tns.length ci σ acc (Q acc) (upd H2 acc (.lst [])))
  (fin:∀D C s5 H4 m,Inv X pins σ H4 s5->s5.heap.Ns C m->iL X pins H4 C->Q D H4->RR (.ref D) C (.ok .next) s5) :
  wpAny (model X.prog X.w) X.A (newList []) (fun acc s₃=>wpAny (model X.prog X.w) X.A (newFunctionEnv scope X.env.globals (ck X.env.cells scope.names []) [] X.env.qual none .none (some X.env)) (fun cenv s₄=>
   codeAny (model X.prog X.w) X.A (.compStart (.ListComp elt [⟨tgt,iter,ifs,0⟩] scope pos) 0 (.ref it) acc {cenv with scope:=relabel scope X.env}) (RR acc cenv.locals) s₄) E s₃) E s2:=by
 have hfc:∀y∈scope.names,y.2=.free->∃c,X.env.cells.lookup y.1=some c:=fun y hy hk=>I2.ok.has _ (S.free y hy hk)
 have hsub:∀y c,(ck X.env.cells scope.names []).lookup y=some c->X.env.cells.lookup y=some c:=g7 hfc (fun y c e=>by simp at e)
 refine wpAny_newObj_type (iO S.cells S.push ?_)
 dsimp only
 generalize hH2:s2.heap.push {cls:=.type "list",dict:=none,data:=.seq ([]:List Value).toArray}=G2
 have hCz:G2.objs.size=s2.heap.objs.size+1:=by rw [<- hH2,Heap.size_push]
 have hns₁:((G2.push {cls:=.type "dict",data:=.dict #[]}).push {cls:=.type "cell",data:=.cell none}).Ns G2.objs.size (fun _=>none):=(Heap.Ns.new G2 (.type "dict")).keeps fun b o e=>Heap.get?_push_of_some _ e
 have hcl₁:((G2.push {cls:=.type "dict",data:=.dict #[]}).push {cls:=.type "cell",data:=.cell none}).IsCell (G2.objs.size+1) none:=by
  refine ⟨{cls:=.type "cell",data:=.cell none},?_,rfl⟩
  have:=Heap.get?_push_size (G2.push {cls:=.type "dict",data:=.dict #[]}) (o:={cls:=.type "cell",data:=.cell none}) rfl
  rwa [Heap.size_push] at this
 have keep₁:∀b o,G2.get? b=some o->((G2.push {cls:=.type "dict",data:=.dict #[]}).push {cls:=.type "cell",data:=.cell none}).get? b=some o:=fun b o e=>Heap.get?_push_of_some _ (Heap.get?_push_of_some _ e)
 have hsz₁:((G2.push {cls:=.type "dict",data:=.dict #[]}).push {cls:=.type "cell",data:=.cell none}).objs.size=G2.objs.size+2:=by rw [Heap.size_push,Heap.size_push]
 generalize hh₁:(G2.push {cls:=.type "dict",data:=.dict #[]}).push {cls:=.type "cell",data:=.cell none}=h₁ at hns₁ hcl₁ keep₁ hsz₁ ⊢
 have hDC:s2.heap.objs.size≠G2.objs.size:=by rw [hCz];exact Nat.ne_of_lt (Nat.lt_succ_self _)
 have below:∀b,b < s2.heap.objs.size->b≠G2.objs.size:=fun b hb=>by omega
 have old:∀b o,s2.heap.get? b=some o->h₁.get? b=some o:=fun b o e=>keep₁ b o (hH2 ▸ Heap.get?_push_of_some _ e)
 have hacc:h₁.get? s2.heap.objs.size=some {cls:=.type "list",dict:=none,data:=.seq ([]:List Value).toArray}:=keep₁ _ _ (hH2 ▸ Heap.get?_push_size _ rfl)
 have hnD:H2 s2.heap.objs.size=none:=I2.hok.fresh (Nat.le_refl _)
 have hnC:H2 G2.objs.size=none:=I2.hok.fresh (by omega)
 have hnE:H2 (G2.objs.size+1)=none:=I2.hok.fresh (by omega)
 obtain ⟨W,⟨m0,w0⟩,turn⟩:=hcw s2.heap.objs.size hnD ⟨G2.objs.size,fp,s2,H2⟩
 have nlt:∀{b:Addr} {o:Obj},s2.heap.get? b=some o->b≠s2.heap.objs.size:=fun q=>Nat.ne_of_lt (Heap.lt_size q)
 have fpl:∀b∈fp,b < s2.heap.objs.size:=fun b hb=>by
  obtain ⟨o,e,_⟩:=T.obj _ _ st2 b hb
  exact Heap.lt_size e
 have clt:∀y c,(ck X.env.cells scope.names []).lookup y=some c->c < s2.heap.objs.size:=fun y c e=>by
  obtain ⟨v,q⟩:=I2.cell y c (hsub y c e)
  exact q.lt
 have split:∀y c,((z0,G2.objs.size+1) :: ck X.env.cells scope.names []).lookup y=some c->(y=z0/\c=G2.objs.size+1)\/(y≠z0/\(ck X.env.cells scope.names []).lookup y=some c):=fun y c e=>by
  rw [List.lookup_cons] at e
  cases hb:y == z0 with
  | true=>rw [hb] at e;cases e;exact .inl ⟨by simpa using hb,rfl⟩
  | false=>rw [hb] at e;exact .inr ⟨by simpa using hb,e⟩
 have hasC:∀y,((relabel scope X.env).names.lookup y=some .cell\/(relabel scope X.env).names.lookup y=some .free)->∃c,((z0,G2.objs.size+1) :: ck X.env.cells scope.names []).lookup y=some c:=fun y hk=>by
  rw [List.lookup_cons]
  cases hb:y == z0 with
  | true=>exact ⟨_,rfl⟩
  | false=>
   rcases S.seen y hk with z | z
   ·subst z;simp at hb
   ·exact cQ z
 have ok:(X.blkZ z0 (".0" :: (tns ++ cns)) scope ⟨G2.objs.size,fp,s2,H2⟩).Ok:={
  mod:=I2.ok.mod
  kind:=S.kind
  glob:=I2.ok.glob
  blt:=I2.ok.blt
  above:=by show s2.heap.objs.size<=G2.objs.size;omega
  inj:=fun y z c e1 e2=>by
   rcases split y c e1 with ⟨a1,b1⟩ | ⟨a1,b1⟩ <;> rcases split z c e2 with ⟨a2,b2⟩ | ⟨a2,b2⟩
   ·rw [a1,a2]
   ·subst b1;have h9:(G2.objs.size+1:Nat) < s2.heap.objs.size:=clt _ _ b2;omega
   ·subst b2;have h9:(G2.objs.size+1:Nat) < s2.heap.objs.size:=clt _ _ b1;omega
   ·exact I2.ok.inj y z c (hsub y c b1) (hsub z c b2)
  has:=fun y hk=>hasC y hk
  cab:=fun y c e e2=>by
   show s2.heap.objs.size<=c
   have e':(y == z0)=true:=e
   rcases split y c e2 with ⟨a1,b1⟩ | ⟨a1,b1⟩
   ·subst b1;omega
   ·exact absurd (by simpa using e') a1
  hd:=I2.ok.hd
  frames:=I2.ok.frames
  stk:=.inl rfl
  exf:=fun b hb=>⟨below b (fpl b hb),fun y c e=>by
   rcases split y c e with ⟨a1,b1⟩ | ⟨a1,b1⟩
   ·subst b1;intro h8;subst h8;have h9:(G2.objs.size+1:Nat) < s2.heap.objs.size:=fpl _ hb;omega
   ·exact (f2 b hb).2.2.2.2.1 y c (hsub y c b1)⟩
  bs:=I2.bs
  bsz:=Nat.le_trans I2.ok.bsz I2.sz
  noex:=fun b o e hb=>by
   rcases (f2 b hb).2.2.2.1 with z | z
   ·exact I2.ok.noex b o e z
   ·exact absurd (Nat.lt_of_lt_of_le (Heap.lt_size e) (Nat.le_trans I2.ok.bsz z)) (Nat.lt_irrefl _)
  exfs:=fun b hb hf=>by
   rcases List.mem_cons.mp (I2.stkSub b hf) with z | z
   ·exact (f2 b hb).2.1 z
   ·exact (f2 b hb).2.2.1 z
  funs:=I2.stack
  frf:=I2.stkFree}
 have hokD:HOk X.prog X.w (upd H2 s2.heap.objs.size (.lst [])) h₁:=I2.hok.laid old (Nat.le_refl _) ⟨Nat.zero_le _,[],0,.nil,hacc⟩
 have clD:∀y c,((z0,G2.objs.size+1) :: ck X.env.cells scope.names []).lookup y=some c->c≠s2.heap.objs.size:=fun y c e=>by
  rcases split y c e with ⟨a1,b1⟩ | ⟨a1,b1⟩
  ·subst b1;omega
  ·exact Nat.ne_of_lt (clt y c b1)
 have I3:Inv (X.blkZ z0 (".0" :: (tns ++ cns)) scope ⟨G2.objs.size,fp,s2,H2⟩) [] (az (List.replicate tns.length none) ci σ) (upd H2 s2.heap.objs.size (.lst [])) {s2 with heap:=h₁}:={
  ok:=ok
  os:=rfl
  bare:=I2.bare
  base:=⟨fun b o e n _ _=>old b o e,fun b o e n _ _=>⟨o.slots,old b o e⟩,fun b o e n _=>by rw [al (nlt e)];exact n,fun b o e _=>⟨o,old b o e⟩,
   fun b ys e=>by rw [al (ai e hnD)];exact e,fun b o u e=>by rw [al (ai e hnD)];exact e,fun b ps e=>⟨#[],by rw [al (ai e hnD),Array.append_empty];exact e⟩⟩
  loc:=⟨_,hns₁,fun i y v e1 e2 e3=>by
   have e1':((".0":Str) :: (tns ++ cns))[i]?=some y:=e1
   unfold az at e2
   cases i with
   | zero=>simp at e2
   | succ i=>
    rw [List.getElem?_cons_succ] at e1' e2
    by_cases hi:i < tns.length
    ·rw [List.getElem?_append_left (by simpa using hi),List.getElem?_replicate,if_pos hi] at e2
     cases e2
    ·rw [List.getElem?_append_right (by omega)] at e1'
     rw [List.getElem?_append_right (by simp;omega),List.length_replicate] at e2
     obtain ⟨q,hq,hN,hm⟩:=S.cap _ _ e1'
     rw [List.getElem?_map,hq] at e2
     have e2':(σ[q]?).join=some v:=by simpa using e2
     have e4:σ[q]?=some (some v):=by
      cases z:σ[q]? with
      | none=>rw [z] at e2';cases e2'
      | some o=>rw [z] at e2';rw [show o=some v from e2']
     obtain ⟨m,hns,hl⟩:=I2.loc
     have hvis:Vis X.env.scope y:=by
      rcases S.free (y,.free) hm rfl with z | z
      ·exact .inr (.inl z)
      ·exact .inr (.inr z)
     obtain ⟨u,ru,lk⟩:=hl q y v hN e4 hvis
     refine ⟨u,ru,.inr ?_⟩
     have hkk:X.env.kindOf y=some .cell\/X.env.kindOf y=some .free:=S.free (y,.free) hm rfl
     have hyz:y≠z0:=fun e=>S.nofree (e ▸ hm)
     rcases lk with ⟨k1,_⟩ | ⟨_,c,hc1,hc2⟩
     ·rcases hkk with z | z <;> (rw [k1] at z;cases z)
     ·obtain ⟨c',hc'⟩:=cQ (cells:=X.env.cells) (acc:=[]) hm
      have ecc:c'=c:=by
       have:=hsub y c' hc'
       rw [hc1] at this;cases this;rfl
      subst ecc
      have e3':Vis (relabel scope X.env) y:=e3
      refine ⟨?_,c',?_,?_⟩
      ·rcases e3' with z | z | z
       ·exfalso
        exact S.noloc y hm z
       ·exact .inl z
       ·exact .inr z
      ·show ((z0,G2.objs.size+1) :: ck X.env.cells scope.names []).lookup y=some c'
       rw [List.lookup_cons,beq_eq_false_iff_ne.mpr hyz]
       exact hc'
      ·exact hc2.keeps old⟩
  cell:=fun y c e=>by
   rcases split y c e with ⟨a1,b1⟩ | ⟨a1,b1⟩
   ·subst b1;exact ⟨_,hcl₁⟩
   ·obtain ⟨v,q⟩:=I2.cell y c (hsub y c b1)
    exact ⟨v,q.keeps old⟩
  free:=by show upd H2 s2.heap.objs.size (.lst []) G2.objs.size=none;rw [al (Ne.symm hDC)];exact hnC
  freeC:=fun y c e=>by
   rw [al (clD y c e)]
   rcases split y c e with ⟨a1,b1⟩ | ⟨a1,b1⟩
   ·subst b1;exact hnE
   ·exact I2.freeC y c (hsub y c b1)
  pin:=fun p hp=>by
   have hp':p∈([]:List (Addr×Obj)) ++ []:=hp
   simp at hp'
  hok:=hokD
  len:=by
   show (az _ ci σ).length=((".0":Str) :: (tns ++ cns)).length
   unfold az
   simp [S.len]}
 have st3:tn 0 h₁:=T.keep _ _ _ st2 fun b _ o e=>old b o e
 have fr3:∀b∈fp,upd H2 s2.heap.objs.size (.lst []) b=none:=fun b hb=>by rw [al (Nat.ne_of_lt (fpl b hb))];exact (f2 b hb).1
 have stat:∀{H':Hp},(∀b∈fp,H' b=none)->∀b∈fp,iL (X.blkZ z0 (".0" :: (tns ++ cns)) scope ⟨G2.objs.size,fp,s2,H2⟩) [] H' b:=fun hn b hb=>
  ⟨hn b hb,below b (fpl b hb),ok.exfs b hb,.inl hb,fun y c e=>(ok.exf b hb).2 y c e,fun p hp=>by
   have hp':p∈([]:List (Addr×Obj)) ++ []:=hp
   simp at hp'⟩
 have loop:∀s₃:Shared,s₃={s2 with heap:=h₁}->
   codeAny (model X.prog X.w) X.A (.compLoop (.ListComp elt [⟨tgt,iter,ifs,0⟩] scope pos) 0 (.ref it) (.ref s2.heap.objs.size) (compEnvC scope ((z0,G2.objs.size+1) :: ck X.env.cells scope.names []) G2.objs.size X.env))
    (RR (.ref s2.heap.objs.size) G2.objs.size) s₃:=by
  rintro s₃ rfl
  refine g8 (fun n s'=>∃(i:Nat)(os:List (Option V)) (ys:List V) (H':Hp),os.length=tns.length/\Inv (X.blkZ z0 (".0" :: (tns ++ cns)) scope ⟨G2.objs.size,fp,s2,H2⟩) [] (az os ci σ) H' s'/\tn i s'.heap/\(∀b∈fp,H' b=none)/\W i n ys H') ?_ m0 ⟨0,_,[],_,by simp,I3,st3,fr3,w0⟩
  rintro n s4 ⟨i,os,ys,H4,hos,I4,st4,fr4,w4⟩
  rcases turn i n ys H4 w4 with ⟨stop,q⟩ | ⟨go,N,hN,step⟩
  ·refine thn (T.done (X.blkZ z0 (".0" :: (tns ++ cns)) scope ⟨G2.objs.size,fp,s2,H2⟩) rfl rfl rfl hc i [] s4 _ H4 (fun _ _=>False) I4 (stat fr4) st4 stop) fun r s5 ⟨hr,I5⟩=>?_
   subst hr
   obtain ⟨m,hm,_⟩:=I5.loc
   have fC:H4 G2.objs.size=none:=I5.free
   have ub:Un (frs X.stack) fp H2 H4 s2.heap s5.heap:=I5.base
   have IX:Inv X pins σ H4 s5:=I2.call' (s':=s5) (show s5.os=s2.os from I5.os) ub I5.hok I5.bare fun b hb=>⟨(f2 b hb).2.2.2.1,(f2 b hb).2.1,(f2 b hb).2.2.2.2.1,(f2 b hb).2.2.2.2.2⟩
   exact fin _ _ s5 H4 m IX hm (I2.fpOk (by omega) fC) q
  ·refine thn (T.item (X.blkZ z0 (".0" :: (tns ++ cns)) scope ⟨G2.objs.size,fp,s2,H2⟩) rfl rfl rfl hc i [] s4 _ H4 (fun _ _=>False) I4 (stat fr4) st4 go) fun r s5 ⟨u,hr,h5⟩=>?_
   subst hr
   refine thn h5 fun _ s6 hhx=>?_
   obtain ⟨y,H6,I6,r6,y6,st6,fr6⟩:=hhx
   have I6':=I6.pinned (stat fr6) (T.obj _ _ st6)
   refine thn (hg _ _ s6 _ H6 y u _ I6' r6 (step y H6 os hos y6)) fun _ s7 ⟨σ7,H7,I7,⟨os',hos',e7⟩,q7⟩=>?_
   subst e7
   have back:∀{H9:Hp} {s9:Shared},Inv (X.blkZ z0 (".0" :: (tns ++ cns)) scope ⟨G2.objs.size,fp,s2,H2⟩) ([] ++ fV fp s6.heap) (az os' ci σ) H9 s9->tn (i+1) s9.heap/\∀b∈fp,H9 b=none:=fun {H9 s9} I9=>
    ⟨T.keep _ _ _ st6 fun b hb ob e=>(I9.pin (b,ob) (List.mem_append_right _ (List.mem_append_right _ (cb hb e)))).1,fun b hb=>by
     obtain ⟨ob,e,d⟩:=T.obj _ _ st6 b hb
     exact (I9.pin (b,ob) (List.mem_append_right _ (List.mem_append_right _ (cb hb e)))).2.1⟩
   refine thn (ht _ _ s7 _ H7 _ I7 q7) fun b s8 hhx=>?_
   obtain ⟨H8,I8,q8⟩:=hhx
   cases b with
   | false=>
    rw [if_neg Bool.false_ne_true] at q8 ⊢
    obtain ⟨m',hm',w8⟩:=hN _ _ q8
    exact ⟨m',hm',i+1,os',ys,_,hos',I8.unpinned,(back I8).1,(back I8).2,w8⟩
   | true=>
    rw [if_pos rfl] at q8 ⊢
    refine thn (he _ _ s8 _ H8 _ I8 q8) fun zv s8 hhx=>?_
    obtain ⟨z,H8,I8,rz,ha8,hl8,n8⟩:=hhx
    obtain ⟨m',hm',w8⟩:=hN _ _ n8
    refine thn (aP (X:=X.blkZ z0 (".0" :: (tns ++ cns)) scope ⟨G2.objs.size,fp,s2,H2⟩) _ s8 _ H8 (.ref s2.heap.objs.size) [z] (.ref s2.heap.objs.size) [zv] (fun _ H9=>H9=upd H8 s2.heap.objs.size (.lst (ys ++ [z]))) I8 rfl (.cons rz .nil) ⟨_,ys,z,rfl,rfl,ha8,hl8,rfl⟩) fun _ s9 hhx=>?_
    obtain ⟨_,H9,I9,_,e9⟩:=hhx
    subst e9
    exact ⟨m',hm',i+1,os',ys ++ [z],_,hos',I9.unpinned,(back I9).1,(back I9).2,w8⟩
 exact codeAny_compStart_list (loop _ rfl) (T.self _ 0 _ _ _ st3 (loop _ rfl))
theorem wj{X:Cx}{elt iter tgt:Expr}{ifs:List Expr}{pos:Pos}{scope:Scope}{z0:Str}{wi:TI}{g:Bk->TG}{tt:Bk->TT}{te:Bk->TE}{tns cns:List Str}{ci:List Nat}(hc:X.calm=true)(S:CompScZ X z0 scope cns ci)(hi:PI X tgt iter wi)
  (hg:∀bk:Bk,PG (X.blkZ z0 (".0" :: (tns ++ cns)) scope bk) tgt (g bk))
  (ht:∀bk:Bk,mR (X.blkZ z0 (".0" :: (tns ++ cns)) scope bk) ifs (tt bk))
  (he:∀bk:Bk,PE (X.blkZ z0 (".0" :: (tns ++ cns)) scope bk) elt (te bk))
  (hs:∀v,foldedSetIterable iter X.env v=pure v:=by intro _;rfl) :
  PE X (.ListComp elt [⟨tgt,iter,ifs,0⟩] scope pos) (ky wi g tt te tns.length ci):=by
 intro pins s σ H Q I h
 have hfc:∀y∈scope.names,y.2=.free->∃c,X.env.cells.lookup y.1=some c:=fun y hy hk=>I.ok.has _ (S.free y hy hk)
 rw [eval_ListComp]
 refine wpAny_comprehension_free (use:=none) rfl hs (dc hfc) S.kind S.names (thn (hi pins s σ H _ I h) fun v s1 h1=>thn h1 fun itv s2 h2=>?_)
 obtain ⟨it,fp,tn,J,H2,rfl,I2,T,st2,f2,hcw⟩:=h2
 refine ql (RR:=fun acc C=>compPost (model X.prog X.w) X.A X.xe none (EP X pins σ Q) acc C) hc S hg ht he I2 T st2 f2 hcw fun D C s5 H4 m I5 hm fo q=>?_
 refine ⟨m,hm,fun h' hs'=>⟨.ref D,H4,?_,rfl,q⟩⟩
 exact I5.turned (t':=s5.toks) (it:=C) (fun b o hb e=>(hs'.2 b hb).trans e) fo.1 fo.2.1 fo.2.2.2.1 fo.2.2.2.2.1 fo.2.2.2.2.2
def Cm(osc:Scope)(N:List Str)(z0:Str)(scope:Scope)(cns:List Str)(ci:List Nat):Bool:=
 scope.kind == .function && scope.names.all (fun y=>y.2 != .local || scope.names.lookup y.1 == some .local) &&
 scope.names.all (fun y=>y.2 != .free || (osc.names.lookup y.1 == some .cell || osc.names.lookup y.1 == some .free)) && j4 N scope.names cns ci &&
 scope.names.all (fun y=>y.2 != .free || (uD scope osc).lookup y.1 != some .local) && scope.names.all (fun y=>y.2 != .free || y.1 != z0) && scope.names.all (fun y=>y.2 != .cell || y.1 == z0)
theorem f8{osc:Scope}:∀{names:List (Str×NameKind)} {y:Str} {k:NameKind},(names.map fun (n,k)=>if (k == NameKind.free && osc.kind == .function && osc.names.lookup n == some .cell) then (n,NameKind.cell) else (n,k)).lookup y=some k->k=.cell\/k=.free->
  (y,NameKind.cell)∈names\/(y,NameKind.free)∈names
 | [],_,_,h,_=>by simp at h
 | (n,k0) :: r,y,k,h,hk=>by
  rw [List.map_cons,List.lookup_cons] at h
  by_cases hf:(k0 == NameKind.free && osc.kind == .function && osc.names.lookup n == some .cell)=true
  ·simp only [hf,if_true] at h
   have k0f:k0=.free:=by
    have:=hf
    simp only [Bool.and_eq_true] at this
    simpa using this.1.1
   split at h
   ·next hq=>
    have:y=n:=by simpa using hq
    subst this;subst k0f
    exact .inr List.mem_cons_self
   ·exact (f8 h hk).imp (List.mem_cons_of_mem _) (List.mem_cons_of_mem _)
  ·simp only [hf] at h
   split at h
   ·next hq=>
    have:y=n:=by simpa using hq
    subst this
    have e:k0=k:=by simpa using h
    subst e
    rcases hk with z | z
    ·subst z;exact .inl List.mem_cons_self
    ·subst z;exact .inr List.mem_cons_self
   ·exact (f8 h hk).imp (List.mem_cons_of_mem _) (List.mem_cons_of_mem _)
theorem CompScZ.of{X:Cx}{z0:Str}{scope:Scope}{cns:List Str}{ci:List Nat}(h:Cm X.env.scope X.N z0 scope cns ci=true)
  (hc:∀n acc,cellsFrom n scope.names acc=(z0,n) :: acc) (hp:∀h,pushCells h scope.names=h.push {cls:=.type "cell",data:=.cell none}):CompScZ X z0 scope cns ci:=by
 unfold Cm at h
 rw [Bool.and_eq_true,Bool.and_eq_true,Bool.and_eq_true,Bool.and_eq_true,Bool.and_eq_true,Bool.and_eq_true] at h
 obtain ⟨⟨⟨⟨⟨⟨h1,h3⟩,h4⟩,h5⟩,h6⟩,h7⟩,h8⟩:=h
 obtain ⟨l,r⟩:=i5 h5
 refine ⟨by simpa using h1,fun y hy hk=>?_,fun y hy hk=>?_,r,l,fun y hy z=>?_,fun hm=>?_,fun y hy=>?_,hc,hp⟩
 ·have:=List.all_eq_true.mp h3 y hy
  rw [Bool.or_eq_true] at this
  rcases this with q | q
  ·exact absurd hk (by simpa using q)
  ·simpa using q
 ·have:=List.all_eq_true.mp h4 y hy
  rw [Bool.or_eq_true,Bool.or_eq_true] at this
  rcases this with q | q | q
  ·exact absurd hk (by simpa using q)
  ·exact .inl (show X.env.scope.names.lookup y.1=_ by simpa using q)
  ·exact .inr (show X.env.scope.names.lookup y.1=_ by simpa using q)
 ·have:=List.all_eq_true.mp h6 _ hy
  rw [Bool.or_eq_true] at this
  rcases this with q | q
  ·simp at q
  ·have z':(uD scope X.env.scope).lookup y=some .local:=z
   have q':((uD scope X.env.scope).lookup y != some .local)=true:=q
   rw [z'] at q'
   exact absurd q' (by decide)
 ·have:=List.all_eq_true.mp h7 _ hm
  simp at this
 ·have key:(y,NameKind.cell)∈scope.names\/(y,NameKind.free)∈scope.names:=by
   rcases hy with z | z
   ·exact f8 (osc:=X.env.scope) z (.inl rfl)
   ·exact f8 (osc:=X.env.scope) z (.inr rfl)
  rcases key with z | z
  ·have:=List.all_eq_true.mp h8 _ z
   left;simpa using this
  ·exact .inr z
theorem uT{X:Cx}{elt iter tgt:Expr}{ifs:List Expr}{pos:Pos}{scope:Scope}{z0:Str}{wi:TI}{g:Bk->TG}{tt:Bk->TT}{te:Bk->TE}{tns cns:List Str}{ci:List Nat}(hc:X.calm=true)(S:CompScZ X z0 scope cns ci)(hi:XI X tgt iter wi)
  (hg:∀bk:Bk,XG (X.blkZ z0 (".0" :: (tns ++ cns)) scope bk) tgt (g bk))
  (ht:∀bk:Bk,v0 (X.blkZ z0 (".0" :: (tns ++ cns)) scope bk) ifs (tt bk))
  (he:∀bk:Bk,XE (X.blkZ z0 (".0" :: (tns ++ cns)) scope bk) elt (te bk))
  (hs:∀v,foldedSetIterable iter X.env v=pure v:=by intro _;rfl) :
  XE X (.ListComp elt [⟨tgt,iter,ifs,0⟩] scope pos) (ky wi g tt te tns.length ci):=⟨wj hc S hi.h (fun bk=>(hg bk).h) (fun bk=>(ht bk).h) (fun bk=>(he bk).h) hs⟩
end L2
variable {H:Hp} {Q:VK} {a0 a1 a10 a11 a12 a13 a14 a15 a16 a17 a18 a19 a2 a20 a3 a4 a5 a6 a7 a8 a9:Option V}
namespace L2
open PySem PySem.Spec PyProof.Rows
def zQ:Nat->St->Option V
 | 0,o :: _=>o
 | n+1,_ :: r=>zQ n r
 | _,[]=>none
theorem pT:∀{n:Nat} {σ:St} {v:V},zQ n σ=some v->σ[n]?=some (some v)
 | 0,o :: _,v,h=>by rw [show zQ 0 (o :: _)=o from rfl] at h;rw [h];rfl
 | n+1,_ :: r,v,h=>by rw [List.getElem?_cons_succ];exact pT h
 | 0,[],_,h=>by cases h
 | _+1,[],_,h=>by cases h
def cg(i:Nat):TE:=fun σ H Q=>match zQ i σ with
 | some v=>Q v H
 | none=>False
theorem A3{i:Nat}{σ:St}{H:Hp}(h:cg i σ H Q):Cc i σ H Q:=by
 unfold cg at h
 split at h
 ·next v e=>exact ⟨v,pT e,h⟩
 ·exact h.elim
theorem yqv{X:Cx}(i:Nat){x:Str}{pos:Pos}(hv:Vis X.env.scope x)(hN:X.N[i]?=some x:=by rfl)(hd:(x == ("__debug__":Str))=false:=by kernel_rfl) (hcd:(x == ("__classdict__":Str))=false:=by kernel_rfl):XE X (.Name x pos) (cg i):=
 ⟨fun pins s σ H Q I h=>qv i hv hN hd hcd pins s σ H Q I (A3 h)⟩
def yI0(g:Int->Int->V):R2:=fun x y H Q=>match x,y with
 | .int i,.int j=>Q (g i j) H
 | _,_=>False
def yI(C:Int->Int->Prop)(g:Int->Int->V):R2:=fun x y H Q=>match x,y with
 | .int i,.int j=>C i j/\Q (g i j) H
 | _,_=>False
def yU(g:Int->V):V->Hp->VK->Prop:=fun x H Q=>match x with
 | .int i=>Q (g i) H
 | _=>False
theorem ir{g:Int->Int->V}{x y:V}{H:Hp}(h:yI0 g x y H Q):rI0 g x y H Q:=by
 unfold yI0 at h
 split at h
 ·exact ⟨_,_,rfl,rfl,h⟩
 ·exact h.elim
theorem qd{C:Int->Int->Prop}{g:Int->Int->V}{x y:V}{H:Hp}(h:yI C g x y H Q):rI C g x y H Q:=by
 unfold yI at h
 split at h
 ·exact ⟨_,_,rfl,rfl,h⟩
 ·exact h.elim
theorem D1{g:Int->V}{x:V}{H:Hp}(h:yU g x H Q):rU g x H Q:=by
 unfold yU at h
 split at h
 ·exact ⟨_,rfl,h⟩
 ·exact h.elim
section
variable {X:Cx}
theorem OpR.le{f:Value->Value->Sem Value}{r r':R2}(h:OpR X f r)(le:∀{x y:V} {H:Hp} {Q:VK},r' x y H Q->r x y H Q):OpR X f r':=fun pins s σ H x y v u Q I rx ry q=>h pins s σ H x y v u Q I rx ry (le q)
theorem aZ:OpR X (binaryOp .Add) (yI0 fun i j=>.int (i+j)):=OpR.le Bj ir
theorem cN:OpR X (binaryOp .Sub) (yI0 fun i j=>.int (i - j)):=OpR.le Bp ir
theorem ca:OpR X (binaryOp .Mult) (yI CMul fun i j=>.int (i * j)):=OpR.le Bm qd
theorem aJ:OpR X (binaryOp .Mod) (yI (fun _ j=>0 < j) fun i j=>.int (i % j)):=OpR.le Bl qd
theorem tH:OpR X (binaryOp .Pow) (yI uW fun i j=>.int (i ^ j.toNat)):=OpR.le Bn qd
theorem iY:OpR X (binaryOp .LShift) (yI uW fun i j=>.int (i * 2 ^ j.toNat)):=OpR.le Bo qd
theorem fW:OpR X (compareOp .Lt) (yI0 fun i j=>.bl (decide (i < j))):=OpR.le CB ir
theorem yx:OpR X (compareOp .LtE) (yI0 fun i j=>.bl (decide (i<=j))):=OpR.le CA ir
theorem iu:OpR X (compareOp .Gt) (yI0 fun i j=>.bl (decide (j < i))):=OpR.le Cz ir
theorem yw:OpR X (compareOp .GtE) (yI0 fun i j=>.bl (decide (j<=i))):=OpR.le Cy ir
theorem aN:OpR X (binaryOp .FloorDiv) (yI CDivB fun i j=>.int (i / j)):=OpR.le vY qd
theorem mO:UnR X (unaryOp .USub) (yU fun i=>.int (-i)):=fun pins s σ H x v Q I rx q=>Cd pins s σ H x v Q I rx (D1 q)
end
section
variable {H:Hp} {Q:VK}
theorem yk{v:V}{r:St}:cg 0 (some v :: r) H Q=Q v H:=rfl
theorem ym{v:V}{r:St}:cg 1 (a0 :: some v :: r) H Q=Q v H:=rfl
theorem yn{v:V}{r:St}:cg 2 (a0 :: a1 :: some v :: r) H Q=Q v H:=rfl
theorem yo{v:V}{r:St}:cg 3 (a0 :: a1 :: a2 :: some v :: r) H Q=Q v H:=rfl
theorem yp{v:V}{r:St}:cg 4 (a0 :: a1 :: a2 :: a3 :: some v :: r) H Q=Q v H:=rfl
theorem yq{v:V}{r:St}:cg 5 (a0 :: a1 :: a2 :: a3 :: a4 :: some v :: r) H Q=Q v H:=rfl
theorem yr{v:V}{r:St}:cg 6 (a0 :: a1 :: a2 :: a3 :: a4 :: a5 :: some v :: r) H Q=Q v H:=rfl
theorem yt{v:V}{r:St}:cg 7 (a0 :: a1 :: a2 :: a3 :: a4 :: a5 :: a6 :: some v :: r) H Q=Q v H:=rfl
theorem yu{v:V}{r:St}:cg 8 (a0 :: a1 :: a2 :: a3 :: a4 :: a5 :: a6 :: a7 :: some v :: r) H Q=Q v H:=rfl
theorem yv{v:V}{r:St}:cg 9 (a0 :: a1 :: a2 :: a3 :: a4 :: a5 :: a6 :: a7 :: a8 :: some v :: r) H Q=Q v H:=rfl
theorem qe{v:V}{r:St}:cg 10 (a0 :: a1 :: a2 :: a3 :: a4 :: a5 :: a6 :: a7 :: a8 :: a9 :: some v :: r) H Q=Q v H:=rfl
theorem AC{v:V}{r:St}:cg 11 (a0 :: a1 :: a2 :: a3 :: a4 :: a5 :: a6 :: a7 :: a8 :: a9 :: a10 :: some v :: r) H Q=Q v H:=rfl
theorem AD{v:V}{r:St}:cg 12 (a0 :: a1 :: a2 :: a3 :: a4 :: a5 :: a6 :: a7 :: a8 :: a9 :: a10 :: a11 :: some v :: r) H Q=Q v H:=rfl
theorem AE{v:V}{r:St}:cg 13 (a0 :: a1 :: a2 :: a3 :: a4 :: a5 :: a6 :: a7 :: a8 :: a9 :: a10 :: a11 :: a12 :: some v :: r) H Q=Q v H:=rfl
theorem AF{v:V}{r:St}:cg 14 (a0 :: a1 :: a2 :: a3 :: a4 :: a5 :: a6 :: a7 :: a8 :: a9 :: a10 :: a11 :: a12 :: a13 :: some v :: r) H Q=Q v H:=rfl
theorem AG{v:V}{r:St}:cg 15 (a0 :: a1 :: a2 :: a3 :: a4 :: a5 :: a6 :: a7 :: a8 :: a9 :: a10 :: a11 :: a12 :: a13 :: a14 :: some v :: r) H Q=Q v H:=rfl
theorem AH{v:V}{r:St}:cg 16 (a0 :: a1 :: a2 :: a3 :: a4 :: a5 :: a6 :: a7 :: a8 :: a9 :: a10 :: a11 :: a12 :: a13 :: a14 :: a15 :: some v :: r) H Q=Q v H:=rfl
theorem AI{v:V}{r:St}:cg 17 (a0 :: a1 :: a2 :: a3 :: a4 :: a5 :: a6 :: a7 :: a8 :: a9 :: a10 :: a11 :: a12 :: a13 :: a14 :: a15 :: a16 :: some v :: r) H Q=Q v H:=rfl
theorem AJ{v:V}{r:St}:cg 18 (a0 :: a1 :: a2 :: a3 :: a4 :: a5 :: a6 :: a7 :: a8 :: a9 :: a10 :: a11 :: a12 :: a13 :: a14 :: a15 :: a16 :: a17 :: some v :: r) H Q=Q v H:=rfl
theorem AK{v:V}{r:St}:cg 19 (a0 :: a1 :: a2 :: a3 :: a4 :: a5 :: a6 :: a7 :: a8 :: a9 :: a10 :: a11 :: a12 :: a13 :: a14 :: a15 :: a16 :: a17 :: a18 :: some v :: r) H Q=Q v H:=rfl
theorem AL{v:V}{r:St}:cg 20 (a0 :: a1 :: a2 :: a3 :: a4 :: a5 :: a6 :: a7 :: a8 :: a9 :: a10 :: a11 :: a12 :: a13 :: a14 :: a15 :: a16 :: a17 :: a18 :: a19 :: some v :: r) H Q=Q v H:=rfl
theorem AM{v:V}{r:St}:cg 21 (a0 :: a1 :: a2 :: a3 :: a4 :: a5 :: a6 :: a7 :: a8 :: a9 :: a10 :: a11 :: a12 :: a13 :: a14 :: a15 :: a16 :: a17 :: a18 :: a19 :: a20 :: some v :: r) H Q=Q v H:=rfl
theorem AN{v:V}{r:St}{a21:Option V}:cg 22 (a0 :: a1 :: a2 :: a3 :: a4 :: a5 :: a6 :: a7 :: a8 :: a9 :: a10 :: a11 :: a12 :: a13 :: a14 :: a15 :: a16 :: a17 :: a18 :: a19 :: a20 :: a21 :: some v :: r) H Q=Q v H:=rfl
theorem AO{v:V}{r:St}{a21:Option V}{a22:Option V}:cg 23 (a0 :: a1 :: a2 :: a3 :: a4 :: a5 :: a6 :: a7 :: a8 :: a9 :: a10 :: a11 :: a12 :: a13 :: a14 :: a15 :: a16 :: a17 :: a18 :: a19 :: a20 :: a21 :: a22 :: some v :: r) H Q=Q v H:=rfl
theorem yj{g:Int->Int->V}{i j:Int}:yI0 g (.int i) (.int j) H Q=Q (g i j) H:=rfl
theorem y_I{C:Int->Int->Prop}{g:Int->Int->V}{i j:Int}:yI C g (.int i) (.int j) H Q=(C i j/\Q (g i j) H):=rfl
theorem y_U{g:Int->V}{i:Int}:yU g (.int i) H Q=Q (g i) H:=rfl
end
end L2
set_option maxHeartbeats 4000000
namespace FA
open PySem L2 PyProof.Rows
theorem CDivB.pow{i:Int}{n:Nat}(h:n < 9000):CDivB i (1 * 2 ^ n):=by
 rw [Int.one_mul]
 refine ⟨Int.pow_pos (by decide),?_⟩
 rw [Int.natAbs_pow]
 show (2 ^ n).log2 < 9000
 rw [Nat.log2_two_pow]
 exact h
def ltr(z:Int):Nat:=97+(z % 26).toNat
def D9(m pl k:Int)(j:Nat):Int:=m / 36+j * j+(if decide ((j:Int)=pl)=true then 1 else 0) * k
def nm(m pl k:Int):Nat->Str
 | 0=>""
 | j+1=>nm m pl k j ++ ⟨#[ltr (D9 m pl k j)]⟩
def nms(m:Int)(n:Nat):List Str:=(List.range n).map fun (k:Nat)=>nm m (m / 6 % (1+m % 6)) k (1+m % 6).toNat
theorem Cu:∀n:Nat,n < 26->atI ("abcdefghijklmnopqrstuvwxyz":Str).cps.toList (n:Int)=some (97+n):=by decide +kernel
theorem Bd(z:Int):atI ("abcdefghijklmnopqrstuvwxyz":Str).cps.toList (z % 26)=some (ltr z):=by
 have h0:0<=z % 26:=Int.emod_nonneg _ (by decide)
 have h1:z % 26 < 26:=Int.emod_lt_of_pos _ (by decide)
 unfold ltr
 obtain ⟨n,hn⟩:=Int.eq_ofNat_of_zero_le h0
 rw [hn]
 exact Cu n (by omega)
end FA
variable {H H':Hp} {xs:List V}
namespace L2
open PySem PyProof.Rows
theorem yN{A:Around}{k n:Nat}(h:n<=64)(hr:Room k A):A.units+n < cLine:=Nat.lt_of_le_of_lt (Nat.add_le_add_left h _) hr.units
theorem pZ{α β:Type}{f:Nat->α->β}{xs:List α}{i:Nat}{x:α}(h:xs[i]?=some x):(xs.take (i+1)).mapIdx f=(xs.take i).mapIdx f ++ [f i x]:=by
 obtain ⟨hl,e⟩:=List.getElem?_eq_some_iff.mp h
 rw [List.take_succ_eq_append_getElem hl,e,List.mapIdx_append,List.length_take,Nat.min_eq_left (Nat.le_of_lt hl)]
 simp
theorem iS{k:Int}(h:0<=k):cR xs none (some k)=xs.take k.toNat:=by
 obtain ⟨n,rfl⟩:=Int.eq_ofNat_of_zero_le h
 unfold cR
 rw [HT.kg,HT.iV,List.drop_zero,Int.toNat_natCast,Nat.sub_zero]
 by_cases hn:n<=xs.length
 ·rw [Nat.min_eq_left hn]
 ·rw [Nat.min_eq_right (by omega),List.take_length,List.take_of_length_le (by omega)]
theorem dg{k:Int}(h:0<=k):cR xs (some k) none=xs.drop k.toNat:=by
 obtain ⟨n,rfl⟩:=Int.eq_ofNat_of_zero_le h
 unfold cR
 rw [HT.kg,HT.iV,Int.toNat_natCast]
 by_cases hn:n<=xs.length
 ·rw [Nat.min_eq_left hn,List.take_of_length_le (by simp)]
 ·rw [Nat.min_eq_right (by omega),List.drop_of_length_le (Nat.le_refl _),List.drop_of_length_le (by omega)];simp
theorem nG{k l:Int}(h:0<=k)(h2:0<=l):cR xs (some k) (some l)=(xs.take l.toNat).drop k.toNat:=by
 obtain ⟨n,rfl⟩:=Int.eq_ofNat_of_zero_le h
 obtain ⟨m,rfl⟩:=Int.eq_ofNat_of_zero_le h2
 unfold cR
 rw [HT.iV,HT.iV,Int.toNat_natCast,Int.toNat_natCast]
 by_cases hn:n<=xs.length
 ·rw [Nat.min_eq_left hn]
  by_cases hm:m<=xs.length
  ·rw [Nat.min_eq_left hm,List.drop_take]
  ·rw [Nat.min_eq_right (by omega),List.take_of_length_le (by simp),List.take_of_length_le (by omega)]
 ·rw [Nat.min_eq_right (show xs.length<=n by omega),List.drop_of_length_le (Nat.le_refl _),List.drop_of_length_le (by rw [List.length_take];omega)];simp
section
variable {K:PySem.W.Frag} {te:TE} {ci:List Nat} {σ:St} {acc:Addr} {Q:Hp->Prop} {H1:Hp} {a:Addr} {xs:List V}
theorem dH{α:Type}(xs:List α):xs.filter (fun _=>true)=xs:=by simp
theorem yC(f:V->V)(hz:xs.length<=sizeLine)(hl:SqL K H1 a xs)(hacc:H1 acc=none)(hf:∀x∈xs,∀H Q',Same H1 H->Q' (f x) H->te (az [some x] ci σ) H Q')
  (q:Q (upd H1 acc (.lst (xs.map f)))):bC (Itl K a) (aQ 1) fu te 1 ci σ acc Q (upd H1 acc (.lst [])):=
 vb (fun _=>true) f hz hl hacc (fun _ _ _ _ _ h=>h) (fun x hm H Q' s _ h=>hf x hm H Q' s h) (by rw [dH];exact q)
theorem rK{n:Nat}(f:Nat->V)(hz:n<=sizeLine)(hacc:H1 acc=none)(hf:∀i:Nat,i < n->∀H Q',Same H1 H->Q' (f i) H->te (az [some (.int (i:Int))] ci σ) H Q')
 (q:Q (upd H1 acc (.lst ((List.range n).map f)))):bC (Itr 0 n) (aQ 1) fu te 1 ci σ acc Q (upd H1 acc (.lst [])):=by
 refine vd (fun _=>true) (fun i=>f i.toNat) hz hacc (fun _ _ _ _ _ h=>h) (fun i hi H Q' s _ h=>?_) ?_
 ·rw [Int.zero_add] at h ⊢
  rw [Int.toNat_natCast] at h
  exact hf i hi H Q' s h
 ·rw [dH]
  have e:(fun i:Nat=>f (0+(i:Int)).toNat)=f:=by funext i;rw [Int.zero_add,Int.toNat_natCast]
  rw [e]
  exact q
end
structure TSame(H H':Hp):Prop where
 tup:∀b xs,H b=some (.tup xs)->H' b=some (.tup xs)
 frz:∀b o u,H b=some (.frz o u)->H' b=some (.frz o u)
theorem Same.ts{H:Hp}(s:Same H H'):TSame H H':=⟨fun b xs e=>s b _ e,fun b o u e=>s b _ e⟩
theorem TSame.trans{H H1 H2:Hp}(a:TSame H H1)(b:TSame H1 H2):TSame H H2:=⟨fun c xs e=>b.tup c xs (a.tup c xs e),fun c o u e=>b.frz c o u (a.frz c o u e)⟩
theorem TSame.updL{H:Hp}{p:Addr}{ys:List V}{o:HO}(h:H p=some (.lst ys)):TSame H (upd H p o):=
 ⟨fun b xs e=>by rw [al (dl e h (by intro z;cases z))];exact e,fun b o u e=>by rw [al (dl e h (by intro z;cases z))];exact e⟩
theorem TSame.seqT{K:PySem.W.Frag}{H:Hp}{a:Addr}(e:TSame H H')(h:SqT K H a xs):SqT K H' a xs:=by
 rcases h with (h | ⟨o,h⟩) | h
 ·exact .inl (.inl (e.tup _ _ h))
 ·exact .inl (.inr ⟨o,e.frz _ _ _ h⟩)
 ·exact .inr h
def DeedV(K:PySem.W.Frag)(H:Hp)(x:V)(d:FB.Deed):Prop:=d.fine/\∃q,x=.ref q/\SqT K H q d.vs
theorem DeedV.ts{K:PySem.W.Frag}{H:Hp}{x:V}{d:FB.Deed}(s:TSame H H')(h:DeedV K H x d):DeedV K H' x d:=⟨h.1,let ⟨q,e,z⟩:=h.2;⟨q,e,s.seqT z⟩⟩
abbrev DeedsV (K:PySem.W.Frag) (H:Hp):List V->List FB.Deed->Prop:=Paired (DeedV K H)
theorem DeedsV.ts{K:PySem.W.Frag}{H:Hp}{xs:List V}{ds:List FB.Deed}(s:TSame H H')(h:DeedsV K H xs ds):DeedsV K H' xs ds:=h.mono fun _ _ z=>z.ts s
end L2
namespace FA
open PySem L2
end FA
namespace FL
open PySem L2 PyProof.Rows
def xw(n:Nat):List Int:=(List.range n).map fun i:Nat=>(i:Int)
def rp(b:List Int):Prop:=b≠[]/\b.Pairwise (·<=·)
instance (b:List Int):Decidable (rp b):=by unfold rp;infer_instance
structure yy(n:Nat)(bss:List (List Int)):Prop where
 good:∀b∈bss,rp b
 perm:bss.flatten.Perm (xw n)
instance (n:Nat) (bss:List (List Int)):Decidable (yy n bss):=decidable_of_iff ((∀b∈bss,rp b)/\bss.flatten.Perm (xw n)) ⟨fun ⟨a,b⟩=>⟨a,b⟩,fun h=>⟨h.good,h.perm⟩⟩
theorem rV{i j:Int}:eqV (.int i) (.int j)=decide (i=j):=by
 first | rfl | (unfold eqV;simp)
theorem mh{n k:Nat}(h:k < n):ixN n (k:Int)=some k:=by
 unfold ixN
 rw [if_pos (by omega),if_pos (by omega),Int.toNat_natCast]
end FL
namespace FL
open PySem L2 PyProof.Rows
theorem Paired.mem{α β:Type}{F:α->β->Prop}:∀{l₁:List α} {l₂:List β},Paired F l₁ l₂->∀a∈l₁,∃b∈l₂,F a b
 | _,_,.nil=>by intro a h;cases h
 | _,_,.cons h t=>by
  intro a hm
  rcases List.mem_cons.mp hm with e | e
  ·subst e;exact ⟨_,List.mem_cons_self ..,h⟩
  ·obtain ⟨b,hb,hf⟩:=Paired.mem t a e
   exact ⟨b,List.mem_cons_of_mem _ hb,hf⟩
theorem Paired.imp{α β:Type}{F G:α->β->Prop}:∀{l₁:List α} {l₂:List β},Paired F l₁ l₂->(∀a∈l₁,∀b∈l₂,F a b->G a b)->Paired G l₁ l₂
 | _,_,.nil,_=>.nil
 | _,_,.cons h t,hi=>.cons (hi _ (List.mem_cons_self ..) _ (List.mem_cons_self ..) h) (Paired.imp t fun a ha b hb=>hi a (List.mem_cons_of_mem _ ha) b (List.mem_cons_of_mem _ hb))
theorem Paired.snoc{α β:Type}{F:α->β->Prop}{a:α}{b:β}(hf:F a b):∀{l₁:List α} {l₂:List β},Paired F l₁ l₂->Paired F (l₁ ++ [a]) (l₂ ++ [b])
 | _,_,.nil=>.cons hf .nil
 | _,_,.cons h t=>.cons h (Paired.snoc hf t)
theorem Paired.put{α β:Type}{F:α->β->Prop}{a:α}{b:β}(hf:F a b):∀{l₁:List α} {l₂:List β} (i:Nat),Paired F l₁ l₂->Paired F (l₁.set i a) (l₂.set i b)
 | _,_,_,.nil=>.nil
 | _,_,0,.cons h t=>.cons hf t
 | _,_,i+1,.cons h t=>.cons h (Paired.put hf i t)
theorem Paired.of_get{α β:Type}{F:α->β->Prop}:∀{l₁:List α} {l₂:List β},l₁.length=l₂.length->(∀(i:Nat)a b,l₁[i]?=some a->l₂[i]?=some b->F a b)->Paired F l₁ l₂
 | [],[],_,_=>.nil
 | [],_ :: _,h,_=>by simp at h
 | _ :: _,[],h,_=>by simp at h
 | a :: l₁,b :: l₂,h,f=>.cons (f 0 a b rfl rfl) (Paired.of_get (by simpa using h) fun i x y hx hy=>f (i+1) x y hx hy)
section
variable {K:PySem.W.Frag} {te:TE} {ci:List Nat} {σ:L2.St} {acc:Addr} {Q:Hp->Prop} {H1:Hp}
end
section
variable {K:PySem.W.Frag} {H:Hp}
end
end FL
namespace L2
open PySem PySem.Spec PyProof.Rows
section
variable {K:PySem.W.Frag} {tt:TT} {te:TE} {ci:List Nat} {σ:St} {acc:Addr} {Q:Hp->Prop} {H1:Hp} {a:Addr} {xs:List V}
theorem nC(p:V->Bool)(f:V->V)(hz:xs.length<=sizeLine)(hl:SqL K H1 a xs)(hacc:H1 acc=none)
  (hp:∀x∈xs,∀H Q',Same H1 H->(∀H',Same H H'->Q' (p x) H')->tt (az [some x] ci σ) H Q') (hf:∀x∈xs,∀H Q',Same H1 H->p x=true->(∀H',Same H H'->Q' (f x) H')->te (az [some x] ci σ) H Q')
  (q:∀H,Same H1 H->H acc=some (.lst ((xs.filter p).map f))->Q H):bC (Itl K a) (aQ 1) tt te 1 ci σ acc Q (upd H1 acc (.lst [])):=by
 refine cD (fun i ys H=>ys=((xs.take i).filter p).map f/\Same H1 H/\H acc=some (.lst ys)) ⟨by simp,Same.upd hacc,ae⟩ (fun i ys H _ h=>h.2.1.seq hl) ?_ ?_
 ·rintro i x ys H os hi ho ⟨rfl,sm,ha⟩
  have hm:=List.mem_of_getElem? hi
  have e:(az os ci σ).set 1 (some x)=az [some x] ci σ:=by
   match os,ho with
   | [o],_=>rfl
  show (∃os',os'.length=1/\(az os ci σ).set 1 (some x)=az os' ci σ)/\tt ((az os ci σ).set 1 (some x)) H _
  rw [e]
  refine ⟨⟨[some x],rfl,rfl⟩,hp x hm _ _ sm fun H2 s2=>?_⟩
  cases hb:p x with
  | true=>
   rw [if_pos rfl]
   refine hf x hm _ _ (sm.trans s2) hb fun H3 s3=>⟨s3 _ _ (s2 _ _ ha),nP hi hz,?_,((sm.trans s2).trans s3).updM hacc,ae⟩
   rw [c9 hi,if_pos hb]
  | false=>
   rw [if_neg Bool.false_ne_true]
   refine ⟨?_,sm.trans s2,s2 _ _ ha⟩
   rw [c9 hi,if_neg (by rw [hb];exact Bool.false_ne_true),List.append_nil]
 ·rintro ys H ⟨rfl,sm,ha⟩
  rw [List.take_length] at ha
  exact q H sm ha
theorem d7(p:Nat->Bool)(f:Nat->V)(i:Nat):((List.range (i+1)).filter p).map f=((List.range i).filter p).map f ++ (if p i=true then [f i] else []):=by
 rw [List.range_succ,List.filter_append,List.map_append]
 congr 1
 cases hb:p i <;> simp [hb]
theorem j8{n:Nat}(p:Nat->Bool)(f:Nat->V)(hz:n<=sizeLine)(hacc:H1 acc=none)
  (hp:∀i:Nat,i < n->∀H Q',Same H1 H->(∀H',Same H H'->Q' (p i) H')->tt (az [some (.int (i:Int))] ci σ) H Q') (hf:∀i:Nat,i < n->∀H Q',Same H1 H->p i=true->(∀H',Same H H'->Q' (f i) H')->te (az [some (.int (i:Int))] ci σ) H Q')
  (q:∀H,Same H1 H->H acc=some (.lst (((List.range n).filter p).map f))->Q H):bC (Itr 0 n) (aQ 1) tt te 1 ci σ acc Q (upd H1 acc (.lst [])):=by
 refine j7 (fun i ys H=>ys=((List.range i).filter p).map f/\Same H1 H/\H acc=some (.lst ys)) ⟨by simp,Same.upd hacc,ae⟩ ?_ ?_
 ·rintro i ys H os hi ho ⟨rfl,sm,ha⟩
  rw [show (0:Int)+(i:Int)=(i:Int) by omega]
  have e:(az os ci σ).set 1 (some (.int (i:Int)))=az [some (.int (i:Int))] ci σ:=by
   match os,ho with
   | [o],_=>rfl
  show (∃os',os'.length=1/\(az os ci σ).set 1 (some (.int (i:Int)))=az os' ci σ)/\tt ((az os ci σ).set 1 (some (.int (i:Int)))) H _
  rw [e]
  refine ⟨⟨[some (.int (i:Int))],rfl,rfl⟩,hp i hi _ _ sm fun H2 s2=>?_⟩
  have hl:(((List.range i).filter p).map f).length < sizeLine:=by
   rw [List.length_map]
   have:=List.length_filter_le p (List.range i)
   rw [List.length_range] at this
   omega
  cases hb:p i with
  | true=>
   rw [if_pos rfl]
   refine hf i hi _ _ (sm.trans s2) hb fun H3 s3=>⟨s3 _ _ (s2 _ _ ha),hl,?_,((sm.trans s2).trans s3).updM hacc,ae⟩
   rw [d7,if_pos hb]
  | false=>
   rw [if_neg Bool.false_ne_true]
   refine ⟨?_,sm.trans s2,s2 _ _ ha⟩
   rw [d7,if_neg (by rw [hb];exact Bool.false_ne_true),List.append_nil]
 ·rintro ys H ⟨rfl,sm,ha⟩
  exact q H sm ha
end
end L2
namespace FD
open PySem L2 PyProof.Rows
def gm(c k:Int):Int:=
 if 10 ^ Int.toNat 40<=c then (c - 10 ^ Int.toNat 40) / (1 * 2 ^ (31 * (k % 60)).toNat) % (1 * 2 ^ Int.toNat 31)
 else (c * 1103515245+7919 * k * k+k) % 2147483647 * ((c * 1103515245+7919 * k * k+k) % 2147483647) % 2147483629 * 69621 % 2147483587
theorem og(c k:Int):0<=gm c k:=by
 unfold gm
 split
 ·exact Int.emod_nonneg _ (by decide)
 ·exact Int.emod_nonneg _ (by decide)
def atF(ns:List Int)(k:Int):Int:=if k < ns.length then ns.getD k.toNat 0 else 0
theorem mU{ns:List Int}{k:Int}(h:∀z∈ns,Builtin.Int.intBits z<=2 ^ 20):Builtin.Int.intBits (atF ns k)<=2 ^ 20:=by
 unfold atF
 have z0:Builtin.Int.intBits 0<=2 ^ 20:=by decide
 split
 ·rw [List.getD_eq_getElem?_getD]
  cases e:ns[k.toNat]? with
  | none=>exact z0
  | some z=>exact h z (List.mem_of_getElem? e)
 ·exact z0
def c6(n:Int):List Int:=(List.range (1+n % 6).toNat).map fun k:Nat=>n / ((k:Int)+1) % 26
def dY(z:Int):Str:=⟨#[FA.ltr z]⟩
def sn(n:Int)(j:Nat):Str:=Txt.join "" ((List.range (c6 n).length).map fun k:Nat=>dY ((c6 n).getD k 0+3 * (j:Int) * (if decide ((k:Int)=n / 64 % ((c6 n).length:Int))=true then 1 else 0)))
def kw8:List Str:=["tell","if","end","plus","in","box","while","else"]
def fT(n:Int)(m:Nat):List Str:=if n / 512 % 4=0 then kw8.take m else (List.range m).map fun j=>sn n j
theorem kJ{n:Int}{m:Nat}(h:m<=8):(fT n m).length=m:=by
 unfold fT
 split
 ·rw [List.length_take];show min m 8=m;omega
 ·simp
theorem mB(n:Int):(c6 n).length=(1+n % 6).toNat:=by unfold c6;simp
end FD
namespace L2
open PySem PyProof.Rows
end L2
namespace FG
open PySem L2 PyProof.Rows
end FG
variable {H H':Hp} {f g:List Addr}
namespace FS
open PySem L2 FB PyProof.Rows
inductive Stm where
 | deed (d:Deed)
 | ifs (n:Str) (ones others:List Stm)
 | whl (n:Str) (rows:List Stm)
mutual
inductive StmV (K:PySem.W.Frag) (H:Hp):V->Stm->List Addr->Prop where
 | deed {q:Addr} {d:Deed}:d.fine->SqT K H q d.vs->StmV K H (.ref q) (.deed d) []
 | ifs {q a b:Addr} {n:Str} {xs ys:List V} {ones others:List Stm} {f g:List Addr}:SqT K H q [.str "if",.str n,.ref a,.ref b]->H a=some (.lst xs)->H b=some (.lst ys)->StmsV K H xs ones f->StmsV K H ys others g->
   StmV K H (.ref q) (.ifs n ones others) (a :: b :: (f ++ g))
 | whl {q a:Addr} {n:Str} {xs:List V} {rows:List Stm} {f:List Addr}:SqT K H q [.str "while",.str n,.ref a]->H a=some (.lst xs)->StmsV K H xs rows f->StmV K H (.ref q) (.whl n rows) (a :: f)
inductive StmsV (K:PySem.W.Frag) (H:Hp):List V->List Stm->List Addr->Prop where
 | nil:StmsV K H [] [] []
 | cons {x:V} {s:Stm} {xs:List V} {ss:List Stm} {f g:List Addr}:StmV K H x s f->StmsV K H xs ss g->StmsV K H (x :: xs) (s :: ss) (f ++ g)
end
def Kept(fp:List Addr)(H H':Hp):Prop:=∀a∈fp,∀o,H a=some o->H' a=some o
theorem Kept.left{H:Hp}(h:Kept (f ++ g) H H'):Kept f H H':=fun a ha=>h a (List.mem_append_left _ ha)
theorem Kept.right{H:Hp}(h:Kept (f ++ g) H H'):Kept g H H':=fun a ha=>h a (List.mem_append_right _ ha)
theorem Kept.tail{x:Addr}{H:Hp}(h:Kept (x :: g) H H'):Kept g H H':=fun a ha=>h a (List.mem_cons_of_mem _ ha)
theorem Kept.of{fp:List Addr}{H:Hp}(s:Same H H'):Kept fp H H':=fun a _ o e=>s a o e
theorem Kept.upd{fp:List Addr}{p:Addr}{o:HO}(h:p∉fp):Kept fp H (upd H p o):=fun a ha u e=>by rw [al (fun z=>h (by rw [<- z];exact ha))];exact e
variable {K:PySem.W.Frag}
mutual
theorem StmV.keep{H:Hp}(t:TSame H H'):∀{x:V} {s:Stm} {f:List Addr},StmV K H x s f->Kept f H H'->StmV K H' x s f
 | _,_,_,.deed hf h,_=>.deed hf (t.seqT h)
 | _,_,_,.ifs (a:=a) (b:=b) h ha hb h1 h2,k=>.ifs (t.seqT h) (k a (by simp) _ ha) (k b (by simp) _ hb) (StmsV.keep t h1 k.tail.tail.left) (StmsV.keep t h2 k.tail.tail.right)
 | _,_,_,.whl (a:=a) h ha h1,k=>.whl (t.seqT h) (k a (by simp) _ ha) (StmsV.keep t h1 k.tail)
theorem StmsV.keep{H:Hp}(t:TSame H H'):∀{xs:List V} {ss:List Stm} {f:List Addr},StmsV K H xs ss f->Kept f H H'->StmsV K H' xs ss f
 | _,_,_,.nil,_=>.nil
 | _,_,_,.cons h1 h2,k=>.cons (StmV.keep t h1 k.left) (StmsV.keep t h2 k.right)
end
theorem StmsV.same{H:Hp}{xs:List V}{ss:List Stm}(h:StmsV K H xs ss f)(s:Same H H'):StmsV K H' xs ss f:=h.keep s.ts (Kept.of s)
theorem StmV.same{H:Hp}{x:V}{s:Stm}(h:StmV K H x s f)(sm:Same H H'):StmV K H' x s f:=h.keep sm.ts (Kept.of sm)
theorem StmsV.length:∀{xs:List V} {ss:List Stm} {f:List Addr},StmsV K H xs ss f->xs.length=ss.length
 | _,_,_,.nil=>rfl
 | _,_,_,.cons _ h=>by rw [List.length_cons,List.length_cons,StmsV.length h]
theorem StmsV.snoc{H:Hp}{y:V}{r:Stm}(hy:StmV K H y r g):∀{xs:List V} {ss:List Stm} {f:List Addr},StmsV K H xs ss f->StmsV K H (xs ++ [y]) (ss ++ [r]) (f ++ g)
 | _,_,_,.nil=>by have:=StmsV.cons hy StmsV.nil;rw [List.append_nil] at this;exact this
 | _,_,_,.cons h1 h2=>by rw [List.append_assoc];exact .cons h1 (StmsV.snoc hy h2)
mutual
theorem StmV.tracked:∀{x:V} {s:Stm} {f:List Addr},StmV K H x s f->∀a∈f,∃zs,H a=some (.lst zs)
 | _,_,_,.deed _ _,a,ha=>by cases ha
 | _,_,_,.ifs (f:=f) (g:=g) h ha hb h1 h2,c,hc=>by
  rcases List.mem_cons.mp hc with rfl | hc
  ·exact ⟨_,ha⟩
  rcases List.mem_cons.mp hc with rfl | hc
  ·exact ⟨_,hb⟩
  rcases List.mem_append.mp hc with hc | hc
  ·exact StmsV.tracked h1 c hc
  ·exact StmsV.tracked h2 c hc
 | _,_,_,.whl h ha h1,c,hc=>by
  rcases List.mem_cons.mp hc with rfl | hc
  ·exact ⟨_,ha⟩
  ·exact StmsV.tracked h1 c hc
theorem StmsV.tracked:∀{xs:List V} {ss:List Stm} {f:List Addr},StmsV K H xs ss f->∀a∈f,∃zs,H a=some (.lst zs)
 | _,_,_,.nil,a,ha=>by cases ha
 | _,_,_,.cons h1 h2,a,ha=>by
  rcases List.mem_append.mp ha with ha | ha
  ·exact StmV.tracked h1 a ha
  ·exact StmsV.tracked h2 a ha
end
theorem StmsV.get:∀{xs:List V} {ss:List Stm} {f:List Addr} {i:Nat} {x:V},StmsV K H xs ss f->xs[i]?=some x->∃s g,ss[i]?=some s/\StmV K H x s g/\∀a∈g,a∈f
 | _,_,_,_,_,.nil,e=>by simp at e
 | _,_,_,0,_,.cons h _,e=>by simp at e;subst e;exact ⟨_,_,rfl,h,fun a ha=>List.mem_append_left _ ha⟩
 | _,_,_,i+1,x,.cons _ t,e=>by
  obtain ⟨s,g,h1,h2,h3⟩:=StmsV.get (i:=i) (x:=x) t (by simpa using e)
  exact ⟨s,g,by simpa using h1,h2,fun a ha=>List.mem_append_right _ (h3 a ha)⟩
theorem eY{α:Type}{l₁ l₂:List α}(h1:l₁.Nodup)(h2:l₂.Nodup)(h:∀a∈l₁,a∉l₂):(l₁ ++ l₂).Nodup:=by
 rw [List.nodup_append]
 exact ⟨h1,h2,fun a ha b hb e=>h a ha (by rw [e];exact hb)⟩
end FS
namespace FP
open PySem L2 FB FS FA PyProof.Rows
variable {K:PySem.W.Frag}
end FP
namespace FS
open PySem L2 FB PyProof.Rows
theorem zh{f k:Str}(h:f∈opsL)(hk:opsL.contains k=false):¬f=k:=by
 rintro rfl
 rw [List.contains_eq_mem,decide_eq_false_iff_not] at hk
 exact hk h
theorem iz{K:PySem.W.Frag}{H:Hp}{q:Addr}{d:Deed}{k:Str}{Z:V->Hp->Prop}(hf:d.fine)(hq:SqT K H q d.vs)(h1:opsL.contains k=false)(h2:¬("tell":Str)=k) (h3:¬("copy":Str)=k) (h:Z (.bl false) H):∃xs v,SqT K H q xs/\atI xs 0=some v/\rEq v (.str k) H Z:=by
 cases d with
 | tell a=>exact ⟨_,_,hq,rfl,rfl,by rw [decide_eq_false (fun z=>h2 (V.str.inj z))];exact h⟩
 | copy n a=>exact ⟨_,_,hq,rfl,rfl,by rw [decide_eq_false (fun z=>h3 (V.str.inj z))];exact h⟩
 | op f n a b=>exact ⟨_,_,hq,rfl,rfl,by rw [decide_eq_false (fun z=>zh hf h1 (V.str.inj z))];exact h⟩
mutual
def Stm.deep:Stm->Nat
 | .deed _=>0
 | .ifs _ a b=>max (bo a) (bo b)+1
 | .whl _ a=>bo a+1
def bo:List Stm->Nat
 | []=>0
 | s :: ss=>max s.deep (bo ss)
end
mutual
def Stm.many:Stm->Nat
 | .deed _=>1
 | .ifs _ a b=>aK a+aK b+1
 | .whl _ a=>aK a+1
def aK:List Stm->Nat
 | []=>0
 | s :: ss=>s.many+aK ss
end
def Opd.good(ns:List Str)(w:Int):Opd->Prop
 | .box n=>n∈ns
 | .word i=>0<=i/\i < 2 ^ w.toNat
def Deed.good(ns:List Str)(w:Int):Deed->Prop
 | .tell a=>Opd.good ns w a
 | .copy d a=>d∈ns/\Opd.good ns w a
 | .op f d a b=>f∈opsL/\d∈ns/\Opd.good ns w a/\Opd.good ns w b
mutual
def Stm.good(ns:List Str)(w:Int):Stm->Prop
 | .deed d=>Deed.good ns w d
 | .ifs n a b=>n∈ns/\cB ns w a/\cB ns w b
 | .whl n a=>n∈ns/\cB ns w a
def cB(ns:List Str)(w:Int):List Stm->Prop
 | []=>True
 | s :: ss=>s.good ns w/\cB ns w ss
end
theorem vG(s:Stm):1<=s.many:=by cases s <;> simp [Stm.many]
theorem gj(ss:List Stm):ss.length<=aK ss:=by
 induction ss with
 | nil=>simp [aK]
 | cons s ss ih=>rw [aK,List.length_cons];have:=vG s;omega
theorem nX{s:Stm}{ss:List Stm}(h:s∈ss):s.many<=aK ss:=by
 induction ss with
 | nil=>cases h
 | cons x xs ih=>
  rw [aK]
  rcases List.mem_cons.mp h with z | z
  ·subst z;omega
  ·have:=ih z;omega
theorem eS{s:Stm}{ss:List Stm}(h:s∈ss):s.deep<=bo ss:=by
 induction ss with
 | nil=>cases h
 | cons x xs ih=>
  rw [bo]
  rcases List.mem_cons.mp h with z | z
  ·subst z;omega
  ·have:=ih z;omega
theorem g9{a b:List Stm}:bo (a ++ b)=max (bo a) (bo b):=by
 induction a with
 | nil=>simp [bo]
 | cons s ss ih=>rw [List.cons_append,bo,bo,ih,Nat.max_assoc]
theorem cF{a b:List Stm}:aK (a ++ b)=aK a+aK b:=by
 induction a with
 | nil=>simp [aK]
 | cons s ss ih=>rw [List.cons_append,aK,aK,ih];omega
theorem goodL_append{ns:List Str}{w:Int}{a b:List Stm}:cB ns w (a ++ b)↔cB ns w a/\cB ns w b:=by
 induction a with
 | nil=>simp [cB]
 | cons s ss ih=>rw [List.cons_append,cB,cB,ih];exact and_assoc.symm
end FS
namespace FP
open PySem L2 FB FS FA PyProof.Rows
end FP
variable {H:Hp} {o:HO}
namespace L2
open PySem PySem.Spec PyProof.Rows
def SameX(p:Addr)(H H':Hp):Prop:=∀c o,H c=some o->c≠p->H' c=some o
theorem SameX.refl{p:Addr}:SameX p H H:=fun _ _ e _=>e
theorem SameX.trans{p:Addr}{H H1 H2:Hp}(a:SameX p H H1)(b:SameX p H1 H2):SameX p H H2:=fun c o e n=>b c o (a c o e n) n
theorem SameX.of{p:Addr}{H H':Hp}(s:Same H H'):SameX p H H':=fun c o e _=>s c o e
theorem SameX.upd{p:Addr}:SameX p H (L2.upd H p o):=fun c u e n=>by rw [al n];exact e
theorem SameX.free{p c:Addr}{H H':Hp}(s:SameX p H H')(hp:H' p=some o)(h:H' c=none):H c=none:=by
 cases e:H c with
 | none=>rfl
 | some u=>
  have n:c≠p:=fun z=>by subst z;rw [hp] at h;cases h
  rw [s c u e n] at h;cases h
theorem TSame.updI{H:Hp}{p C dx:Addr}{fs:List (Str×V)}(h:H p=some (.ins C dx fs)):TSame H (L2.upd H p o):=
 ⟨fun b xs e=>by rw [al (fun z=>by rw [z,h] at e;cases e)];exact e,fun b u v e=>by rw [al (fun z=>by rw [z,h] at e;cases e)];exact e⟩
end L2
namespace FS
open PySem L2 FB PyProof.Rows
def BE(wd:Int)(a b r:Addr):List (Str×V):=[("width",.int wd),("ins",.ref a),("boxes",.ref b),("rows",.ref r)]
structure ProgAt(K:PySem.W.Frag)(C:Addr)(H:Hp)(p:Addr)(wd:Int)(ins oth:List Str)(ss:List Stm)(a b r:Addr)(xs:List V)(f:List Addr):Prop where
 ob:∃dx,H p=some (.ins C dx (BE wd a b r))
 ia:H a=some (.lst (ins.map V.str))
 bx:H b=some (.lst ((ins ++ oth).map V.str))
 rs:H r=some (.lst xs)
 st:StmsV K H xs ss f
theorem ProgAt.same{K:PySem.W.Frag}{C:Addr}{H H':Hp}{p:Addr}{wd:Int}{ins oth:List Str}{ss:List Stm}{a b r:Addr}{xs:List V}{f:List Addr}(h:ProgAt K C H p wd ins oth ss a b r xs f)(s:Same H H'):ProgAt K C H' p wd ins oth ss a b r xs f:=
 ⟨let ⟨dx,e⟩:=h.ob;⟨dx,s _ _ e⟩,s _ _ h.ia,s _ _ h.bx,s _ _ h.rs,h.st.same s⟩
theorem dm{f:Str}{v:V}:∀{fs:List (Str×V)},(fs.map (·.1)).contains f=false->cH f v fs=fs ++ [(f,v)]
 | [],_=>rfl
 | (g,x) :: r,h=>by
  rw [List.map_cons,List.contains_cons,Bool.or_eq_false_iff] at h
  have n:¬g=f:=fun z=>by subst z;simp at h
  rw [show cH f v ((g,x) :: r)=(if g=f then (g,v) :: r else (g,x) :: cH f v r) from rfl,if_neg n,dm h.2];rfl
end FS
namespace K01M
theorem tb(x w:Nat):x / 2 ^ w % 2=(x.testBit w).toNat:=by
 rw [Nat.testBit_eq_decide_div_mod_eq]
 have h:x / 2 ^ w % 2=0\/x / 2 ^ w % 2=1:=by omega
 rcases h with h | h <;> simp [h]
end K01M
namespace FO
open PySem L2 K01M FB PyProof.Rows
abbrev ops:List Str:=FB.opsL
end FO
namespace FR
open PySem L2 FB FS FG FO PyProof.Rows
end FR
namespace L2
open PySem PySem.Spec PyProof.Rows
section
variable {K:PySem.W.Frag} {te:TE} {ci:List Nat} {σ:St} {acc:Addr} {Q:Hp->Prop} {H1:Hp} {a:Addr} {xs:List V}
end
end L2
namespace FW
open PySem L2 FB FS FG FO FR PyProof.Rows
section
variable {K:PySem.W.Frag} {H:Hp}
theorem rT{n:Nat}{v:V}(h:bz v=true)(e:eqV v v=true):Dq K H n v v true:=by
 have z:=Dq.flat (K:=K) (H:=H) (n:=n) h h
 rw [e] at z
 exact z
theorem de{n:Nat}{s:Str}:Dq K H n (.str s) (.str s) true:=rT rfl (by simp [eqV])
theorem gn(o:Opd){n:Nat}:Dq K H n o.v o.v true:=by
 cases o with
 | box m=>exact de
 | word i=>exact rT (v:=V.int i) rfl (by simp [eqV])
theorem yJ{n:Nat}(d:Deed):∀(j:Nat)x y,d.vs[j]?=some x->d.vs[j]?=some y->Dq K H n x y true:=by
 intro j x y hx hy
 rw [hx] at hy
 cases hy
 cases d with
 | tell a=>
  match j,hx with
  | 0,hx=>cases hx;exact de
  | 1,hx=>cases hx;exact gn a
  | j+2,hx=>simp [Deed.vs] at hx
 | copy c a=>
  match j,hx with
  | 0,hx=>cases hx;exact de
  | 1,hx=>cases hx;exact de
  | 2,hx=>cases hx;exact gn a
  | j+3,hx=>simp [Deed.vs] at hx
 | op f c a b=>
  match j,hx with
  | 0,hx=>cases hx;exact de
  | 1,hx=>cases hx;exact de
  | 2,hx=>cases hx;exact gn a
  | 3,hx=>cases hx;exact gn b
  | j+4,hx=>simp [Deed.vs] at hx
end
end FW
namespace FX
open PySem L2 FB FS FG FO FR FW PyProof.Rows
structure Nd where
 rd:List Str
 nm:Option Str
 ah:List Int
def seen(old new:Nat->Nat)(i:Nat)(j:Int):Nat:=if j < 0 then 0 else if j.toNat < i then new j.toNat else old j.toNat
section
variable {n:Str} {N:List Nd} {v:Nat->Nat->Nat}
end
section
variable {S:List (List Str)}
end
end FX
namespace FX
open PySem L2 FB FS FG FO FR FW PyProof.Rows PySem.Spec
def leS(a b:Str):Bool:=!ltCps b.cps.toList a.cps.toList
def srt(l:List Str):List Str:=l.mergeSort leS
end FX
namespace L2
open PySem PySem.Spec PyProof.Rows
section
variable {X:Cx}
def wJ(K:PySem.W.Frag):List V->Hp->VK->Prop:=fun xs H Q=>∃(a:Addr)(ns:List Str),xs=[.ref a]/\SqL K H a (ns.map V.str)/\ns.length < 64/\∀l:Addr,H l=none->Q (.ref l) (upd H l (.lst ((FX.srt ns).map V.str)))
theorem lF{K:PySem.W.Frag}{a:Addr}{H:Hp}{Q:VK}:wJ K [.ref a] H Q=∃ns:List Str,SqL K H a (ns.map V.str)/\ns.length < 64/\∀l:Addr,H l=none->Q (.ref l) (upd H l (.lst ((FX.srt ns).map V.str))):=propext ⟨by rintro ⟨_,ns,e,q⟩;cases e;exact ⟨ns,q⟩,by rintro ⟨ns,q⟩;exact ⟨a,ns,rfl,q⟩⟩
end
end L2
namespace FZ
open PySem L2 FB FS FG FO FR PyProof.Rows
inductive Ed where
 | stop
 | go (i:Nat)
 | choose (n:Str) (i j:Nat)
 deriving DecidableEq
structure Blk where
 ds:List Deed
 ed:Ed
def aS(b:Blk)(B:List Blk):Nat×List Blk:=match b.ds,b.ed with
 | [],.go i=>(i,B)
 | _,_=>(B.length,B ++ [b])
mutual
def bK:Stm->Blk->List Blk->Blk×List Blk
 | .deed d,b,B=>if b.ds.length=8 then (⟨[d],.go (aS b B).1⟩,(aS b B).2) else (⟨d :: b.ds,b.ed⟩,B)
 | .ifs n x y,b,B=>
  let w:=aS b B
  let o:=aL x ⟨[],.go w.1⟩ w.2
  let wo:=aS o.1 o.2
  let p:=aL y ⟨[],.go w.1⟩ wo.2
  let wp:=aS p.1 p.2
  (⟨[],.choose n wo.1 wp.1⟩,wp.2)
 | .whl n a,b,B=>
  let w:=aS b B
  let o:=aL a ⟨[],.go w.2.length⟩ (w.2 ++ [⟨[],.stop⟩])
  let wo:=aS o.1 o.2
  (⟨[],.go w.2.length⟩,wo.2.set w.2.length ⟨[],.choose n wo.1 w.1⟩)
def aL:List Stm->Blk->List Blk->Blk×List Blk
 | [],b,B=>(b,B)
 | s :: r,b,B=>bK s (aL r b B).1 (aL r b B).2
end
def bU(ss:List Stm):List Blk:=(aL ss ⟨[],.stop⟩ [⟨[],.stop⟩]).2.set 0 (aL ss ⟨[],.stop⟩ [⟨[],.stop⟩]).1
def Ed.tg:Ed->List Nat
 | .stop=>[]
 | .go i=>[i]
 | .choose _ i j=>[i,j]
theorem qa(b:Blk)(B:List Blk):((aS b B).2=B/\b.ds=[]/\b.ed=.go (aS b B).1)\/((aS b B).1=B.length/\(aS b B).2=B ++ [b]):=by
 obtain ⟨ds,ed⟩:=b
 unfold aS
 cases ds with
 | nil=>
  cases ed with
  | stop=>exact .inr ⟨rfl,rfl⟩
  | go i=>exact .inl ⟨rfl,rfl,rfl⟩
  | choose n i j=>exact .inr ⟨rfl,rfl⟩
 | cons d r=>exact .inr ⟨rfl,rfl⟩
theorem ba(b:Blk)(B:List Blk):B.length<=(aS b B).2.length/\(aS b B).2.length<=B.length+1/\∀i,i < B.length->(aS b B).2[i]?=B[i]?:=by
 rcases qa b B with ⟨h,_⟩ | ⟨_,h⟩
 ·rw [h];exact ⟨Nat.le_refl _,by omega,fun _ _=>rfl⟩
 ·rw [h,List.length_append,List.length_singleton]
  exact ⟨by omega,by omega,fun i hi=>List.getElem?_append_left hi⟩
theorem cc{A B C:List Blk}(h1:A.length<=B.length/\∀i,i < A.length->B[i]?=A[i]?)(h2:B.length<=C.length/\∀i,i < B.length->C[i]?=B[i]?):A.length<=C.length/\∀i,i < A.length->C[i]?=A[i]?:=⟨Nat.le_trans h1.1 h2.1,fun i hi=>(h2.2 i (Nat.lt_of_lt_of_le hi h1.1)).trans (h1.2 i hi)⟩
theorem cO(b:Blk)(B:List Blk):B.length<=(aS b B).2.length/\∀i,i < B.length->(aS b B).2[i]?=B[i]?:=⟨(ba b B).1,(ba b B).2.2⟩
theorem yA(b:Blk)(B:List Blk):B.length<=(B ++ [b]).length/\∀i,i < B.length->(B ++ [b])[i]?=B[i]?:=⟨by rw [List.length_append];exact Nat.le_add_right _ _,fun _ hi=>List.getElem?_append_left hi⟩
theorem zN{A B:List Blk}(b:Blk)(h:A.length<=B.length/\∀i,i < A.length->B[i]?=A[i]?):A.length<=(B.set A.length b).length/\∀i,i < A.length->(B.set A.length b)[i]?=A[i]?:=⟨by rw [List.length_set];exact h.1,fun i hi=>(List.getElem?_set_ne (Nat.ne_of_gt hi)).trans (h.2 i hi)⟩
mutual
theorem uR:∀(s:Stm)(b:Blk)(B:List Blk),B.length<=(bK s b B).2.length/\∀i,i < B.length->(bK s b B).2[i]?=B[i]?
 | .deed d,b,B=>by
  rw [bK]
  split
  ·exact cO b B
  ·exact ⟨Nat.le_refl _,fun _ _=>rfl⟩
 | .ifs n x y,b,B=>by
  rw [bK]
  exact cc (cO _ _) (cc (bQ x _ _) (cc (cO _ _) (cc (bQ y _ _) (cO _ _))))
 | .whl n a,b,B=>by
  rw [bK]
  exact cc (cO b B) (zN _ (cc (yA _ _) (cc (bQ a _ _) (cO _ _))))
theorem bQ:∀(l:List Stm)(b:Blk)(B:List Blk),B.length<=(aL l b B).2.length/\∀i,i < B.length->(aL l b B).2[i]?=B[i]?
 | [],b,B=>by rw [aL];exact ⟨Nat.le_refl _,fun _ _=>rfl⟩
 | s :: r,b,B=>by
  rw [aL]
  exact cc (bQ r b B) (uR s _ _)
end
mutual
theorem uS:∀(s:Stm)(b:Blk)(B:List Blk),(bK s b B).2.length<=B.length+3 * s.many
 | .deed d,b,B=>by
  have:=(ba b B).2.1
  rw [bK,Stm.many]
  split <;> dsimp only <;> omega
 | .ifs n x y,b,B=>by
  rw [bK,Stm.many]
  dsimp only
  have h1:=ba b B
  generalize aS b B=w at *
  have h2:=bZ x ⟨[],.go w.1⟩ w.2
  generalize aL x ⟨[],.go w.1⟩ w.2=o at *
  have h3:=ba o.1 o.2
  generalize aS o.1 o.2=wo at *
  have h4:=bZ y ⟨[],.go w.1⟩ wo.2
  generalize aL y ⟨[],.go w.1⟩ wo.2=p at *
  have h5:=ba p.1 p.2
  generalize aS p.1 p.2=wp at *
  omega
 | .whl n a,b,B=>by
  rw [bK,Stm.many]
  dsimp only
  have h1:=ba b B
  generalize aS b B=w at *
  have h2:=bZ a ⟨[],.go w.2.length⟩ (w.2 ++ [⟨[],.stop⟩])
  generalize aL a ⟨[],.go w.2.length⟩ (w.2 ++ [⟨[],.stop⟩])=o at *
  have h3:=ba o.1 o.2
  generalize aS o.1 o.2=wo at *
  rw [List.length_append,List.length_singleton] at h2
  rw [List.length_set]
  omega
theorem bZ:∀(l:List Stm)(b:Blk)(B:List Blk),(aL l b B).2.length<=B.length+3 * aK l
 | [],b,B=>by rw [aL,aK];exact Nat.le_add_right _ _
 | s :: r,b,B=>by
  have h1:=bZ r b B
  rw [aL,aK]
  generalize aL r b B=o at *
  have h2:=uS s o.1 o.2
  omega
end
theorem g6(ss:List Stm):(bU ss).length<=3 * aK ss+1/\0 < (bU ss).length:=by
 have h1:=bZ ss ⟨[],.stop⟩ [⟨[],.stop⟩]
 have h2:=(bQ ss ⟨[],.stop⟩ [⟨[],.stop⟩]).1
 unfold bU
 rw [List.length_set]
 simp only [List.length_singleton] at h1 h2
 omega
structure BlkG(ns:List Str)(w:Int)(m:Nat)(b:Blk):Prop where
 gd:∀d∈b.ds,Deed.good ns w d
 len:b.ds.length<=8
 tg:∀i∈b.ed.tg,i < m
 nm:∀n i j,b.ed=.choose n i j->n∈ns
theorem BlkG.mono{ns:List Str}{w:Int}{m m':Nat}{b:Blk}(h:BlkG ns w m b)(hm:m<=m'):BlkG ns w m' b:=⟨h.gd,h.len,fun i hi=>Nat.lt_of_lt_of_le (h.tg i hi) hm,h.nm⟩
def fX(ns:List Str)(w:Int)(m:Nat)(B:List Blk):Prop:=∀b∈B,BlkG ns w m b
theorem goG{ns:List Str}{w:Int}{m i:Nat}(h:i < m):BlkG ns w m ⟨[],.go i⟩:=⟨fun d hd=>(List.not_mem_nil hd).elim,Nat.zero_le _,fun j hj=>by rw [List.mem_singleton.mp hj];exact h,fun n i j e=>by cases e⟩
theorem xM{ns:List Str}{w:Int}{m:Nat}:BlkG ns w m ⟨[],.stop⟩:=⟨fun d hd=>(List.not_mem_nil hd).elim,Nat.zero_le _,fun j hj=>(List.not_mem_nil hj).elim,fun n i j e=>by cases e⟩
theorem ff{ns:List Str}{w:Int}{b:Blk}{B:List Blk}(hb:BlkG ns w B.length b)(hB:fX ns w B.length B):(aS b B).1 < (aS b B).2.length/\fX ns w (aS b B).2.length (aS b B).2:=by
 rcases qa b B with ⟨h1,h2,h3⟩ | ⟨h1,h2⟩
 ·rw [h1]
  exact ⟨hb.tg _ (by rw [h3];simp [Ed.tg]),hB⟩
 ·rw [h1,h2,List.length_append,List.length_singleton]
  refine ⟨by omega,fun c hc=>?_⟩
  rcases List.mem_append.mp hc with z | z
  ·exact (hB c z).mono (by omega)
  ·rw [List.mem_singleton.mp z];exact hb.mono (by omega)
mutual
theorem zY{ns:List Str}{w:Int}:∀(s:Stm)(b:Blk)(B:List Blk),s.good ns w->BlkG ns w B.length b->fX ns w B.length B->BlkG ns w (bK s b B).2.length (bK s b B).1/\fX ns w (bK s b B).2.length (bK s b B).2
 | .deed d,b,B,hs,hb,hB=>by
  rw [bK]
  split
  ·obtain ⟨h1,h2⟩:=ff hb hB
   exact ⟨⟨fun c hc=>by rw [List.mem_singleton.mp hc];exact hs,by simp,fun i hi=>by rw [List.mem_singleton.mp hi];exact h1,fun n i j e=>by cases e⟩,h2⟩
  ·next hl=>
   have:=hb.len
   exact ⟨⟨fun c hc=>by
    rcases List.mem_cons.mp hc with z | z
    ·rw [z];exact hs
    ·exact hb.gd c z,by rw [List.length_cons];omega,hb.tg,hb.nm⟩,hB⟩
 | .ifs n x y,b,B,hs,hb,hB=>by
  rw [bK]
  dsimp only
  obtain ⟨h1,h2⟩:=ff hb hB
  generalize aS b B=w0 at *
  obtain ⟨h3,h4⟩:=gr x ⟨[],.go w0.1⟩ w0.2 hs.2.1 (goG h1) h2
  have l3:=bQ x ⟨[],.go w0.1⟩ w0.2
  generalize aL x ⟨[],.go w0.1⟩ w0.2=o at *
  obtain ⟨h5,h6⟩:=ff h3 h4
  have l5:=ba o.1 o.2
  generalize aS o.1 o.2=wo at *
  obtain ⟨h7,h8⟩:=gr y ⟨[],.go w0.1⟩ wo.2 hs.2.2 (goG (by omega)) h6
  have l7:=bQ y ⟨[],.go w0.1⟩ wo.2
  generalize aL y ⟨[],.go w0.1⟩ wo.2=p at *
  obtain ⟨h9,h10⟩:=ff h7 h8
  have l9:=ba p.1 p.2
  generalize aS p.1 p.2=wp at *
  refine ⟨⟨fun d hd=>(List.not_mem_nil hd).elim,Nat.zero_le _,fun i hi=>?_,fun m i j e=>by cases e;exact hs.1⟩,h10⟩
  have hi':i∈[wo.1,wp.1]:=hi
  rcases List.mem_cons.mp hi' with z | z
  ·omega
  ·rw [List.mem_singleton.mp z];exact h9
 | .whl n a,b,B,hs,hb,hB=>by
  rw [bK]
  dsimp only
  obtain ⟨h1,h2⟩:=ff hb hB
  generalize aS b B=w0 at *
  have hB2:fX ns w (w0.2 ++ [(⟨[],.stop⟩:Blk)]).length (w0.2 ++ [(⟨[],.stop⟩:Blk)]):=fun c hc=>by
   rw [List.length_append,List.length_singleton]
   rcases List.mem_append.mp hc with z | z
   ·exact (h2 c z).mono (by omega)
   ·rw [List.mem_singleton.mp z];exact xM
  obtain ⟨h3,h4⟩:=gr a ⟨[],.go w0.2.length⟩ (w0.2 ++ [⟨[],.stop⟩]) hs.2 (goG (by rw [List.length_append,List.length_singleton];omega)) hB2
  have l3:=bQ a ⟨[],.go w0.2.length⟩ (w0.2 ++ [⟨[],.stop⟩])
  generalize aL a ⟨[],.go w0.2.length⟩ (w0.2 ++ [⟨[],.stop⟩])=o at *
  rw [List.length_append,List.length_singleton] at l3
  obtain ⟨h5,h6⟩:=ff h3 h4
  have l5:=ba o.1 o.2
  generalize aS o.1 o.2=wo at *
  rw [List.length_set]
  refine ⟨goG (by omega),fun c hc=>?_⟩
  rcases List.mem_or_eq_of_mem_set hc with z | z
  ·exact h6 c z
  ·rw [z]
   refine ⟨fun d hd=>(List.not_mem_nil hd).elim,Nat.zero_le _,fun i hi=>?_,fun m i j e=>by cases e;exact hs.1⟩
   have hi':i∈[wo.1,w0.1]:=hi
   rcases List.mem_cons.mp hi' with y | y
   ·rw [y];exact h5
   ·rw [List.mem_singleton.mp y];omega
theorem gr{ns:List Str}{w:Int}:∀(l:List Stm)(b:Blk)(B:List Blk),cB ns w l->BlkG ns w B.length b->fX ns w B.length B->BlkG ns w (aL l b B).2.length (aL l b B).1/\fX ns w (aL l b B).2.length (aL l b B).2
 | [],b,B,_,hb,hB=>by rw [aL];exact ⟨hb,hB⟩
 | s :: r,b,B,hl,hb,hB=>by
  obtain ⟨h1,h2⟩:=gr r b B hl.2 hb hB
  rw [aL]
  exact zY s _ _ hl.1 h1 h2
end
theorem j2{ns:List Str}{w:Int}{ss:List Stm}(h:cB ns w ss):fX ns w (bU ss).length (bU ss):=by
 obtain ⟨h1,h2⟩:=gr ss ⟨[],.stop⟩ [⟨[],.stop⟩] h xM (fun c hc=>by rw [List.mem_singleton.mp hc];exact xM)
 unfold bU
 rw [List.length_set]
 intro c hc
 rcases List.mem_or_eq_of_mem_set hc with z | z
 ·exact h2 c z
 ·rw [z];exact h1
end FZ
variable {bt dn:List Nat}
namespace GD
section
variable (G:Nat->Nat->Option Int) (so:Nat->Nat) (U:Nat->Int)
def dW(bt:List Nat)(s:Nat):Nat:=bt.countP fun o=>decide (so o=s)
def cj(dn bt:List Nat)(p j:Nat):Bool:=match G j p with
 | none=>true
 | some l=>decide (j∈dn) || (decide (l=0) && decide (j∈bt))
def bv(dn bt:List Nat)(p:Nat):Bool:=!(decide (so p < 3) && decide ((dW so bt (so p):Int)=U (so p))) && (List.range p).all (cj G dn bt p)
def fw(dn bt:List Nat)(p:Nat):List (List Nat):=(if bv G so U dn bt p=true then [bt ++ [p]] else []) ++ (if bv G so U dn bt p=false\/so p < 3 then [bt] else [])
def bn(dn:List Nat)(bts:List (List Nat))(p:Nat):List (List Nat):=bts.flatMap fun b=>fw G so U dn b p
def bP(n:Nat)(dn:List Nat):List Nat:=(List.range n).filter fun p=>!decide (p∈dn)
def roomB(dn b ms:List Nat):Bool:=ms.any fun p=>!decide (p∈b) && bv G so U dn b p
def bE(n:Nat)(dn:List Nat):List (List Nat):=((bP n dn).foldl (bn G so U dn) [[]]).filter fun b=>!roomB G so U dn b (bP n dn)
def cm(n:Nat)(dn b:List Nat):List Nat:=(List.range n).filter fun p=>decide (p∈dn) || decide (p∈b)
def gW(acc:List (List Nat×List (List Nat)))(k:List Nat)(v:List (List Nat)):List (List Nat×List (List Nat)):=if k∈acc.map (·.1) then acc else acc ++ [(k,v)]
def cZ(n:Nat)(acc:List (List Nat×List (List Nat)))(w:List Nat×List (List Nat))(bs:List (List Nat)):List (List Nat×List (List Nat)):=bs.foldl (fun acc b=>gW acc (cm n w.1 b) (w.2 ++ [b])) acc
def AB(n:Nat)(ws:List (List Nat×List (List Nat))):List (List Nat×List (List Nat)):=ws.foldl (fun acc w=>cZ n acc w (bE G so U n w.1)) []
def bJ(n:Nat):Nat->List (List Nat×List (List Nat))
 | 0=>[([],[])]
 | r+1=>AB G so U n (bJ n r)
inductive Lay (n:Nat):List (List Nat)->List Nat->Prop
 | nil:Lay n [] []
 | snoc {bss dn b}:Lay n bss dn->b∈bE G so U n dn->Lay n (bss ++ [b]) (cm n dn b)
structure Fine(dn ms b:List Nat):Prop where
 sub:b.Sublist ms
 lean:∀p∈b,∀j,j < p->cj G dn b p j=true
 load:∀s,s < 3->(dW so b s:Int)<=U s
end
section
variable {G:Nat->Nat->Option Int} {so:Nat->Nat} {U:Nat->Int} {n:Nat}
theorem tN{p s:Nat}:dW so (bt ++ [p]) s=dW so bt s+(if so p=s then 1 else 0):=by
 unfold dW
 rw [List.countP_append]
 simp [List.countP_cons]
theorem iZ{dn b e:List Nat}{p j:Nat}(h:cj G dn b p j=true):cj G dn (b ++ e) p j=true:=by
 unfold cj at *
 split
 ·rfl
 ·rename_i l hl
  rw [hl] at h
  simp only [Bool.or_eq_true,Bool.and_eq_true,decide_eq_true_eq,List.mem_append] at *
  rcases h with h | ⟨h1,h2⟩
  ·exact .inl h
  ·exact .inr ⟨h1,.inl h2⟩
theorem fits_iff{p:Nat}:bv G so U dn bt p=true↔(so p < 3->(dW so bt (so p):Int)≠U (so p))/\∀j,j < p->cj G dn bt p j=true:=by
 unfold bv
 simp only [Bool.and_eq_true,Bool.not_eq_true',Bool.and_eq_false_iff,decide_eq_false_iff_not,List.all_eq_true,List.mem_range]
 constructor
 ·rintro ⟨h1,h2⟩
  exact ⟨fun h=>h1.elim (fun z=>absurd h z) id,h2⟩
 ·rintro ⟨h1,h2⟩
  refine ⟨?_,h2⟩
  by_cases h:so p < 3
  ·exact .inr (h1 h)
  ·exact .inl h
theorem Fine.mono{dn ms ms' b:List Nat}(h:Fine G so U dn ms b)(hs:ms.Sublist ms'):Fine G so U dn ms' b:=⟨h.sub.trans hs,h.lean,h.load⟩
theorem Fine.add{dn ms b:List Nat}{p:Nat}(h:Fine G so U dn ms b)(hf:bv G so U dn b p=true):Fine G so U dn (ms ++ [p]) (b ++ [p]):=by
 obtain ⟨h1,h2⟩:=fits_iff.mp hf
 refine ⟨h.sub.append (List.Sublist.refl _),fun q hq j hj=>?_,fun s hs=>?_⟩
 ·rcases List.mem_append.mp hq with hq | hq
  ·exact iZ (h.lean q hq j hj)
  ·rw [List.mem_singleton.mp hq] at hj ⊢
   exact iZ (h2 j hj)
 ·rw [tN]
  have:=h.load s hs
  by_cases e:so p=s
  ·have:=h1 (by omega)
   rw [if_pos e]
   rw [e] at this
   omega
  ·rw [if_neg e];omega
theorem nY{dn bt c:List Nat}{p:Nat}(h:c∈fw G so U dn bt p):(bv G so U dn bt p=true/\c=bt ++ [p])\/c=bt:=by
 unfold fw at h
 rcases List.mem_append.mp h with h | h
 ·split at h
  ·exact .inl ⟨by assumption,List.mem_singleton.mp h⟩
  ·cases h
 ·split at h
  ·exact .inr (List.mem_singleton.mp h)
  ·cases h
theorem fQ{dn:List Nat}:∀(ms pre:List Nat)(bts:List (List Nat)),(∀b∈bts,Fine G so U dn pre b)->∀b∈ms.foldl (bn G so U dn) bts,Fine G so U dn (pre ++ ms) b
 | [],pre,bts,h,b,hb=>by rw [List.append_nil];exact h b hb
 | p :: ms,pre,bts,h,b,hb=>by
  have z:=fQ ms (pre ++ [p]) (bn G so U dn bts p) (fun c hc=>by
   obtain ⟨b',hb',hc⟩:=List.mem_flatMap.mp hc
   rcases nY hc with ⟨hf,rfl⟩ | rfl
   ·exact (h _ hb').add hf
   ·exact (h _ hb').mono (List.sublist_append_left ..)) b hb
  rwa [List.append_assoc] at z
theorem i7(hU:∀s,s < 3->0 < U s){b:List Nat}(h:b∈bE G so U n dn):Fine G so U dn (bP n dn) b:=by
 have z:=fQ (G:=G) (so:=so) (U:=U) (dn:=dn) (bP n dn) [] [[]] (fun c hc=>by
  rw [List.mem_singleton.mp hc]
  exact ⟨List.Sublist.refl _,fun p hp=>(by cases hp),fun s hs=>by have:=hU s hs;simp [dW];omega⟩) b (List.mem_filter.mp h).1
 rwa [List.nil_append] at z
theorem tW{b:List Nat}(h:b∈bE G so U n dn):∀p∈bP n dn,p∉b->bv G so U dn b p=false:=by
 intro p hp hb
 have z:=(List.mem_filter.mp h).2
 simp only [Bool.not_eq_true',roomB,List.any_eq_false,Bool.and_eq_true,not_and,Bool.not_eq_true',decide_eq_false_iff_not] at z
 simpa using z p hp hb
theorem miss_iff{p:Nat}:p∈bP n dn↔p < n/\p∉dn:=by
 unfold bP
 rw [List.mem_filter,List.mem_range]
 simp
theorem dZ:(bP n dn).Pairwise (· < ·):=List.Pairwise.filter _ List.pairwise_lt_range
def dI(G:Nat->Nat->Option Int)(so:Nat->Nat)(U:Nat->Int)(dn:List Nat)(b:List Nat)(p:Nat):List Nat:=if bv G so U dn b p=true then b ++ [p] else b
theorem nU{dn:List Nat}:∀(ms:List Nat)(b:List Nat)(bts:List (List Nat)),b∈bts->ms.foldl (dI G so U dn) b∈ms.foldl (bn G so U dn) bts
 | [],_,_,h=>h
 | p :: ms,b,bts,h=>by
  refine nU ms _ _ (List.mem_flatMap.mpr ⟨b,h,?_⟩)
  unfold dI fw
  cases hf:bv G so U dn b p <;> simp
theorem jd{dn:List Nat}:∀(ms:List Nat)(b:List Nat),∃e,ms.foldl (dI G so U dn) b=b ++ e/\∀q∈e,q∈ms
 | [],b=>⟨[],by simp,fun q hq=>by cases hq⟩
 | p :: ms,b=>by
  obtain ⟨e,h1,h2⟩:=jd ms (dI G so U dn b p)
  rw [List.foldl_cons,h1]
  unfold dI
  split
  ·exact ⟨p :: e,by simp,fun q hq=>by rcases List.mem_cons.mp hq with rfl | hq <;> simp_all⟩
  ·exact ⟨e,rfl,fun q hq=>List.mem_cons_of_mem _ (h2 q hq)⟩
theorem yE{b e:List Nat}{s:Nat}:dW so b s<=dW so (b ++ e) s:=by unfold dW;rw [List.countP_append];omega
theorem qB(hU:∀s,s < 3->0 < U s):(bP n dn).foldl (dI G so U dn) []∈bE G so U n dn:=by
 have hin:=nU (G:=G) (so:=so) (U:=U) (dn:=dn) (bP n dn) [] [[]] (by simp)
 have hfin:=fQ (G:=G) (so:=so) (U:=U) (dn:=dn) (bP n dn) [] [[]] (fun c hc=>by
  rw [List.mem_singleton.mp hc]
  exact ⟨List.Sublist.refl _,fun p hp=>(by cases hp),fun s hs=>by have:=hU s hs;simp [dW];omega⟩) _ hin
 refine List.mem_filter.mpr ⟨hin,?_⟩
 simp only [Bool.not_eq_true',roomB,List.any_eq_false,Bool.and_eq_true,not_and,Bool.not_eq_true',decide_eq_false_iff_not]
 intro p hp hb hf
 obtain ⟨pre,post,e⟩:=List.append_of_mem hp
 have srt:=dZ (n:=n) (dn:=dn)
 rw [e] at srt hb hf hfin
 rw [List.foldl_append,List.foldl_cons] at hb hf hfin
 obtain ⟨b0,hb0⟩:∃b0,b0=List.foldl (dI G so U dn) [] pre:=⟨_,rfl⟩
 rw [<- hb0] at hb hf hfin
 obtain ⟨e2,h1,h2⟩:=jd (G:=G) (so:=so) (U:=U) (dn:=dn) post (dI G so U dn b0 p)
 rw [h1] at hb hf hfin
 have srt2:=(List.pairwise_append.mp srt).2.1
 rw [List.pairwise_cons] at srt2
 unfold dI at hb hf hfin
 by_cases hfb:bv G so U dn b0 p=true
 ·rw [if_pos hfb] at hb
  exact hb (by simp)
 ·rw [if_neg hfb] at hf hfin
  obtain ⟨f1,f2⟩:=fits_iff.mp hf
  refine hfb (fits_iff.mpr ⟨fun hs hc=>?_,fun j hj=>?_⟩)
  ·have a:=hfin.load _ hs
   have b:=yE (so:=so) (b:=b0) (e:=e2) (s:=so p)
   exact f1 hs (by omega)
  ·have z:=f2 j hj
   unfold cj at z ⊢
   cases hg:G j p with
   | none=>rfl
   | some l=>
    rw [hg] at z
    simp only [Bool.or_eq_true,Bool.and_eq_true,decide_eq_true_eq,List.mem_append] at z ⊢
    rcases z with z | ⟨z1,z2 | z2⟩
    ·exact .inl z
    ·exact .inr ⟨z1,z2⟩
    ·have:=srt2.1 j (h2 j z2)
     omega
theorem rX(hU:∀s,s < 3->0 < U s){dn b:List Nat}(h:b∈bE G so U n dn)(hm:bP n dn≠[]):b≠[]:=by
 rintro rfl
 obtain ⟨p,hp⟩:∃p,p∈bP n dn:=List.exists_mem_of_ne_nil _ hm
 have least:∀k p,p<=k->p∈bP n dn->∃q∈bP n dn,∀j,j < q->j∈dn:=by
  intro k
  induction k with
  | zero=>intro p hk hp;exact ⟨p,hp,fun j hj=>by omega⟩
  | succ k ih=>
   intro p hk hp
   by_cases ha:∀j,j < p->j∈dn
   ·exact ⟨p,hp,ha⟩
   ·have:∃j,j < p/\j∉dn:=by
     apply Classical.byContradiction
     intro h'
     apply ha
     intro j hj
     apply Classical.byContradiction
     intro h''
     exact h' ⟨j,hj,h''⟩
    obtain ⟨j,hj,hjd⟩:=this
    have:=(miss_iff.mp hp).1
    exact ih j (by omega) (miss_iff.mpr ⟨by omega,hjd⟩)
 obtain ⟨q,hq,hall⟩:=least p p (Nat.le_refl _) hp
 have z:=tW h q hq (by simp)
 have y:bv G so U dn [] q=true:=by
  refine fits_iff.mpr ⟨fun hs hc=>?_,fun j hj=>?_⟩
  ·have:=hU _ hs
   simp [dW] at hc
   omega
  ·unfold cj
   split
   ·rfl
   ·simp [hall j hj]
 rw [y] at z
 cases z
theorem yT{b:List Nat}{p:Nat}:p∈cm n dn b↔p < n/\(p∈dn\/p∈b):=by
 unfold cm
 rw [List.mem_filter,List.mem_range]
 simp
def Can(n:Nat)(dn:List Nat):Prop:=dn.Sublist (List.range n)
theorem m6{b:List Nat}:Can n (cm n dn b):=List.filter_sublist
theorem Can.lt(h:Can n dn){p:Nat}(hp:p∈dn):p < n:=List.mem_range.mp (h.subset hp)
theorem Can.sorted(h:Can n dn):dn.Pairwise (· < ·):=List.Pairwise.sublist h List.pairwise_lt_range
theorem ku:∀{a b:List Nat},a.Pairwise (· < ·)->b.Pairwise (· < ·)->(∀p,p∈a↔p∈b)->a=b
 | [],[],_,_,_=>rfl
 | [],y :: b,_,_,h=>absurd ((h y).mpr (by simp)) (by simp)
 | x :: a,[],_,_,h=>absurd ((h x).mp (by simp)) (by simp)
 | x :: a,y :: b,ha,hb,h=>by
  rw [List.pairwise_cons] at ha hb
  have exy:x=y:=by
   have h1:=(h x).mp (by simp)
   have h2:=(h y).mpr (by simp)
   rcases List.mem_cons.mp h1 with e | h1
   ·exact e
   ·rcases List.mem_cons.mp h2 with e | h2
    ·exact e.symm
    ·have:=ha.1 y h2;have:=hb.1 x h1;omega
  subst exy
  rw [ku ha.2 hb.2 fun p=>?_]
  constructor
  ·intro hp
   rcases List.mem_cons.mp ((h p).mp (List.mem_cons_of_mem _ hp)) with e | z
   ·have:=ha.1 p hp;omega
   ·exact z
  ·intro hp
   rcases List.mem_cons.mp ((h p).mpr (List.mem_cons_of_mem _ hp)) with e | z
   ·have:=hb.1 p hp;omega
   ·exact z
theorem Can.miss{dn:List Nat}(h:Can n dn)(hne:dn≠List.range n):bP n dn≠[]:=by
 intro e
 apply hne
 refine ku h.sorted List.pairwise_lt_range fun p=>⟨fun hp=>List.mem_range.mpr (h.lt hp),fun hp=>?_⟩
 apply Classical.byContradiction
 intro hd
 have:=miss_iff.mpr ⟨List.mem_range.mp hp,hd⟩
 rw [e] at this
 cases this
theorem Can.len(h:Can n dn):dn.length<=n:=by have:=h.length_le;rwa [List.length_range] at this
theorem Can.len_lt{dn:List Nat}(h:Can n dn)(hne:dn≠List.range n):dn.length < n:=by
 rcases Nat.lt_or_ge dn.length n with z | z
 ·exact z
 ·exact absurd (h.eq_of_length (by rw [List.length_range];have:=h.len;omega)) hne
theorem Lay.can{bss:List (List Nat)}(h:Lay G so U n bss dn):Can n dn:=by
 cases h with
 | nil=>exact List.nil_sublist _
 | snoc=>exact m6
theorem jh{b:List Nat}(h:Can n dn)(hb:b.Sublist (bP n dn)):(dn ++ b).Perm (cm n dn b):=by
 have hbm:∀p∈b,p < n/\p∉dn:=fun p hp=>miss_iff.mp (hb.subset hp)
 have nb:b.Nodup:=(List.Pairwise.sublist hb dZ).imp fun h=>Nat.ne_of_lt h
 have nd:dn.Nodup:=h.sorted.imp fun h=>Nat.ne_of_lt h
 have nk:(cm n dn b).Nodup:=(m6 (n:=n) (dn:=dn) (b:=b)).sorted.imp fun h=>Nat.ne_of_lt h
 have nab:(dn ++ b).Nodup:=List.nodup_append.mpr ⟨nd,nb,fun x hx y hy e=>by subst e;exact (hbm x hy).2 hx⟩
 refine (List.perm_ext_iff_of_nodup nab nk).mpr fun p=>?_
 rw [yT,List.mem_append]
 exact ⟨fun z=>⟨z.elim (fun z=>h.lt z) fun z=>(hbm p z).1,z⟩,fun z=>z.2⟩
theorem yR{b:List Nat}(h:Can n dn)(hb:b.Sublist (bP n dn)):(cm n dn b).length=dn.length+b.length:=by rw [<- (jh h hb).length_eq,List.length_append]
theorem ik{acc:List (List Nat×List (List Nat))}{k:List Nat}{v:List (List Nat)}{x:List Nat×List (List Nat)}(h:x∈gW acc k v):x∈acc\/x=(k,v):=by
 unfold gW at h
 split at h
 ·exact .inl h
 ·rcases List.mem_append.mp h with h | h
  ·exact .inl h
  ·exact .inr (List.mem_singleton.mp h)
theorem xD{acc:List (List Nat×List (List Nat))}{k:List Nat}{v:List (List Nat)}:k∈(gW acc k v).map (·.1):=by
 unfold gW
 split
 ·assumption
 ·simp
theorem uJ{acc:List (List Nat×List (List Nat))}{k:List Nat}{v:List (List Nat)}{x:List Nat×List (List Nat)}(h:x∈acc):x∈gW acc k v:=by
 unfold gW
 split
 ·exact h
 ·exact List.mem_append_left _ h
theorem qT{acc:List (List Nat×List (List Nat))}{k:List Nat}{v:List (List Nat)}(h:(acc.map (·.1)).Nodup):((gW acc k v).map (·.1)).Nodup:=by
 unfold gW
 split
 ·exact h
 ·rename_i hk
  rw [List.map_append,List.nodup_append]
  exact ⟨h,by simp,fun x hx y hy e=>by
   subst e
   rw [List.map_singleton,List.mem_singleton] at hy
   subst hy
   exact hk hx⟩
structure WOk(G:Nat->Nat->Option Int)(so:Nat->Nat)(U:Nat->Int)(n r:Nat)(ws:List (List Nat×List (List Nat))):Prop where
 lay:∀w∈ws,Lay G so U n w.2 w.1/\w.2.length=r
 nodup:(ws.map (·.1)).Nodup
theorem WOk.set{r:Nat}{acc:List (List Nat×List (List Nat))}{b:List Nat}{bss:List (List Nat)}(h:WOk G so U n (r+1) acc)(hl:Lay G so U n bss dn)(hr:bss.length=r)(hb:b∈bE G so U n dn):WOk G so U n (r+1) (gW acc (cm n dn b) (bss ++ [b])):=
 ⟨fun w hw=>by
  rcases ik hw with hw | rfl
  ·exact h.lay w hw
  ·exact ⟨hl.snoc hb,by simp [hr]⟩,qT h.nodup⟩
theorem WOk.add{r:Nat}{w:List Nat×List (List Nat)}(hl:Lay G so U n w.2 w.1)(hr:w.2.length=r):∀(bs:List (List Nat)) (acc:List (List Nat×List (List Nat))),(∀b∈bs,b∈bE G so U n w.1)->WOk G so U n (r+1) acc->WOk G so U n (r+1) (cZ n acc w bs)
 | [],_,_,h=>h
 | b :: bs,acc,hb,h=>WOk.add hl hr bs _ (fun c hc=>hb c (List.mem_cons_of_mem _ hc)) (h.set hl hr (hb b (by simp)))
theorem WOk.step{r:Nat}:∀(ws acc:List (List Nat×List (List Nat))),(∀w∈ws,Lay G so U n w.2 w.1/\w.2.length=r)->WOk G so U n (r+1) acc->WOk G so U n (r+1) (ws.foldl (fun acc w=>cZ n acc w (bE G so U n w.1)) acc)
 | [],_,_,h=>h
 | w :: ws,acc,hw,h=>WOk.step ws _ (fun x hx=>hw x (List.mem_cons_of_mem _ hx)) (WOk.add (hw w (by simp)).1 (hw w (by simp)).2 _ _ (fun _ h=>h) h)
theorem i3:∀r,WOk G so U n r (bJ G so U n r)
 | 0=>⟨fun w hw=>by rw [bJ,List.mem_singleton] at hw;subst hw;exact ⟨.nil,rfl⟩,by simp [bJ]⟩
 | r+1=>WOk.step _ _ (i3 r).lay ⟨fun w hw=>(by cases hw),by simp⟩
theorem i4{w x:List Nat×List (List Nat)}:∀(bs:List (List Nat)) (acc:List (List Nat×List (List Nat))),x∈acc->x∈cZ n acc w bs
 | [],_,h=>h
 | b :: bs,acc,h=>i4 bs _ (uJ h)
theorem mS{w:List Nat×List (List Nat)}{b:List Nat}:∀(bs:List (List Nat)) (acc:List (List Nat×List (List Nat))),b∈bs->cm n w.1 b∈(cZ n acc w bs).map (·.1)
 | [],_,h=>by cases h
 | c :: bs,acc,h=>by
  rcases List.mem_cons.mp h with rfl | h
  ·obtain ⟨x,hx,e⟩:=List.mem_map.mp (xD (acc:=acc) (k:=cm n w.1 b) (v:=w.2 ++ [b]))
   exact List.mem_map.mpr ⟨x,i4 bs _ hx,e⟩
  ·exact mS bs _ h
theorem lO{x:List Nat×List (List Nat)}:∀(ws acc:List (List Nat×List (List Nat))),x∈acc->x∈ws.foldl (fun acc w=>cZ n acc w (bE G so U n w.1)) acc
 | [],_,h=>h
 | w :: ws,acc,h=>lO ws _ (i4 _ _ h)
theorem pU{w:List Nat×List (List Nat)}{b:List Nat}(hb:b∈bE G so U n w.1):∀(ws acc:List (List Nat×List (List Nat))),w∈ws->cm n w.1 b∈(ws.foldl (fun acc w=>cZ n acc w (bE G so U n w.1)) acc).map (·.1)
 | [],_,h=>by cases h
 | c :: ws,acc,h=>by
  rcases List.mem_cons.mp h with rfl | h
  ·obtain ⟨x,hx,e⟩:=List.mem_map.mp (mS (n:=n) (w:=w) (bE G so U n w.1) acc hb)
   exact List.mem_map.mpr ⟨x,lO ws _ hx,e⟩
  ·exact pU hb ws _ h
theorem tG(hU:∀s,s < 3->0 < U s):∀r,bJ G so U n r≠[]
 | 0=>by simp [bJ]
 | r+1=>by
  obtain ⟨w,hw⟩:=List.exists_mem_of_ne_nil _ (tG hU r)
  have z:=pU (qB (G:=G) (so:=so) hU (n:=n) (dn:=w.1)) (bJ G so U n r) [] hw
  intro e
  rw [bJ,AB] at e
  rw [e] at z
  cases z
theorem qc(hU:∀s,s < 3->0 < U s):∀r,(∀k,k < r->List.range n∉(bJ G so U n k).map (·.1))->∀w∈bJ G so U n r,r<=w.1.length
 | 0,_,w,_=>Nat.zero_le _
 | r+1,hn,w,hw=>by
  have ih:=qc hU r fun k hk=>hn k (by omega)
  have hno:=hn r (by omega)
  have key:∀(ws acc:List (List Nat×List (List Nat))),(∀w∈ws,Can n w.1/\w.1≠List.range n/\r<=w.1.length)->(∀w∈acc,r+1<=w.1.length)->∀w∈ws.foldl (fun acc w=>cZ n acc w (bE G so U n w.1)) acc,r+1<=w.1.length:=by
   intro ws
   induction ws with
   | nil=>intro acc _ h;exact h
   | cons v ws ihw=>
    intro acc h1 h2
    refine ihw _ (fun x hx=>h1 x (List.mem_cons_of_mem _ hx)) ?_
    obtain ⟨c1,c2,c3⟩:=h1 v (by simp)
    have inner:∀(bs:List (List Nat)) (acc:List (List Nat×List (List Nat))),(∀b∈bs,b∈bE G so U n v.1)->(∀w∈acc,r+1<=w.1.length)->∀w∈cZ n acc v bs,r+1<=w.1.length:=by
     intro bs
     induction bs with
     | nil=>intro acc _ h;exact h
     | cons b bs ihb=>
      intro acc h3 h4
      refine ihb _ (fun c hc=>h3 c (List.mem_cons_of_mem _ hc)) fun x hx=>?_
      rcases ik hx with hx | rfl
      ·exact h4 x hx
      ·have hb:=h3 b (by simp)
       have ne:=rX hU hb (c1.miss c2)
       have:=List.length_pos_iff.mpr ne
       show r+1<=(cm n v.1 b).length
       rw [yR c1 (i7 hU hb).sub]
       omega
    exact inner _ _ (fun _ h=>h) h2
  exact key _ _ (fun x hx=>⟨((i3 r).lay x hx).1.can,fun e=>hno (List.mem_map.mpr ⟨x,hx,e⟩),ih x hx⟩) (fun _ h=>by cases h) w hw
theorem zW(hU:∀s,s < 3->0 < U s){r:Nat}(hn:∀k,k<=r->List.range n∉(bJ G so U n k).map (·.1)):r < n:=by
 obtain ⟨w,hw⟩:=List.exists_mem_of_ne_nil _ (tG (G:=G) (so:=so) (U:=U) (n:=n) hU r)
 have h1:=qc hU r (fun k hk=>hn k (by omega)) w hw
 have h2:=((i3 r).lay w hw).1.can.len_lt fun e=>hn r (Nat.le_refl _) (List.mem_map.mpr ⟨w,hw,e⟩)
 omega
theorem i9{dn:List Nat}:∀(bts:List (List Nat)) (p:Nat),(bn G so U dn bts p).length<=2 * bts.length
 | [],_=>by simp [bn]
 | b :: bts,p=>by
  have:=i9 (dn:=dn) bts p
  have h1:(fw G so U dn b p).length<=2:=by
   unfold fw
   rw [List.length_append]
   have a:(if bv G so U dn b p=true then [b ++ [p]] else []).length<=1:=by split <;> simp
   have c:(if bv G so U dn b p=false\/so p < 3 then [b] else []).length<=1:=by split <;> simp
   omega
  unfold bn at *
  rw [List.flatMap_cons,List.length_append,List.length_cons]
  omega
theorem je{dn:List Nat}:∀(ms:List Nat)(bts:List (List Nat)),(ms.foldl (bn G so U dn) bts).length<=2 ^ ms.length * bts.length
 | [],bts=>by simp
 | p :: ms,bts=>by
  have a:=je (dn:=dn) ms (bn G so U dn bts p)
  have b:=i9 (G:=G) (so:=so) (U:=U) (dn:=dn) bts p
  rw [List.foldl_cons,List.length_cons,Nat.pow_succ]
  calc _<=_:=a
   _<=2 ^ ms.length * (2 * bts.length):=Nat.mul_le_mul_left _ b
   _=_:=by rw [Nat.mul_assoc]
def qW:List Nat->List (List Nat)
 | []=>[[]]
 | x :: xs=>qW xs ++ (qW xs).map (x :: ·)
theorem pX:∀xs,(qW xs).length=2 ^ xs.length
 | []=>rfl
 | x :: xs=>by rw [qW,List.length_append,List.length_map,pX xs,List.length_cons,Nat.pow_succ];omega
theorem jj:∀{xs ys:List Nat},ys.Sublist xs->ys∈qW xs
 | _,_,.slnil=>by simp [qW]
 | _,_,.cons _ h=>List.mem_append_left _ (jj h)
 | _,_,.cons₂ _ h=>List.mem_append_right _ (List.mem_map.mpr ⟨_,jj h,rfl⟩)
theorem lj{α:Type}[DecidableEq α]:∀{L M:List α},L.Nodup->(∀x∈L,x∈M)->L.length<=M.length
 | [],M,_,_=>Nat.zero_le _
 | x :: L,M,h,hm=>by
  rw [List.nodup_cons] at h
  have z:=lj (M:=M.erase x) h.2 fun y hy=>(List.mem_erase_of_ne (fun e=>h.1 (by rw [<- e];exact hy))).mpr (hm y (List.mem_cons_of_mem _ hy))
  rw [List.length_erase_of_mem (hm x (by simp))] at z
  have:=List.length_pos_of_mem (hm x (by simp))
  rw [List.length_cons]
  omega
theorem WOk.len{r:Nat}{ws:List (List Nat×List (List Nat))}(h:WOk G so U n r ws):ws.length<=2 ^ n:=by
 have z:=lj (M:=qW (List.range n)) h.nodup fun k hk=>by
  obtain ⟨w,hw,e⟩:=List.mem_map.mp hk
  rw [<- e]
  exact jj (h.lay w hw).1.can
 rwa [List.length_map,pX,List.length_range] at z
end
end GD
namespace L2
open PySem PySem.Spec PyProof.Rows
section
variable {prog:Program} {w:World} {A:Around} {E:Value->Shared->Prop} {s:Shared}
theorem pE{κ:Type}[DecidableEq κ]{knd:HeapKind prog w κ}{d a:Addr}{xs:List (κ×Addr×Value)}{k:κ}{v:Value}{Q:Value->Shared->Prop}(hu:knd.room A)(hkey:knd.is s.heap k a)(hm:s.heap.DictOfH knd d xs)
  (h1:∀p,atKey xs k=some p->Q p.2 {s with toks:=s.toks+knd.draws k})
  (h2:atKey xs k=none->∀h',h'.DictOfH knd d (xs ++ [(k,a,v)])->Heap.SameBut d s.heap h'->Q v {s with heap:=h',toks:=s.toks+knd.draws k})
  (hsz:xs.length<=sizeLine):wpAny (model prog w) A (dictSetDefault d (.ref a) v) Q E s:=by
 obtain ⟨o,es,ep,ho,hc,hd,he,his,hn⟩:=hm
 unfold dictSetDefault
 try with_reducible refine wpAny_holding ?_
 refine wpAny_bind (knd.pyHash hu hkey (wpAny_bind (wpAny_dictFind_heap (s:={s with toks:=s.toks+knd.draws k}) hu hkey ho hd he his hn ?_ ?_)))
 ·intro hno
  have hat:=atKey_none_of_get hno
  have hnot:=not_mem_keys_of_get hno
  refine wpAny_bind (wpAny_rule (wpAny_bind (wpAny_updateDictKeys (hz:=by have e:=size_of_entries he;omega) (s:={s with toks:=s.toks+knd.draws k}) ho hd (wpAny_pure (h2 hat _ ⟨_,_,ep+1,Heap.get?_update_self _ ho (Obj.isFreed_of_dict (Obj.data_mapDictKeys hd _)),
   hc.mapDictKeys _,Obj.data_mapDictKeys hd _,by simp [he,entryOfKey],fun x hx=>?_,?_⟩ (Heap.SameBut.update ..))))))
  ·rcases List.mem_append.mp hx with hx | hx
   ·exact knd.keeps (his x hx) ho hd (Heap.SameBut.update ..)
   ·rw [List.mem_singleton.mp hx]
    exact knd.keeps hkey ho hd (Heap.SameBut.update ..)
  ·rw [List.map_append,List.nodup_append]
   refine ⟨hn,by simp,fun x hx y hy e=>?_⟩
   simp only [List.map_cons,List.map_nil,List.mem_singleton] at hy
   subst hy
   exact hnot (e ▸ hx)
 ·intro j p hj
  have hat:=atKey_of_get hn hj
  refine wpAny_bind (wpAny_dictEntries (s:={s with toks:=s.toks+knd.draws k}) ho hd ?_)
  rw [entry_at he j,hj]
  exact wpAny_bind (wpAny_rule (wpAny_pure (h1 p hat)))
theorem kH{κ:Type}[DecidableEq κ](knd:HeapKind prog w κ)(d a:Addr)(hd:(d == sysModules)=false)(dflt:Value):
  MeetsIn prog w (Builtin.«dict.setdefault» ⟨[.ref d,.ref a,dflt],[]⟩) (fun A R s=>knd.room A.in1/\∃k xs,knd.is s.heap k a/\s.heap.DictOfH knd d xs/\xs.length<=sizeLine/\
   (∀p,atKey xs k=some p->R (.ok (.ret p.2)) {s with toks:=s.toks+knd.draws k})/\
   (atKey xs k=none->∀h',h'.DictOfH knd d (xs ++ [(k,a,dflt)])->Heap.SameBut d s.heap h'->R (.ok (.ret dflt)) {s with heap:=h',toks:=s.toks+knd.draws k})):=
 .of_wp fun A R s ⟨hu,k,xs,hkey,hm,hz,h1,h2⟩=>by
  unfold Builtin.«dict.setdefault»
  refine wpAny_bind ?_
  unfold Builtin.Dict.keyAndDefault
  refine wpAny_bind (wpAny_notOrdered_dict hm.typeIs ?_)
  show wpAny _ _ (pure (d,Value.ref a,some dflt)) _ _ s
  refine wpAny_pure ?_
  show wpAny _ _ (if (d == sysModules)=true then _ else (dictSetDefault d (.ref a) dflt >>= _)) _ _ s
  rw [if_neg (by rw [hd];exact Bool.false_ne_true)]
  exact wpAny_bind (pE (hsz:=hz) hu hkey hm (fun p hp=>wpAny_pure ⟨p.2,rfl,h1 p hp⟩) fun hn h' hm' hs'=>wpAny_pure ⟨dflt,rfl,h2 hn h' hm' hs'⟩)
theorem nz{d:Addr}{od:Obj}{Q:Value->Shared->Prop}(hd:(d == sysModules)=false)(hod:s.heap.get? d=some od)(hx:od.ExactDict)
  (h:Q (.ref s.heap.objs.size) {s with heap:=s.heap.push {cls:=.type "dict_items",data:=.fields #[.ref d]}}):wpAny (model prog w) A (call (.builtin "dict.items") [.ref d]) Q E s:=by
 have hT:s.TypeIs (.ref d) "dict":=⟨od,hod,hx.1⟩
 have M:MeetsIn prog w (Builtin.«dict.items» ⟨[.ref d],[]⟩) (fun _ R s=>s.TypeIs (.ref d) "dict"/\R (.ok (.ret (.ref s.heap.objs.size))) {s with heap:=s.heap.push {cls:=.type "dict_items",data:=.fields #[.ref d]}}):=.of_wp fun A R s ⟨hT,h⟩=>by
  unfold Builtin.«dict.items»
  refine wpAny_bind ?_
  unfold Builtin.Dict.noArgs
  refine wpAny_bind (wpAny_notOrdered_dict hT ?_)
  show wpAny _ _ (pure d) _ _ s
  refine wpAny_pure ?_
  show wpAny _ _ (Builtin.Dict.showsAll d >>= _) _ _ s
  unfold Builtin.Dict.showsAll
  rw [if_neg (by rw [hd];exact Bool.false_ne_true)]
  refine wpAny_bind (wpAny_pure ?_)
  exact wpAny_bind (wpAny_newObj_type (wpAny_pure ⟨_,rfl,h⟩))
 exact call_meetsIn PySem.F.slot_dict_items hT PySem.F.entry_dict_items (PySem.F.args_dict_items_1 _) M ⟨hT,h⟩
theorem nV{v d:Addr}{od:Obj}{es:Array DictEntry}{ep:Nat}{Q:Value->Shared->Prop}(hv:s.heap.IsItemsView v d)(ho:s.heap.get? d=some od)(hd:od.data=.dict es ep)
  (hQ:Q (.ref s.heap.objs.size) {s with heap:=s.heap.push {cls:=.type "dict_itemiterator",data:=.fields #[.none,.bool false,.ref d,.int 0 0,.int es.size 0,.int ep 0,.none,.none]}}) :
  wpAny (model prog w) A (pyIter (.ref v)) Q E s:=by
 obtain ⟨ov,hov,hcv,hdv⟩:=id hv
 refine wpAny_pyIter_slot hv.typeIs F.slot_dict_items_iter (wpAny_call_entry F.slot_dict_items_iter hv.typeIs F.entry_dict_items_iter ?_ (F.args_dict_items_iter_1 _))
 unfold Builtin.«dict_items.__iter__»
 refine wpAny_bind (wpAny_pure (wpAny_bind ?_))
 unfold Builtin.Dict_items.dictOf
 refine wpAny_bind (wpAny_field hov hdv (x:=.ref d) rfl (wpAny_pure (wpAny_bind ?_)))
 unfold Builtin.Dict_items.newIterator
 refine wpAny_bind (wpAny_dictEntries ho hd (wpAny_bind (wpAny_dictEpoch ho hd ?_)))
 rw [show Builtin.Dict_items.ownsTuple "dict_itemiterator"=true by decide]
 simp only [if_true]
 refine wpAny_newObj_type (wpAny_pure ⟨_,rfl,"dict_itemiterator",_,⟨_,Heap.get?_push_size _ rfl,rfl⟩,F.slot_dict_itemiterator_next.lookup,?_⟩)
  (by simp only [sizeOk,Builtin.Dict_items.ownedTupleFields,List.size_toArray,List.length_append,List.length_cons,List.length_nil,sizeLine_eq];omega)
 simpa [rawInt,Builtin.Dict_items.ownedTupleFields] using hQ
theorem oh{it d:Addr}{i ep:Nat}{od:Obj}{es:Array DictEntry}{en:DictEntry}{ok ov:Value}{Q:Option Value->Shared->Prop}(hit:IsItemIter s.heap it d i es.size ep ok ov)
  (hod:s.heap.get? d=some od) (hdd:od.data=.dict es ep) (hx:es[i]?=some en)
  (hQ:∀h',IsItemIterOut h' it d (i+1) es.size ep en.key en.val s.heap.objs.size->h'.get? s.heap.objs.size=some {cls:=.type "tuple",data:=.seq #[en.key,en.val]}->h'.objs.size=s.heap.objs.size+1->
   (∀b o,b≠it->s.heap.get? b=some o->h'.get? b=some o)->Q (some (.ref s.heap.objs.size)) {s with heap:=h'}) :
  wpAny (model prog w) A (pyNext (.ref it)) Q E s:=by
 obtain ⟨hp,g,dr,tk,os⟩:=s
 have hT:Shared.TypeIs ⟨hp,g,dr,tk,os⟩ (.ref it) "dict_itemiterator":=⟨_,hit,rfl⟩
 have hown:Builtin.Dict_items.ownsTuple "dict_itemiterator"=true:=by decide
 have hlt:i < es.size:=(Array.getElem?_eq_some_iff.mp hx).1
 unfold pyNext
 refine wpAny_bind (wpAny_attempt (wpAny_callSpecial?_slot (name:=Str.ofString "__next__") hT F.slot_dict_itemiterator_next (wpAny_call_entry F.slot_dict_itemiterator_next hT F.entry_dict_itemiterator_next ?_ (F.args_dict_itemiterator_next_1 _))))
 refine wpAny_bind (wpAny_pure (wpAny_bind (wpAny_bind ?_)))
 first | refine wpAny_bind (wpAny_typeNameOfWhole_itemiter hT (wpAny_pure ?_)) | refine wpAny_bind (wpAny_typeNameOf_itemiter hT (wpAny_pure ?_))
 refine wpAny_bind (wpAny_fieldsOf hit rfl ?_)
 simp only [hown,if_true]
 show wpAny _ _ (if (Value.ref d == Value.none)=true then _ else _) _ _ _
 rw [if_neg (show ¬((Value.ref d == Value.none)=true) from Bool.false_ne_true)]
 refine wpAny_bind (wpAny_pure (wpAny_bind (wpAny_dictEntries hod hdd ?_)))
 rw [if_neg (by simp)]
 refine wpAny_bind (wpAny_pure (wpAny_bind (wpAny_dictEpoch hod hdd ?_)))
 rw [if_neg (by simp)]
 refine wpAny_pure ?_
 simp only [show ¬((i:Int) < 0) from by omega,if_false,Int.toNat_natCast,hx]
 refine wpAny_bind ?_
 first | refine wpAny_bind (wpAny_typeNameOfWhole_itemiter hT (wpAny_pure ?_)) | refine wpAny_bind (wpAny_typeNameOf_itemiter hT (wpAny_pure ?_))
 refine wpAny_bind (wpAny_isOneOf_itemiter hT ?_)
 show wpAny _ _ (setField (.ref it) 3 (rawInt ((i:Int)+1)) >>= _) _ _ ⟨hp,g,dr,tk,os⟩
 refine wpAny_bind (wpAny_setField_rec hit (by simp) fun h₁ he₁ hs₁=>?_)
 replace hs₁:Heap.SameBut it hp h₁:=hs₁
 replace he₁:IsItemIter h₁ it d (i+1) es.size ep ok ov:=by
  have e:((i+1:Nat):Int)=(i:Int)+1:=by omega
  unfold IsItemIter;rw [e];simpa [rawInt] using he₁
 have hT₁:Shared.TypeIs ⟨h₁,g,dr,tk,os⟩ (.ref it) "dict_itemiterator":=⟨_,he₁,rfl⟩
 refine wpAny_bind (wpAny_holding (wpAny_bind (wpAny_isOneOf_itemiter hT₁ (wpAny_bind (wpAny_isOneOf_itemiter hT₁ ?_)))))
 show wpAny _ _ (Builtin.Dict_items.pairFromOwner (.ref it) 6 en.key en.val) _ _ ⟨h₁,g,dr,tk,os⟩
 unfold Builtin.Dict_items.pairFromOwner
 refine wpAny_bind (wpAny_newTuple ?_)
 have he₂:IsItemIter (h₁.push {cls:=.type "tuple",data:=.seq #[en.key,en.val]}) it d (i+1) es.size ep ok ov:=Heap.get?_push_of_some _ he₁
 have hz₁:h₁.objs.size=hp.objs.size:=hs₁.1
 have hil:it < hp.objs.size:=Heap.lt_size hit
 have ht₂:(h₁.push {cls:=.type "tuple",data:=.seq #[en.key,en.val]}).get? hp.objs.size=some {cls:=.type "tuple",data:=.seq #[en.key,en.val]}:=by rw [<- hz₁];exact Heap.get?_push_size _ rfl
 have hz₂:(h₁.push {cls:=.type "tuple",data:=.seq #[en.key,en.val]}).objs.size=hp.objs.size+1:=by rw [Heap.size_push,hz₁]
 have hk₂:∀b o,b≠it->hp.get? b=some o->(h₁.push {cls:=.type "tuple",data:=.seq #[en.key,en.val]}).get? b=some o:=fun b o hb e=>Heap.get?_push_of_some _ (hs₁.extBut b o hb e)
 generalize h₁.push {cls:=.type "tuple",data:=.seq #[en.key,en.val]}=h₂ at he₂ ht₂ hz₂ hk₂ ⊢
 show wpAny _ _ (Builtin.Dict_items.ownedTupleIsFree (.ref it) >>= _) _ _ ⟨h₂,g,dr,tk,os⟩
 rw [hz₁]
 clear he₁ hs₁ hT₁ hz₁ h₁
 refine wpAny_bind ?_
 unfold Builtin.Dict_items.ownedTupleIsFree
 refine wpAny_bind (wpAny_field he₂ rfl (x:=.none) rfl (wpAny_pure ?_))
 simp only [if_true]
 refine wpAny_bind (wpAny_field he₂ rfl (x:=ok) rfl (wpAny_bind (wpAny_field he₂ rfl (x:=ov) rfl ?_)))
 refine wpAny_bind (wpAny_setField_rec he₂ (by simp) fun h₃ he₃ hs₃=>?_)
 replace hs₃:Heap.SameBut it h₂ h₃:=hs₃
 replace he₃:IsItemIter h₃ it d (i+1) es.size ep en.key ov:=he₃
 refine wpAny_bind (wpAny_setField_rec he₃ (by simp) fun h₄ he₄ hs₄=>?_)
 replace hs₄:Heap.SameBut it h₃ h₄:=hs₄
 replace he₄:IsItemIter h₄ it d (i+1) es.size ep en.key en.val:=he₄
 refine wpAny_bind (wpAny_setField_rec he₄ (by simp) fun h₅ he₅ hs₅=>?_)
 replace hs₅:Heap.SameBut it h₄ h₅:=hs₅
 replace he₅:IsItemIterOut h₅ it d (i+1) es.size ep en.key en.val hp.objs.size:=he₅
 refine wpAny_bind (wpAny_setField_rec he₅ (by simp) fun h₆ he₆ hs₆=>?_)
 replace hs₆:Heap.SameBut it h₅ h₆:=hs₆
 replace he₆:IsItemIterOut h₆ it d (i+1) es.size ep en.key en.val hp.objs.size:=he₆
 have kp:∀b o,b≠it->h₂.get? b=some o->h₆.get? b=some o:=fun b o hb e=>hs₆.extBut b o hb (hs₅.extBut b o hb (hs₄.extBut b o hb (hs₃.extBut b o hb e)))
 refine wpAny_bind (wpAny_letGo (wpAny_pure (wpAny_pure ⟨_,rfl,wpAny_pure (hQ h₆ he₆ (kp _ _ (Nat.ne_of_gt hil) ht₂) ?_ fun b o hb e=>kp b o hb (hk₂ b o hb e))⟩)))
 show h₆.objs.size=hp.objs.size+1
 rw [hs₆.1,hs₅.1,hs₄.1,hs₃.1,hz₂]
theorem qu{it d:Addr}{i ep:Nat}{od:Obj}{es:Array DictEntry}{ok ov:Value}{Q:Option Value->Shared->Prop}(hh:A.handled=none)(hit:IsItemIter s.heap it d i es.size ep ok ov)
  (hod:s.heap.get? d=some od) (hdd:od.data=.dict es ep) (hx:es.size<=i)
  (hQ:∀h',Heap.ExtBut it s.heap h'->Q none {s with heap:=h'}):wpAny (model prog w) A (pyNext (.ref it)) Q E s:=by
 have hT:s.TypeIs (.ref it) "dict_itemiterator":=⟨_,hit,rfl⟩
 have hown:Builtin.Dict_items.ownsTuple "dict_itemiterator"=true:=by decide
 unfold pyNext
 refine wpAny_bind (wpAny_attempt (wpAny_callSpecial?_slot (name:=Str.ofString "__next__") hT F.slot_dict_itemiterator_next (wpAny_call_entry F.slot_dict_itemiterator_next hT F.entry_dict_itemiterator_next ?_ (F.args_dict_itemiterator_next_1 _))))
 refine wpAny_bind (wpAny_pure (wpAny_bind (wpAny_bind ?_)))
 first | refine wpAny_bind (wpAny_typeNameOfWhole_itemiter hT (wpAny_pure ?_)) | refine wpAny_bind (wpAny_typeNameOf_itemiter hT (wpAny_pure ?_))
 refine wpAny_bind (wpAny_fieldsOf hit rfl ?_)
 simp only [hown,if_true]
 show wpAny _ _ (if (Value.ref d == Value.none)=true then _ else _) _ _ s
 rw [if_neg (show ¬((Value.ref d == Value.none)=true) from Bool.false_ne_true)]
 refine wpAny_bind (wpAny_pure (wpAny_bind (wpAny_dictEntries hod hdd ?_)))
 rw [if_neg (by simp)]
 refine wpAny_bind (wpAny_pure (wpAny_bind (wpAny_dictEpoch hod hdd ?_)))
 rw [if_neg (by simp)]
 refine wpAny_pure ?_
 simp only [show ¬((i:Int) < 0) from by omega,if_false,Int.toNat_natCast,Array.getElem?_eq_none hx]
 refine wpAny_bind ?_
 first | refine wpAny_bind (wpAny_typeNameOfWhole_itemiter hT (wpAny_pure ?_)) | refine wpAny_bind (wpAny_typeNameOf_itemiter hT (wpAny_pure ?_))
 show wpAny _ _ (setField (.ref it) 2 .none >>= _) _ _ s
 refine wpAny_bind (wpAny_setField hit rfl (by simp) ?_)
 show wpAny _ _ (newExc (.type "StopIteration") [] >>= _) _ _ _
 refine wpAny_bind ?_
 simp only [newExc,newTuple]
 refine wpAny_bind (wpAny_newObj_type ?_ (by size_fits))
 refine wpAny_bind (m:=firstArgMember _ _) (wpAny_of_eq (a:=Value.none) (by first | rfl | (simp only [firstArgMember];rfl)) ?_)
 refine wpAny_newObj_type ?_ (by size_fits)
 simp only [raiseNew]
 refine wpAny_bind (wpAny_handled ?_)
 rw [show A.in1.handled=none from hh]
 refine wpAny_bind (wpAny_pure (wpAny_throw ?_))
 refine wpAny_bind (wpAny_isInstance (T:="StopIteration") (b:=true) ⟨_,Heap.get?_push_size _ rfl,rfl⟩ isSubtype_stop ?_)
 exact wpAny_pure (hQ _ (((Heap.SameBut.update ..).extBut.push _).push _))
end
end L2
variable {H:Hp} {Q:VK} {tk tv:TE} {σ:St}
namespace L2
open PySem PySem.Spec PyProof.Rows
def lV(d:Addr)(o:Obj)(kvs:List (List Key×V)):It:=
  ⟨fun i H=>H d=some (.frz o (.dT kvs))/\i < kvs.length,
   fun i H x H'=>∃p k b v,x=.ref p/\H p=none/\H'=upd H p (.tup [.ref b,v])/\kvs[i]?=some (k,v)/\H b=some (.tup (k.map kV)),
   fun i H=>H d=some (.frz o (.dT kvs))/\kvs.length<=i⟩
theorem Paired.at{α β:Type}{F:α->β->Prop}:∀{l:List α} {m:List β} {i:Nat} {x:α},Paired F l m->l[i]?=some x->∃y,m[i]?=some y/\F x y
 | _,_,_,_,.nil,e=>by simp at e
 | _,_,0,_,.cons r _,e=>by simp at e;subst e;exact ⟨_,rfl,r⟩
 | _,_,i+1,x,.cons _ t,e=>by
  obtain ⟨u,h1,h2⟩:=Paired.at (i:=i) (x:=x) t (by simpa using e)
  exact ⟨u,by simpa using h1,h2⟩
theorem vm{P:Program}{w:World}{H:Hp}{h:Heap}{d:Addr}{o:Obj}{kvs:List (List Key×V)}(ok:HOk P w H h)(e:H d=some (.frz o (.dT kvs))){es:Array DictEntry}{ep:Nat}(ho:o.data=.dict es ep):
  h.get? d=some o/\es.size=kvs.length/\∀(i:Nat)(k:List Key)(v:V),kvs[i]?=some (k,v)->∃(hs:Int)(b:Addr)(u:Value),es[i]?=some (⟨hs,.ref b,u⟩:DictEntry)/\H b=some (.tup (k.map kV))/\RelV v u:=by
 obtain ⟨e1,z,hd,xs,rel,o',es',ep',e2,ex,hdat,hes,hn⟩:=ok d _ e
 rw [e1] at e2
 cases e2
 rw [ho] at hdat
 cases hdat
 refine ⟨e1,(size_of_entries hes).trans (Paired.length rel).symm,fun i k v hk=>?_⟩
 obtain ⟨⟨k',b,u⟩,hx,h1,h2,h3⟩:=Paired.at rel hk
 refine ⟨(tupleKind (br P w)).hash k',b,u,?_,h2,h3⟩
 rw [entry_at hes i,hx]
 rfl
theorem qw:entryFor table "dict_itemiterator.__iter__"=some Builtin.«dict_keyiterator.__iter__»:=entryFor_alias (id':="dict_keyiterator.__iter__") (by kernel_rfl) rfl (by decide +kernel) (by kernel_rfl)
theorem u9{prog:Program}{w:World}{A:Around}{E:Value->Shared->Prop}{s:Shared}{it d:Addr}{i n ep:Nat}{ok ov:Value}{Q:Value->Shared->Prop}(he:IsItemIter s.heap it d i n ep ok ov)(h:Q (.ref it) s):wpAny (model prog w) A (pyIter (.ref it)) Q E s:=by
 have hT:s.TypeIs (.ref it) "dict_itemiterator":=⟨_,he,rfl⟩
 refine wpAny_pyIter_slot hT F.slot_dict_itemiterator_iter (wpAny_call_entry F.slot_dict_itemiterator_iter hT qw ?_ (F.args_dict_itemiterator_iter_1 _))
 show wpAny _ _ (ret (.ref it)) _ _ s
 exact wpAny_pure ⟨_,rfl,"dict_itemiterator",_,hT,F.slot_dict_itemiterator_next.lookup,h⟩
theorem qZ{P:Program}{w:World}{K:PySem.W.Frag}{elts:List Expr}{k0:Nat}{pos0:Pos}(d it:Addr)(o:Obj){es:Array DictEntry}{ep:Nat}(ho:o.data=.dict es ep)(kvs:List (List Key×V)):
  kE P w K (.Tuple elts k0 pos0) (lV d o kvs) [it] it (fun i h=>∃ok ov,IsItemIter h it d i es.size ep ok ov) where
 mem:=by simp
 obj:=fun i h ⟨ok,ov,he⟩ b hb=>by
  have e:b=it:=by simpa using hb
  subst e
  exact ⟨_,he,fun v z=>by
   have z':Data.fields _=Data.cell v:=z
   cases z'⟩
 keep:=fun i h h' ⟨ok,ov,he⟩ k=>⟨ok,ov,k it (by simp) _ he⟩
 item:=by
  intro X hP hw hK hc i pins s σ H E I hf st hg
  subst hP hw hK
  obtain ⟨ok,ov,he⟩:=st
  obtain ⟨hg1,hi⟩:=hg
  obtain ⟨hd,hsz,hat⟩:=vm I.hok hg1 ho
  obtain ⟨⟨k,v⟩,hk⟩:∃p,kvs[i]?=some p:=⟨_,List.getElem?_eq_getElem hi⟩
  obtain ⟨hs0,b,u,hen,hb,ru⟩:=hat i k v hk
  obtain ⟨f0,f1,f2,f3,f4,f5⟩:=hf it (by simp)
  refine oh he hd ho hen fun h1 ho1 hT hz1 hk1=>?_
  refine ⟨_,rfl,wpAny_letOwnedTupleGo_items ho1 fun h2 he2 hs2=>?_⟩
  replace hs2:Heap.SameBut it h1 h2:=hs2
  have hlt:it < s.heap.objs.size:=Heap.lt_size he
  have hk2:∀b o,b≠it->s.heap.get? b=some o->h2.get? b=some o:=fun b o b1 q=>(hs2.2 b b1).trans (hk1 b o b1 q)
  have hT2:h2.get? s.heap.objs.size=some {cls:=.type "tuple",data:=.seq #[.ref b,u]}:=(hs2.2 _ (Nat.ne_of_gt hlt)).trans hT
  have hn:H s.heap.objs.size=none:=I.hok.fresh (Nat.le_refl _)
  have nE:∀b v,H b=some v->b≠it:=fun b v q z=>by rw [z,f0] at q;cases q
  have ok2:HOk X.prog X.w H h2:=fun b v q=>(I.hok b v q).stay (fun c v' hc r=>by
   rcases hc with z | z
   ·exact hk2 c v' (by rw [z];exact nE b v q) r
   ·exact hk2 c v' (nE c _ z) r) (fun _ r=>r) fun _ _ r=>r
  have ok3:HOk X.prog X.w (upd H s.heap.objs.size (.tup [.ref b,v])) h2:=fun c w' q=>by
   by_cases hb':c=s.heap.objs.size
   ·subst hb'
    rw [ae] at q
    cases q
    exact ⟨by show 2<=sizeLine;decide,[.ref b,u],.cons rfl (.cons ru .nil),⟨_,hT2,rfl,_,rfl⟩⟩
   ·rw [al hb'] at q
    exact (ok2 c w' q).stay (fun c v' _ r=>r) (fun c r=>by rw [al (ai r hn)];exact r) fun c ys r=>by rw [al (ai r hn)];exact r
  have nlt:∀{b:Addr} {o:Obj},s.heap.get? b=some o->b≠s.heap.objs.size:=fun q=>Nat.ne_of_lt (Heap.lt_size q)
  have I2:Inv X pins σ (upd H s.heap.objs.size (.tup [.ref b,v])) {s with heap:=h2,toks:=s.toks}:=
   I.step (g':=s.gens) (d':=s.drawn) (ch:=[it]) (fun b hb=>by
     rw [List.mem_singleton.mp hb]
     exact ⟨f3,f1,f4,f5⟩)
    (fun b o _ _ hc q _=>hk2 b o (fun z=>hc (by simp [z])) q)
    (fun b o _ _ hc q _=>⟨o.slots,hk2 b o (fun z=>hc (by simp [z])) q⟩)
    (fun b o _ q n=>by rw [al (nlt q)];exact n)
    (fun b o hc q=>⟨o,hk2 b o (fun z=>hc (by simp [z])) q⟩)
    (fun b ys q=>by rw [al (ai q hn)];exact q) (fun b o v q=>by rw [al (ai q hn)];exact q) (fun b ps q=>⟨#[],by rw [al (ai q hn),q];simp⟩)
    (fun m ⟨o,es,ep,hm,r⟩=>⟨o,es,ep,hk2 _ o (Ne.symm f1) hm,r⟩) ok3 I.bare
  refine ⟨.ref s.heap.objs.size,_,I2,rfl,⟨_,k,b,v,rfl,hn,rfl,hk,hb⟩,⟨_,_,he2⟩,fun c hc=>?_⟩
  rw [List.mem_singleton.mp hc,al (Nat.ne_of_lt hlt)]
  exact f0
 done:=by
  intro X hP hw hK hc i pins s σ H E I hf st hg
  subst hP hw hK
  obtain ⟨ok,ov,he⟩:=st
  obtain ⟨hg1,hi⟩:=hg
  obtain ⟨hd,hsz,hat⟩:=vm I.hok hg1 ho
  obtain ⟨f0,f1,f2,f3,f4,f5⟩:=hf it (by simp)
  exact qu (I.ok.hd hc) he hd ho (by omega) fun h' eb=>⟨rfl,I.turned (t':=s.toks) (fun b o hb e=>eb b o hb e) f0 f1 f3 f4 f5⟩
 self:=fun _ _ _ _ _ ⟨_,_,he⟩ h=>u9 he h
def md(td:TE):TI:=fun σ H R=>td σ H fun x H1=>∃a kvs,x=.ref a/\H1 a=some (.dT kvs)/\∀o,R (lV a o kvs) (upd H1 a (.frz o (.dT kvs)))
theorem uv{X:Cx}{o:Expr}{td:TE}{apos pos pos0:Pos}{elts:List Expr}{k0:Nat}(ho:PE X o td)(hbase:attributeBase o "items" X.env (eval o X.env)=eval o X.env:=by rfl) (hline:(apos.endLine == pos.line)=true:=by rfl) :
  PI X (.Tuple elts k0 pos0) (.Call (.Attribute o "items" apos) [] [] pos) (md td):=by
 intro pins s σ H R I h
 refine wpAny_Call_method0_late hbase hline (thn (ho pins s σ H _ I h) fun v s1 hhx=>?_)
 obtain ⟨x,H1,I1,r1,a,kvs,ex,e,q1⟩:=hhx
 subst ex
 cases r1
 obtain ⟨h1,h2⟩:=ya (T:="dict") I1 (show RelV (.ref a) (.ref a) from rfl) (.inr (.inr (.inl ⟨rfl,.inr ⟨kvs,e⟩⟩)))
 refine ⟨"dict",_,PySem.F.plainAttrs_dict,PySem.F.slot_dict_items,PySem.F.type_dict_items,h1,h2,Calls.callWith_builtin rfl (PySem.evalArgs_none ?_)⟩
 have okd:=I1.hok a _ e
 obtain ⟨z,hd,xs,rel,od,es,ep,g1,g2,g3,g4,g5⟩:=id okd
 refine nz hd g1 g2 ?_
 refine nV (es:=es) (ep:=ep) ⟨_,Heap.get?_push_size _ rfl,rfl,rfl⟩ (Heap.get?_push_of_some _ g1) g3 ?_
 have I2:Inv X pins σ (upd H1 a (.frz od (.dT kvs))) {s1 with heap:=s1.heap,toks:=s1.toks}:=I1.write (x:=a) (e:=a) (by rw [e];exact True.intro) (.inl rfl) (fun b u _ q=>q) ⟨od,g1⟩ ⟨g1,okd.stay (fun _ _ _ q=>q) (fun b q=>by
  rw [al (dl q e (fun z=>nomatch z))];exact q) fun b ys q=>by rw [al (dl q e (fun z=>nomatch z))];exact q⟩
 have I3:=I2.kept (h':=s1.heap.push {cls:=.type "dict_items",data:=.fields #[.ref a]}) (t':=s1.toks) fun b o e=>Heap.get?_push_of_some _ e
 refine ⟨_,[_],_,_,_,rfl,I3.kept (t':=s1.toks) fun b o e=>Heap.get?_push_of_some _ e,qZ a _ od g3 kvs,⟨_,_,Heap.get?_push_size _ rfl⟩,fun b hb=>?_,q1 od⟩
 rw [List.mem_singleton.mp hb]
 exact I3.fpOk (Nat.le_refl _) (I3.hok.fresh (Nat.le_refl _))
theorem rh{X:Cx}{o:Expr}{td:TE}{apos pos pos0:Pos}{elts:List Expr}{k0:Nat}(ho:XE X o td)(hbase:attributeBase o "items" X.env (eval o X.env)=eval o X.env:=by rfl) (hline:(apos.endLine == pos.line)=true:=by rfl) :
  XI X (.Tuple elts k0 pos0) (.Call (.Attribute o "items" apos) [] [] pos) (md td):=⟨uv ho.h hbase hline⟩
theorem dq{td:TE}{R:It->Hp->Prop}:md td σ H R=td σ H fun x H1=>∃a kvs,x=.ref a/\H1 a=some (.dT kvs)/\∀o,R (lV a o kvs) (upd H1 a (.frz o (.dT kvs))):=rfl
theorem vn{d:Addr}{o:Obj}{kvs:List (List Key×V)}{g:TG}{tb:TS}{D:cA}{σ:St}{H:Hp}(Pv:Nat->St->Hp->Prop)(h0:Pv 0 σ H)(hl:∀i σ H,i<=kvs.length->Pv i σ H->H d=some (.frz o (.dT kvs)))
 (hs:∀(i:Nat)k v b σ H p,kvs[i]?=some (k,v)->H b=some (.tup (k.map kV))->H p=none->Pv i σ H->g (.ref p) σ (upd H p (.tup [.ref b,v])) fun σ2 H2=>tb {D with nx:=Pv (i+1),ct:=Pv (i+1),bk:=D.nx} σ2 H2) (hd:∀σ H,Pv kvs.length σ H->D.nx σ H):mQ (lV d o kvs) g tb D σ H:=by
 refine ⟨fun i m σ H=>m=kvs.length - i/\i<=kvs.length/\Pv i σ H,⟨kvs.length,by simp,Nat.zero_le _,h0⟩,?_⟩
 rintro i m σ H ⟨rfl,hi,p⟩
 have q:=hl i σ H hi p
 by_cases hlt:i < kvs.length
 ·refine .inr ⟨⟨q,hlt⟩,Pv (i+1),fun σ' H' p'=>⟨kvs.length - (i+1),by omega,rfl,hlt,p'⟩,fun x H' y=>?_⟩
  obtain ⟨pp,k,b,v,ex,hn,eH,hk,hb⟩:=y
  subst ex eH
  exact hs i k v b σ H pp hk hb hn p
 ·obtain rfl:i=kvs.length:=by omega
  exact .inl ⟨⟨q,Nat.le_refl _⟩,hd σ H p⟩
section
variable {X:Cx}
def Aa:V->List V->Hp->VK->Prop:=fun x vs H Q=>∃(l b:Addr)(kvs:List (List Key×V)) (k:List Key) (v:V),x=.ref l/\vs=[.ref b,v]/\H l=some (.dT kvs)/\H b=some (.tup (k.map kV))/\kvs.length < sizeLine/\
 (∀y,d5 kvs k=some y->Q y H)/\(d5 kvs k=none->Q v (upd H l (.dT (kvs ++ [(k,v)]))))
theorem kI(hu:X.A.units+1 < cLine):MtM X "dict.setdefault" Aa:=by
 intro pins s σ H x vs u us Q I rx rv h
 obtain ⟨l,b,kvs,k,v,rfl,rfl,hl,hb,hz,q1,q2⟩:=h
 cases rx
 obtain ⟨u1,u2,rfl,r1,r2⟩:=yb rv
 cases r1
 obtain ⟨z,hd,xs,rel,dd⟩:=A4 I.hok hl
 have hlen:=Paired.length rel
 refine call_meetsIn PySem.F.slot_dict_setdefault dd.typeIs PySem.F.entry_dict_setdefault (PySem.F.args_dict_setdefault_3 _ _ _) (kH (tupleKind (br X.prog X.w)) l b hd u2) ⟨tupleKind_room_in1 hu,k,xs,jg I.hok hb,dd,by omega,fun p hp=>?_,fun hn h' dd' hs=>?_⟩
 ·have rk:=rel.val k
  rw [hp] at rk
  cases hv:d5 kvs k with
  | none=>rw [hv] at rk;exact rk.elim
  | some y=>rw [hv] at rk;exact ⟨y,H,I.tok _,rk,q1 y hv⟩
 ·have rk:=rel.val k
  rw [hn] at rk
  have hv:d5 kvs k=none:=by
   cases hv:d5 kvs k with
   | none=>rfl
   | some y=>rw [hv] at rk;exact rk.elim
  obtain ⟨q,es,ep,hq,h2,h3,h4,_,h5⟩:=dd'
  refine ⟨v,_,rO (ob:=.dT (kvs ++ [(k,v)])) I (by rw [hl];exact True.intro) hs ⟨q,hq⟩ ⟨by rw [List.length_append,List.length_singleton];omega,hd,_,KT.keeps (Paired.snoc rel ⟨rfl,hb,r2⟩) fun c ys ec=>?_,q,es,ep,hq,h2,h3,h4,h5⟩,r2,q2 hv⟩
  rw [al (dl ec hl (fun z=>nomatch z))]
  exact ec
theorem k9{l b:Addr}{v:V}:Aa (.ref l) [.ref b,v] H Q=∃(kvs:List (List Key×V)) (k:List Key),H l=some (.dT kvs)/\H b=some (.tup (k.map kV))/\kvs.length < sizeLine/\
  (∀y,d5 kvs k=some y->Q y H)/\(d5 kvs k=none->Q v (upd H l (.dT (kvs ++ [(k,v)])))):=propext ⟨by rintro ⟨_,_,kvs,k,_,e1,e2,q⟩;cases e1;cases e2;exact ⟨kvs,k,q⟩,by rintro ⟨kvs,k,q⟩;exact ⟨l,b,kvs,k,v,rfl,rfl,q⟩⟩
def mF(tk tv:TE):TE:=fun σ H Q=>∀p,H p=none->tk σ (upd H p (.dT [])) fun x H1=>tv σ H1 fun y H2=>H2 p=some (.dT [])/\∃(b:Addr)(k:List Key),x=.ref b/\H2 b=some (.tup (k.map kV))/\Q (.ref p) (upd H2 p (.dT [(k,y)]))
theorem ur{pos:Pos}{ke ve:Expr}(hu:X.A.units+1 < cLine)(hk:PE X ke tk)(hv:PE X ve tv):PE X (.Dict [some ke] [ve] pos) (mF tk tv):=by
 intro pins s σ H Q I q
 have hn:=I.hok.fresh (Nat.le_refl s.heap.objs.size)
 have I1:=I.laid (a:=s.heap.objs.size) (o:=.dT []) (h':=s.heap.push {cls:=.type "dict",data:=.dict #[]}) (t':=s.toks) (fun _ _ q=>Heap.get?_push_of_some _ q) (Nat.le_refl _) (nM s.heap I.big)
 refine wpAny_Dict_any rfl rfl (by simp) (by simp) ?_
 refine pairTrees_cons_walk (thn (hk pins _ σ _ _ I1 (q _ hn)) fun u s1 ⟨x,H1,J1,rx,q1⟩=>thn (hv pins s1 σ H1 _ J1 q1) fun w2 s2 ⟨y,H2,J2,ry,q2⟩=>pairTrees_nil_walk ?_)
 obtain ⟨e,b,k,ex,hb,q3⟩:=q2
 subst ex
 cases rx
 unfold storeAll
 rw [List.forIn_cons]
 obtain ⟨z,hd,xs,rel,dd⟩:=A4 J2.hok e
 cases rel
 refine wpAny_bind (wpAny_bind (wpAny_dictSet_heap (hsz:=Nat.zero_le _) (show X.A.units < cLine by omega) (jg J2.hok hb) dd fun h' dd' hs=>wpAny_pure ?_))
 dsimp only
 rw [List.forIn_nil]
 refine wpAny_pure ⟨.ref s.heap.objs.size,_,?_,rfl,q3⟩
 obtain ⟨q,es,ep,hq,h2,h3,h4,_,h5⟩:=dd'
 refine rO J2 (by rw [e];exact True.intro) hs ⟨q,hq⟩ ⟨by show 1<=sizeLine;decide,hd,_,.cons ⟨rfl,?_,ry⟩ .nil,q,es,ep,hq,h2,h3,h4,h5⟩
 show upd H2 s.heap.objs.size _ b=_
 rw [al (dl hb e (fun z=>nomatch z))]
 exact hb
theorem re{pos:Pos}{ke ve:Expr}(hu:X.A.units+1 < cLine)(hk:XE X ke tk)(hv:XE X ve tv):XE X (.Dict [some ke] [ve] pos) (mF tk tv):=⟨ur hu hk.h hv.h⟩
theorem eg:mF tk tv σ H Q=∀p,H p=none->tk σ (upd H p (.dT [])) fun x H1=>tv σ H1 fun y H2=>H2 p=some (.dT [])/\∃(b:Addr)(k:List Key),x=.ref b/\H2 b=some (.tup (k.map kV))/\Q (.ref p) (upd H2 p (.dT [(k,y)])):=rfl
theorem uU{pos:Pos}:XE X (.Dict [] [] pos) qX:=⟨wk⟩
theorem gv:qX σ H Q=∀p,H p=none->Q (.ref p) (upd H p (.dT [])):=rfl
end
end L2
namespace L2
open PySem PySem.Spec PyProof.Rows
section
variable {prog:Program} {w:World} {A:Around} {E:Value->Shared->Prop} {s:Shared}
theorem nD{Q:List Value->Shared->Prop}{r:Addr}{a b c:Int}{t u v:Tok}{n:Nat}(hh:A.handled=none)(hr:IsRange s.heap r a b c t u v)(hsmall:Builtin.Range.small a b c=true)(hn:Builtin.Range.rangeSize a b c=n)(hlen:n<=2 ^ 24)
  (hQ:∀h' tk acc,(∀b o,s.heap.get? b=some o->h'.get? b=some o)->ItemsOf (fun i v=>∃t,v=.int (a+i * c) t) acc n->Q acc.toList {s with heap:=h',toks:=tk}):wpAny (model prog w) A (collect (.ref r)) Q E s:=by
 unfold collect
 refine wpAny_bind (wpAny_runValue (codeAny_builtin F.entry_proto_collect ?_))
 rw [Around.under_plainId F.plain_proto_collect _]
 show wpAny _ A.in1 (newList [] >>= fun l=>again (.builtin "list.__iadd__" ⟨[l,.ref r],[]⟩)) _ _ s
 refine wpAny_bind (wpAny_newObj_type ?_)
 refine wpAny_pure ⟨plainId_quiet F.plain_list_iadd _,codeAny_builtin F.entry_list_iadd ?_⟩
 rw [Around.under_plainId F.plain_list_iadd _]
 show wpAny _ A.in1 (Builtin.List.listExtendWith (.ref s.heap.objs.size) (.ref r) (.ref s.heap.objs.size)) _ _ _
 have hS:(s.heap.push {cls:=.type "list",data:=.seq ([]:List Value).toArray}).get? s.heap.objs.size=some {cls:=.type "list",data:=.seq #[] 0}:=Heap.get?_push_size _ rfl
 refine wpAny_mono (wpAny_extend_range (A:=A) (s:={s with heap:=s.heap.push {cls:=.type "list",data:=.seq ([]:List Value).toArray}}) (R:=fun r' s'=>∃h' tk acc c',r'=.ok (.ret (.ref s.heap.objs.size))/\s'={s with heap:=h',toks:=tk}/\(∀b o,s.heap.get? b=some o->h'.get? b=some o)/\
   h'.get? s.heap.objs.size=some {cls:=.type "list",dict:=none,data:=.seq acc c',slots:=#[]}/\ItemsOf (fun i v=>∃t,v=.int (a+i * c) t) acc n) hh (Heap.get?_push_of_some _ hr) hsmall hn hlen _ _ _ hS
  fun h' tk acc c' hk hS' hacc=>⟨h',tk,acc,c',rfl,rfl,fun b o e=>hk b o (Nat.ne_of_lt (Heap.lt_size e)) (Heap.get?_push_of_some _ e),hS',hacc⟩) (fun fin s' h=>?_) (fun e s' h=>?_)
 ·have fin':∀s' r',(∃h' tk acc c',r'=(Except.ok (.ret (.ref s.heap.objs.size)):Result)/\s'={s with heap:=h',toks:=tk}/\(∀b o,s.heap.get? b=some o->h'.get? b=some o)/\
   h'.get? s.heap.objs.size=some {cls:=.type "list",dict:=none,data:=.seq acc c',slots:=#[]}/\ItemsOf (fun i v=>∃t,v=.int (a+i * c) t) acc n)->wpAny (model prog w) A (match Value.ref s.heap.objs.size with
   | Value.ref a=>do
    match (<- load a).data with
     | Data.seq xs _=>pure xs.toList
     | _=>unsupported "internal:collect"
   | _=>unsupported "internal:collect") Q E s':=by
   rintro s' r' ⟨h',tk,acc,c',_,rfl,hk,hS',hacc⟩
   show wpAny _ A (load s.heap.objs.size >>= _) _ _ _
   refine wpAny_bind (wpAny_load hS' ?_)
   exact wpAny_pure (hQ h' tk acc hk hacc)
  cases fin with
  | done f=>
   obtain ⟨h',tk,acc,c',e,r⟩:=id h
   cases e
   exact fin' _ _ h
  | again c'=>exact ⟨h.1,codeAny_mono h.2 fun r s'' hr=>by
    obtain ⟨h',tk,acc,c',e,r⟩:=id hr
    subst e
    exact fin' _ _ hr⟩
 ·obtain ⟨_,_,_,_,e,_⟩:=h
  cases e
theorem iN(r:Addr)(n:Nat)(hlen:n<=1000):
  Meets (Builtin.«tuple.__new__» ⟨[.type "tuple",.ref r],[]⟩)
   (fun A R s=>A.handled=none/\(∃t u v,IsRange s.heap r 0 n 1 t u v)/\∀(h':Heap)(tk:Nat)(acc:Array Value),(∀b o,s.heap.get? b=some o->h'.get? b=some o)->ItemsOf (fun i v=>∃t,v=.int (0+i * 1) t) acc n->
    R (.ok (.ret (.ref h'.objs.size))) {s with heap:=h'.push {cls:=.type "tuple",data:=.seq acc},toks:=tk}):=
 .of_wp fun prog w A R s h=>by
  obtain ⟨hh,⟨t,u,v,hr⟩,h⟩:=h
  have hsub:=sub_tuple_self
  have hinit:=init_tuple_lookup
  have hmh:=madeHere_tuple
  have hT:s.TypeIs (.ref r) "range":=⟨_,hr,rfl⟩
  have hh1:A.in1.handled=none:=hh
  have hsm:Builtin.Range.small 0 n 1=true:=small_one (by omega) (by omega) (by omega) (by omega)
  have hsz:Builtin.Range.rangeSize 0 n 1=n:=by rw [rangeSize_one];split <;> omega
  wp_walk using AutoSeq1.wpAny_loadPart' hr,wpAny_typeOf hT,nD hh1 hr hsm hsz (Nat.le_trans hlen (by decide))
  intro h' tk acc hk hacc
  show wpAny _ _ (Builtin.Tuple.tupleExact acc.toList.toArray >>= fun v=>ret v) _ _ _
  unfold Builtin.Tuple.tupleExact
  refine wpAny_bind (wpAny_newObj_type ?_ (show acc.toList.toArray.size<=sizeLine by simp only [Array.toArray_toList];rw [hacc.1,sizeLine_eq];omega))
  refine wpAny_pure ⟨_,rfl,?_⟩
  have e:acc.toList.toArray=acc:=by simp
  rw [e]
  exact h h' tk acc hk hacc
theorem j3{r:Addr}{n:Nat}{t u v:Tok}{Q:Value->Shared->Prop}(hh:A.handled=none)(hlen:n<=1000)(hr:IsRange s.heap r 0 n 1 t u v)
  (h:∀(h':Heap)(tk:Nat)(acc:Array Value),(∀b o,s.heap.get? b=some o->h'.get? b=some o)->ItemsOf (fun i v=>∃t,v=.int (0+i * 1) t) acc n->Q (.ref h'.objs.size) {s with heap:=h'.push {cls:=.type "tuple",data:=.seq acc},toks:=tk}) :
  wpAny (model prog w) A (call (.type "tuple") [.ref r]) Q E s:=
 callType_new F.called_tuple (by decide) (F.typeCall_tuple_1 _) (F.newCall_tuple_1 _) (fun obj=>F.args_object_init_2 obj _) F.entry_tuple_new
  (iN r n hlen) ⟨hh,⟨t,u,v,hr⟩,fun h' tk acc hk hacc=>⟨⟨_,Heap.get?_push_size _ rfl,rfl⟩,h h' tk acc hk hacc⟩⟩
end
section
variable {X:Cx}
def mI(ta:TA):TE:=fun σ H Q=>ta σ H fun vs H1=>∃n:Nat,vs=[.int n]/\n<=1000/\∀l,H1 l=none->Q (.ref l) (upd H1 l (.tup ((List.range n).map fun i:Nat=>V.int i)))
theorem uu{a:Expr}{ta:TA}{p p2 pos pos2:Pos}(hc:X.calm=true)(hm:X.mg "tuple"=none) (hm2:X.mg "range"=none) (ha:PA X [a] ta) (hg:Gl X "tuple") (hg2:Gl X "range") (hs:starEach [a] X.env=[(false,eval a X.env)]:=by rfl)
  (hs2:starEach [.Call (.Name "range" p2) [a] [] pos2] X.env=[(false,eval (.Call (.Name "range" p2) [a] [] pos2) X.env)]:=by rfl) :
  PE X (.Call (.Name "tuple" p) [.Call (.Name "range" p2) [a] [] pos2] [] pos) (mI ta):=by
 intro pins s σ H Q I h
 refine Call_ (df I hg hm boot_tuple (PyProof.Rows.callWith_type1 ?_ hs2 rfl))
 rw [hs2]
 show wpAny _ _ (spliced ((false,eval (.Call (.Name "range" p2) [a] [] pos2) X.env) :: [])) _ _ s
 refine Calls.spliced_cons (Call_ (df I hg2 hm2 boot_range (PyProof.Rows.callWith_type1 (thn (ha pos2 pins s σ H _ I h) fun us s1 hhx=>?_) hs rfl)))
 obtain ⟨vs,H1,I1,r1,q1⟩:=hhx
 obtain ⟨n,e,hn,q⟩:=q1
 subst e
 cases r1 with
 | cons r rr=>
  cases rr
  obtain ⟨t,rfl⟩:=r
  refine call_range_1 (Calls.spliced_nil ?_)
  refine j3 (n:=n) (I.ok.hd hc) hn (IsRange.new ..) fun h' tk acc hk hacc=>?_
  have kp:∀b u,s1.heap.get? b=some u->h'.get? b=some u:=fun b u e=>hk b u (Heap.get?_push_of_some _ e)
  have I2:Inv X pins σ H1 {s1 with heap:=h',toks:=tk}:=I1.kept kp
  refine ⟨.ref h'.objs.size,_,I2.laid (t':=tk) (fun b u e=>Heap.get?_push_of_some _ e) (Nat.le_refl _) (show ObjOk X.prog X.w _ _ _ (.tup ((List.range n).map fun i:Nat=>V.int i)) from ⟨by rw [List.length_map,List.length_range,sizeLine_eq];omega,acc.toList,u8 hacc,?_⟩),rfl,q _ (I2.hok.fresh (Nat.le_refl _))⟩
  have e:=IsTup.new h' acc
  simpa using e
theorem rf{a:Expr}{ta:TA}{p p2 pos pos2:Pos}(hc:X.calm=true)(hm:X.mg "tuple"=none) (hm2:X.mg "range"=none) (ha:XA X [a] ta) (hg:Gl X "tuple") (hg2:Gl X "range") (hs:starEach [a] X.env=[(false,eval a X.env)]:=by rfl)
  (hs2:starEach [.Call (.Name "range" p2) [a] [] pos2] X.env=[(false,eval (.Call (.Name "range" p2) [a] [] pos2) X.env)]:=by rfl) :
  XE X (.Call (.Name "tuple" p) [.Call (.Name "range" p2) [a] [] pos2] [] pos) (mI ta):=⟨uu hc hm hm2 ha.h hg hg2 hs hs2⟩
theorem eO{ta:TA}{σ:St}{H:Hp}{Q:VK}:mI ta σ H Q=ta σ H fun vs H1=>∃n:Nat,vs=[.int n]/\n<=1000/\∀l,H1 l=none->Q (.ref l) (upd H1 l (.tup ((List.range n).map fun i:Nat=>V.int i))):=rfl
end
section
variable {prog:Program} {w:World} {A:Around} {E:Value->Shared->Prop} {s:Shared} {l I S:Addr} {vs:List Value} {ln:Nat->Nat} {dv:Value} {R:Result->Shared->Prop}
end
section
variable {X:Cx}
end
end L2
namespace GD
section
variable {G:Nat->Nat->Option Int} {so:Nat->Nat} {U:Nat->Int} {n:Nat}
end
end GD
namespace L2
open PySem PySem.Spec PyProof.Rows
section
variable {X:Cx}
end
end L2
namespace L2
open PySem PySem.Spec PyProof.Rows
def Itz(K:PySem.W.Frag)(a b:Addr):It:=
  ⟨fun i H=>∃xs ys x y,SqL K H a xs/\SqL K H b ys/\xs[i]?=some x/\ys[i]?=some y,
   fun i H z H'=>∃p x y,z=.ref p/\H p=none/\H'=upd H p (.tup [x,y])/\(∀xs,SqL K H a xs->xs[i]?=some x)/\∀ys,SqL K H b ys->ys[i]?=some y,
   fun i H=>∃xs ys,SqL K H a xs/\SqL K H b ys/\(xs.length<=i\/ys.length<=i)⟩
def Ck(z ti to i1 i2 a b:Addr)(i:Nat)(h:Heap):Prop:=IsZip h z ti to .none/\IsPair h ti (.ref i1) (.ref i2)/\(∃u v,IsPair h to u v)/\h.IsListIter i1 a i/\h.IsListIter i2 b i
theorem y9{P:Program}{w:World}{K:PySem.W.Frag}{elts:List Expr}{k0:Nat}{pos0:Pos}{z ti to i1 i2 a b:Addr}(D:ZipApart z ti to i1 i2 a b):
  kE P w K (.Tuple elts k0 pos0) (Itz K a b) [z,ti,to,i1,i2] z (Ck z ti to i1 i2 a b) where
 mem:=by simp
 obj:=fun i h ⟨h1,h2,⟨u,v,h3⟩,h4,h5⟩ c hc=>by
  simp only [List.mem_cons,List.not_mem_nil,or_false] at hc
  rcases hc with rfl | rfl | rfl | rfl | rfl
  ·exact ⟨_,h1,fun v e=>by cases (show Data.fields _=Data.cell v from e)⟩
  ·exact ⟨_,h2,fun v e=>by cases (show Data.seq _ _=Data.cell v from e)⟩
  ·exact ⟨_,h3,fun v e=>by cases (show Data.seq _ _=Data.cell v from e)⟩
  ·obtain ⟨o,q,_,d⟩:=h4
   exact ⟨o,q,fun v e=>by rw [d] at e;cases e⟩
  ·obtain ⟨o,q,_,d⟩:=h5
   exact ⟨o,q,fun v e=>by rw [d] at e;cases e⟩
 keep:=fun i h h' ⟨h1,h2,⟨u,v,h3⟩,h4,h5⟩ k=>⟨k z (by simp) _ h1,k ti (by simp) _ h2,⟨u,v,k to (by simp) _ h3⟩,h4.at fun o q=>k i1 (by simp) o q,h5.at fun o q=>k i2 (by simp) o q⟩
 item:=by
  intro X hP hw hK hc i pins s σ H E I hf st hg
  subst hP hw hK
  obtain ⟨xs,ys,x,y,hqx,hqy,hx,hy⟩:=hg
  obtain ⟨its,rv,p,hzz⟩:=I.list hqx
  obtain ⟨ots,rw',p',hzz'⟩:=I.list hqy
  obtain ⟨u,hu,ru⟩:=rv.get hx
  obtain ⟨v,hv,rv'⟩:=rw'.get hy
  obtain ⟨hz,hti,⟨oa,ob,hto⟩,hi1,hi2⟩:=st
  have hf0:∀c∈[z,ti,to,i1,i2],H c=none:=fun c hc=>(hf c hc).1
  refine wpAny_pyNext_zip_item D hz hti hto hi1 hi2 p.isList p'.isList (x:=u) (y:=v) (by simpa using hu) (by simpa using hv) fun h1 z1 t1 a1 a2 t2 hsz hk=>?_
  refine ⟨_,rfl,wpAny_letOwnedTupleGo_zip z1 fun h2 z2 hs2=>?_⟩
  replace hs2:Heap.SameBut z h1 h2:=hs2
  have zlt:z < s.heap.objs.size:=Heap.lt_size hz
  have hk2:∀c o,c≠z->c≠to->c≠i1->c≠i2->s.heap.get? c=some o->h2.get? c=some o:=fun c o c1 c2 c3 c4 q=>(hs2.2 c c1).trans (hk c o c1 c2 c3 c4 q)
  have hT2:IsPair h2 s.heap.objs.size u v:=(hs2.2 _ (Nat.ne_of_gt zlt)).trans t2
  have hn:H s.heap.objs.size=none:=I.hok.fresh (Nat.le_refl _)
  have nF:∀c o,H c=some o->c≠z/\c≠to/\c≠i1/\c≠i2:=fun c o q=>⟨fun e=>(by rw [e,hf0 z (by simp)] at q;cases q),fun e=>(by rw [e,hf0 to (by simp)] at q;cases q),fun e=>(by rw [e,hf0 i1 (by simp)] at q;cases q),fun e=>(by rw [e,hf0 i2 (by simp)] at q;cases q)⟩
  have kp:∀c o o',H c=some o->s.heap.get? c=some o'->h2.get? c=some o':=fun c o o' q r=>let ⟨n1,n2,n3,n4⟩:=nF c o q;hk2 c o' n1 n2 n3 n4 r
  have ok2:HOk X.prog X.w H h2:=fun c o q=>(I.hok c o q).stay (fun d v' hd r=>by
   rcases hd with e | e
   ·rw [e] at r ⊢;exact kp c o v' q r
   ·exact kp d _ v' e r) (fun _ r=>r) fun _ _ r=>r
  have ok3:HOk X.prog X.w (upd H s.heap.objs.size (.tup [x,y])) h2:=fun c o q=>by
   by_cases hb:c=s.heap.objs.size
   ·subst hb
    rw [ae] at q
    cases q
    exact ⟨by show 2<=sizeLine;decide,[u,v],.cons ru (.cons rv' .nil),⟨_,hT2,rfl,_,rfl⟩⟩
   ·rw [al hb] at q
    exact (ok2 c o q).stay (fun d v' _ r=>r) (fun d r=>by rw [al (ai r hn)];exact r) fun d zs r=>by rw [al (ai r hn)];exact r
  have nlt:∀{c:Addr} {o:Obj},s.heap.get? c=some o->c≠s.heap.objs.size:=fun q=>Nat.ne_of_lt (Heap.lt_size q)
  have lg:∀c,c∉[z,ti,to,i1,i2]->c≠z/\c≠to/\c≠i1/\c≠i2:=fun c hc=>by
   simp only [List.mem_cons,List.not_mem_nil,or_false,not_or] at hc
   exact ⟨hc.1,hc.2.2.1,hc.2.2.2.1,hc.2.2.2.2⟩
  have I2:Inv X pins σ (upd H s.heap.objs.size (.tup [x,y])) {s with heap:=h2,toks:=s.toks}:=
   I.step (g':=s.gens) (d':=s.drawn) (ch:=[z,ti,to,i1,i2]) (fun c hc=>let ⟨_,f1,_,f3,f4,f5⟩:=hf c hc;⟨f3,f1,f4,f5⟩)
    (fun c o _ _ hc q _=>let ⟨n1,n2,n3,n4⟩:=lg c hc;hk2 c o n1 n2 n3 n4 q)
    (fun c o _ _ hc q _=>let ⟨n1,n2,n3,n4⟩:=lg c hc;⟨o.slots,hk2 c o n1 n2 n3 n4 q⟩)
    (fun c o _ q n=>by rw [al (nlt q)];exact n)
    (fun c o hc q=>let ⟨n1,n2,n3,n4⟩:=lg c hc;⟨o,hk2 c o n1 n2 n3 n4 q⟩)
    (fun c zs q=>by rw [al (ai q hn)];exact q) (fun c o v q=>by rw [al (ai q hn)];exact q) (fun c ps q=>⟨#[],by rw [al (ai q hn),q];simp⟩)
    (fun m ⟨o,es,ep,hm,r⟩=>⟨o,es,ep,hk2 _ o (hf z (by simp)).2.1.symm (hf to (by simp)).2.1.symm (hf i1 (by simp)).2.1.symm (hf i2 (by simp)).2.1.symm hm,r⟩) ok3 I.bare
  refine ⟨.ref s.heap.objs.size,_,I2,rfl,⟨_,x,y,rfl,hn,rfl,fun zs hz'=>by rw [I.list_inj hz' hqx];exact hx,fun zs hz'=>by rw [I.list_inj hz' hqy];exact hy⟩,
   ⟨z2,(hs2.2 ti D.TIz).trans (hk ti _ D.TIz D.TITO D.TIi1 D.TIi2 hti),⟨u,v,(hs2.2 to D.TOz).trans t1⟩,a1.at fun o q=>(hs2.2 i1 D.i1z).trans q,a2.at fun o q=>(hs2.2 i2 D.i2z).trans q⟩,fun c hc=>?_⟩
  have hcl:c≠s.heap.objs.size:=by
   simp only [List.mem_cons,List.not_mem_nil,or_false] at hc
   rcases hc with e | e | e | e | e
   ·rw [e];exact nlt hz
   ·rw [e];exact nlt hti
   ·rw [e];exact nlt hto
   ·rw [e];obtain ⟨o,q,_⟩:=hi1;exact nlt q
   ·rw [e];obtain ⟨o,q,_⟩:=hi2;exact nlt q
  rw [al hcl]
  exact hf0 c hc
 done:=by
  intro X hP hw hK hc i pins s σ H E I hf st hg
  subst hP hw hK
  obtain ⟨xs,ys,hqx,hqy,hend⟩:=hg
  obtain ⟨its,rv,p,_⟩:=I.list hqx
  obtain ⟨ots,rw',p',_⟩:=I.list hqy
  have hl1:=rv.length
  have hl2:=rw'.length
  obtain ⟨hz,hti,⟨oa,ob,hto⟩,hi1,hi2⟩:=st
  have hf0:∀c∈[z,ti,to,i1,i2],H c=none:=fun c hc=>(hf c hc).1
  refine wpAny_pyNext_zip_end (I.ok.hd hc) D hz hti hto hi1 hi2 p.isList p'.isList (hend.imp (fun h=>by simp;omega) fun h=>by simp;omega) fun h' hk=>⟨rfl,?_⟩
  have lg:∀c,c∉[z,ti,to,i1,i2]->c≠z/\c≠to/\c≠i1/\c≠i2:=fun c hc=>by
   simp only [List.mem_cons,List.not_mem_nil,or_false,not_or] at hc
   exact ⟨hc.1,hc.2.2.1,hc.2.2.2.1,hc.2.2.2.2⟩
  have kp:∀c o o',H c=some o->s.heap.get? c=some o'->h'.get? c=some o':=fun c o o' q r=>hk c o' (fun e=>by rw [e,hf0 z (by simp)] at q;cases q) (fun e=>by rw [e,hf0 to (by simp)] at q;cases q) (fun e=>by rw [e,hf0 i1 (by simp)] at q;cases q) (fun e=>by rw [e,hf0 i2 (by simp)] at q;cases q) r
  exact I.step (t':=s.toks) (g':=s.gens) (d':=s.drawn) (ch:=[z,ti,to,i1,i2]) (fun c hc=>let ⟨_,f1,_,f3,f4,f5⟩:=hf c hc;⟨f3,f1,f4,f5⟩)
    (fun c o _ _ hc q _=>let ⟨n1,n2,n3,n4⟩:=lg c hc;hk c o n1 n2 n3 n4 q)
    (fun c o _ _ hc q _=>let ⟨n1,n2,n3,n4⟩:=lg c hc;⟨o.slots,hk c o n1 n2 n3 n4 q⟩)
    (fun _ _ _ _ n=>n) (fun c o hc q=>let ⟨n1,n2,n3,n4⟩:=lg c hc;⟨o,hk c o n1 n2 n3 n4 q⟩) (fun _ _ q=>q) (fun _ _ _ q=>q) (fun c ps q=>⟨#[],by rw [q];simp⟩)
    (fun m ⟨o,es,ep,hm,r⟩=>⟨o,es,ep,hk _ o (hf z (by simp)).2.1.symm (hf to (by simp)).2.1.symm (hf i1 (by simp)).2.1.symm (hf i2 (by simp)).2.1.symm hm,r⟩)
    (fun c o q=>(I.hok c o q).stay (fun d v' hd r=>by
     rcases hd with e | e
     ·rw [e] at r ⊢;exact kp c o v' q r
     ·exact kp d _ v' e r) (fun _ r=>r) fun _ _ r=>r) I.bare
 self:=fun _ _ _ _ _ ⟨hz,_⟩ h=>wpAny_pyIter_zip hz h
def B5(K:PySem.W.Frag)(ta:TA):TI:=fun σ H R=>ta σ H fun vs H1=>∃a b,vs=[.ref a,.ref b]/\(∃xs,SqL K H1 a xs)/\(∃ys,SqL K H1 b ys)/\R (Itz K a b) H1
theorem BD{X:Cx}{a b:Expr}{ta:TA}{p pos pos0:Pos}{elts:List Expr}{k0:Nat}(hm:X.mg "zip"=none) (ha:PA X [a,b] ta) (hg:Gl X "zip":=by rfl) (hs:starEach [a,b] X.env=(false,eval a X.env) :: starEach [b] X.env:=by rfl) (hs2:(backTo pos (starEach [b] X.env)).any (·.1)=false:=by rfl) :
  PI X (.Tuple elts k0 pos0) (.Call (.Name "zip" p) [a,b] [] pos) (B5 X.K ta):=by
 intro pins s σ H R I h
 refine Call_ (df I hg hm boot_zip (PyProof.Rows.callWith_type1 (thn (ha pos pins s σ H _ I h) fun us s1 hhx=>?_) hs hs2))
 obtain ⟨vs,H1,I1,r1,q1⟩:=hhx
 obtain ⟨l,m,e,⟨xs,hx⟩,⟨ys,hy⟩,q⟩:=q1
 subst e
 obtain ⟨u,us',rfl,ru,r2⟩:∃u us',us=u :: us'/\RelV (.ref l) u/\Vals [.ref m] us':=by cases r1 with | cons r rr=>exact ⟨_,_,rfl,r,rr⟩
 obtain ⟨v,rfl,rv⟩:=eR r2
 cases ru
 cases rv
 obtain ⟨its,_,p1,_⟩:=I1.list hx
 obtain ⟨ots,_,p2,_⟩:=I1.list hy
 have l1:l < s1.heap.objs.size:=by obtain ⟨o,ho,_⟩:=p1.isList;exact Heap.lt_size ho
 have l2:m < s1.heap.objs.size:=by obtain ⟨o,ho,_⟩:=p2.isList;exact Heap.lt_size ho
 refine call_zip_2 p1.isList p2.isList fun h' z1 z2 z3 z4 z5 _ hk=>?_
 refine wpAny_pyIter_zip z1 ?_
 have I2:Inv X pins σ H1 {s1 with heap:=h'}:=I1.kept (t':=s1.toks) hk
 refine ⟨_,_,_,_,H1,rfl,I2,y9 (zipApart_new l1 l2),⟨z1,z2,⟨_,_,z3⟩,z4,z5⟩,fun c hc=>?_,q⟩
 have hle:s1.heap.objs.size<=c:=by
  simp only [List.mem_cons,List.not_mem_nil,or_false] at hc
  rcases hc with rfl | rfl | rfl | rfl | rfl
  ·exact Nat.le_add_right _ _
  ·exact Nat.le_add_right _ _
  ·exact Nat.le_add_right _ _
  ·exact Nat.le_refl _
  ·exact Nat.le_add_right _ _
 exact I1.fpOk hle (I1.hok.fresh hle)
theorem A1{X:Cx}{a b:Expr}{ta:TA}{p pos pos0:Pos}{elts:List Expr}{k0:Nat}(hm:X.mg "zip"=none) (ha:XA X [a,b] ta) (hg:Gl X "zip":=by rfl) (hs:starEach [a,b] X.env=(false,eval a X.env) :: starEach [b] X.env:=by rfl) (hs2:(backTo pos (starEach [b] X.env)).any (·.1)=false:=by rfl) :
  XI X (.Tuple elts k0 pos0) (.Call (.Name "zip" p) [a,b] [] pos) (B5 X.K ta):=⟨BD hm ha.h hg hs hs2⟩
theorem jM{K:PySem.W.Frag}{ta:TA}{σ:St}{H:Hp}{R:It->Hp->Prop}:B5 K ta σ H R=ta σ H fun vs H1=>∃a b,vs=[.ref a,.ref b]/\(∃xs,SqL K H1 a xs)/\(∃ys,SqL K H1 b ys)/\R (Itz K a b) H1:=rfl
theorem AX{K:PySem.W.Frag}{a b:Addr}{xs ys:List V}{g:TG}{tb:TS}{D:cA}{σ:St}{H:Hp}(hlen:xs.length=ys.length)(Pv:Nat->St->Hp->Prop)(h0:Pv 0 σ H)(hl:∀i σ H,i<=xs.length->Pv i σ H->SqL K H a xs/\SqL K H b ys)
  (hs:∀(i:Nat)x y σ H p,xs[i]?=some x->ys[i]?=some y->H p=none->Pv i σ H->g (.ref p) σ (upd H p (.tup [x,y])) fun σ2 H2=>tb {D with nx:=Pv (i+1),ct:=Pv (i+1),bk:=D.nx} σ2 H2) (hd:∀σ H,Pv xs.length σ H->D.nx σ H):mQ (Itz K a b) g tb D σ H:=by
 refine ⟨fun i m σ H=>m=xs.length - i/\i<=xs.length/\Pv i σ H,⟨xs.length,by simp,Nat.zero_le _,h0⟩,?_⟩
 rintro i m σ H ⟨rfl,hi,p⟩
 obtain ⟨q1,q2⟩:=hl i σ H hi p
 by_cases hlt:i < xs.length
 ·refine .inr ⟨⟨xs,ys,_,_,q1,q2,List.getElem?_eq_getElem hlt,List.getElem?_eq_getElem (by omega)⟩,Pv (i+1),fun σ' H' p'=>⟨xs.length - (i+1),by omega,rfl,hlt,p'⟩,fun x H' y=>?_⟩
  obtain ⟨pp,u,v,ex,hn,eH,y1,y2⟩:=y
  subst ex eH
  exact hs i u v σ H pp (y1 xs q1) (y2 ys q2) hn p
 ·obtain rfl:i=xs.length:=by omega
  exact .inl ⟨⟨xs,ys,q1,q2,.inl (Nat.le_refl _)⟩,hd σ H p⟩
end L2
namespace L2
open PySem PySem.Spec PyProof.Rows
def jo(l:List Str)(x:Str):List Str:=if x∈l then l else l ++ [x]
def bh(ns:List Str):List Str:=ns.foldl jo []
theorem jp(ns:List Str)(x:Str):bh (ns ++ [x])=jo (bh ns) x:=by unfold bh;rw [List.foldl_append];rfl
theorem lz{l:List Str}{x y:Str}:y∈jo l x↔y∈l\/y=x:=by
 unfold jo
 split
 ·next h=>exact ⟨.inl,fun z=>z.elim id fun e=>by rw [e];exact h⟩
 ·rw [List.mem_append,List.mem_singleton]
theorem ig(ns:List Str):(∀y,y∈bh ns↔y∈ns)/\(bh ns).length<=ns.length/\((bh ns).length=ns.length↔ns.Nodup):=by
 rw [<- List.reverse_reverse ns]
 generalize ns.reverse=ms
 induction ms with
 | nil=>exact ⟨fun y=>Iff.rfl,Nat.le_refl _,⟨fun _=>List.nodup_nil,fun _=>rfl⟩⟩
 | cons x m ih=>
  rw [List.reverse_cons]
  generalize m.reverse=l at ih ⊢
  obtain ⟨h1,h2,h3⟩:=ih
  rw [jp,List.length_append,List.length_singleton]
  refine ⟨fun y=>by rw [lz,h1,List.mem_append,List.mem_singleton],?_,?_⟩
  ·unfold jo;split
   ·omega
   ·rw [List.length_append,List.length_singleton];omega
  ·rw [List.nodup_append]
   unfold jo
   split
   ·next h=>
    refine ⟨fun e=>absurd e (by omega),fun ⟨_,_,z⟩=>absurd rfl (z x ((h1 x).mp h) x (List.mem_singleton.mpr rfl))⟩
   ·next h=>
    rw [List.length_append,List.length_singleton]
    refine ⟨fun e=>⟨h3.mp (by omega),by simp,fun a ha b hb e2=>h ?_⟩,fun ⟨z,_,_⟩=>by rw [h3.mpr z]⟩
    rw [List.mem_singleton.mp hb] at e2
    rw [<- e2]
    exact (h1 a).mpr ha
section
variable {prog:Program} {w:World} {A:Around} {R:Result->Shared->Prop} {it:Addr} {fp wr:List Addr} {G:Array GenState->Array GenState->Prop} {n:Nat} {P:Nat->Value->Prop} {St:Nat->Shared->Prop}
def TxtSet(prog:Program)(w:World)(h:Heap)(c:Addr)(l:List Str):Prop:=h.SetOf (strKind prog w) c (fun x=>decide (x∈l)) l.length
theorem TxtSet.mv{h h':Heap}{c:Addr}{l:List Str}(z:TxtSet prog w h c l)(k:∀o,h.get? c=some o->h'.get? c=some o):TxtSet prog w h' c l:=
 let ⟨o,es,ep,t,e,r⟩:=z;⟨o,es,ep,t,k o e,r⟩
theorem pD(W:WalksS prog w A.in1 it fp wr G n P St){c:Addr}(hc:c∉fp){ns:List Str}(hn:ns.length=n)(hv:∀(i:Nat)v,P i v->∃x t,ns[i]?=some x/\v=.str x t)(hb:n+1 < scanBound):
  ∀(k i:Nat)(s:Shared),k+i=n->St i s->TxtSet prog w s.heap c (bh (ns.take i))->(∀s',Moved (c :: wr) G s s'->TxtSet prog w s'.heap c (bh ns)->R (.ok (.ret .none)) s')->
   codeAny (model prog w) A (.builtin "set.update.loop" ⟨[.ref c,.ref it],[]⟩) R s
 | 0,i,s,hk,st,hS,q=>by
  obtain rfl:i=n:=by omega
  rw [show ns.take i=ns by rw [<- hn,List.take_length]] at hS
  refine codeAny_builtin F.entry_set_update_loop ?_
  rw [Around.under_plainId F.plain_set_update_loop _]
  refine wpAny_bind (m:=pyNext (.ref it)) (W.done s _ _ st fun s1 mv=>wpAny_pure (q s1 (mv.mono fun b hb=>List.mem_cons_of_mem _ hb) (hS.mv fun o e=>mv.heap c o (fun z=>hc (W.sub _ z)) e)))
 | k+1,i,s,hk,st,hS,q=>by
  refine codeAny_builtin F.entry_set_update_loop ?_
  rw [Around.under_plainId F.plain_set_update_loop _]
  refine wpAny_bind (m:=pyNext (.ref it)) (W.item i s _ _ (by omega) st fun v s1 hp st1 mv=>?_)
  obtain ⟨x,t,hx,rfl⟩:=hv i v hp
  obtain ⟨hi,ex⟩:=List.getElem?_eq_some_iff.mp hx
  have hS1:=hS.mv (h':=s1.heap) fun o e=>mv.heap c o (fun z=>hc (W.sub _ z)) e
  refine wpAny_bind (m:=holding [Value.str x t] (setAdd c (.str x t))) (wpAny_holding ?_)
  unfold setAdd
  refine wpAny_holding (wpAny_bind ((strKind prog w).pyHash (k:=x) (strKind_is _ _ _ _) ?_))
  have le:=(ig (ns.take i)).2.1
  rw [List.length_take] at le
  refine wpAny_setAddHashed_of (knd:=strKind prog w) (s:={s1 with toks:=s1.toks+1}) (strKind_is _ _ _ _) rfl hS1 (by omega) fun h2 sb hS2=>?_
  have et:ns.take (i+1)=ns.take i ++ [x]:=by rw [List.take_succ_eq_append_getElem hi,ex]
  have hS3:TxtSet prog w h2 c (bh (ns.take (i+1))):=by
   rw [et,jp]
   refine SetOf_congr hS2 (fun y=>?_) ?_
   ·rw [Bool.eq_iff_iff]
    simp only [Bool.or_eq_true,decide_eq_true_eq,lz]
   ·unfold jo
    by_cases z:x∈bh (ns.take i)
    ·rw [if_pos z,if_pos (decide_eq_true z)]
    ·rw [if_neg z,if_neg (by simpa using z),List.length_append,List.length_singleton]
  refine wpAny_pure ⟨plainId_quiet F.plain_set_update_loop _,pD W hc hn hv hb k (i+1) _ (by omega) (W.frame _ s1 _ _ st1 (Nat.le_succ _) fun b hb o e=>?_) hS3 fun s3 mv3=>q s3 (Moved.trans W.gtrans ((mv.mono fun b hb=>List.mem_cons_of_mem _ hb).then_heap (Nat.le_succ _) fun b o hb e=>?_) mv3)⟩
  ·exact (sb.2 b (fun z=>hc (by rw [<- z];exact hb))).trans e
  ·exact (sb.2 b (fun z=>hb (by rw [z];exact List.mem_cons_self))).trans e
end
section
variable {prog:Program} {w:World} {A:Around} {E:Value->Shared->Prop} {s:Shared}
set_option maxHeartbeats 4000000 in
theorem vF{l:Addr}{items:Array Value}{ns:List Str}{Q:Value->Shared->Prop}(hh:A.handled=none)(hl:s.heap.IsList l items)(hv:∀(i:Nat)v,items[i]?=some v->∃x t,ns[i]?=some x/\v=.str x t)(hn:ns.length=items.size)(hb:items.size+1 < scanBound)
  (q:∀(h':Heap)(tk:Nat),TxtSet prog w h' s.heap.objs.size (bh ns)->(∀b o,s.heap.get? b=some o->h'.get? b=some o)->Q (.ref s.heap.objs.size) {s with heap:=h',toks:=tk}) :
  wpAny (model prog w) A (call (.type "set") [.ref l]) Q E s:=by
 obtain ⟨c,tl,hmro⟩:=F.called_set.mro
 have hmade:=F.called_set.made
 have hsub:=F.called_set.sub
 have h1:=F.called_set.notType
 have h2:=F.called_set.canCreate
 have hct:=F.typeCall_set_1 (.ref l)
 refine wpAny_call (codeAny_of_tree (show wpAny _ _ (callAny (.type "set") _) _ _ _ from wpAny_pure ⟨Code.quiet_builtin _ (by decide +kernel),codeAny_builtin F.entry_type_call ?_⟩))
 rw [Around.under_plain (weight_type_call_type "set" [.ref l] []) rfl]
 repeat (any_goals (first | assumption | wp_step))
 refine codeAny_mono (code_set_new_1 (.ref l) (E:=E) (Q₁:=fun v s1=>∃led:Bool,v=.ref s.heap.objs.size/\s1={s with heap:=s.heap.push {cls:=.type "set",dict:=none,data:=.set #[] 0 (.fresh 0 0 led)}}) fun led=>⟨led,rfl,rfl⟩) fun r s1 hr=>?_
 match r,hr with
 | .ok (.ret v),hr=>
  obtain ⟨led,rfl,rfl⟩:=hr
  obtain ⟨o0,ho0⟩:∃o0:Obj,o0={cls:=.type "set",dict:=none,data:=.set #[] 0 (.fresh 0 0 led)}:=⟨_,rfl⟩
  rw [<- ho0]
  have hS:(s.heap.push o0).get? s.heap.objs.size=some o0:=Heap.get?_push_size _ (by rw [ho0];rfl)
  have hT:Shared.TypeIs {s with heap:=s.heap.push o0} (.ref s.heap.objs.size) "set":=⟨o0,hS,by rw [ho0]⟩
  have hli:=F.called_set.init.lookup
  have hbi:=F.called_set.init.bind (.ref s.heap.objs.size)
  repeat (any_goals (first | assumption | wp_step))
  refine codeAny_mono (codeAny_call_builtin (R:=wants (fun r s2=>r=.none/\∃h' tk,s2={s with heap:=h',toks:=tk}/\TxtSet prog w h' s.heap.objs.size (bh ns)/\∀b o,s.heap.get? b=some o->h'.get? b=some o) E) F.called_set.init.plain F.entry_set_init (check_set_init_1 hT ?_)) fun r2 s2 hr2=>?_
  ·obtain ⟨⟨oc,od,ot,os⟩,hol,hcl,nl,hdl⟩:=hl
   replace hcl:oc=.type "list":=hcl
   replace hdl:ot=.seq items nl:=hdl
   subst hcl hdl
   have hol2:(s.heap.push o0).get? l=some {cls:=.type "list",dict:=od,data:=.seq items nl,slots:=os}:=Heap.get?_push_of_some _ hol
   have hsls:=F.sub_list_set
   have hslf:=F.sub_list_frozenset
   have hne:(Value.type "list" == Value.type "dict")=false:=by decide
   have hL:(s.heap.push o0).IsList l items:=⟨_,hol2,rfl,nl,rfl⟩
   have zp:(s.heap.push o0).objs.size=s.heap.objs.size+1:=Heap.size_push ..
   subst ho0
   unfold Builtin.«set.__init__» noKeywords Builtin.Frozenset.updateFrom
   generalize hPI:pyIter=PI
   wp_walk
   subst hPI
   refine wpAny_pyIter_list hL ?_
   refine wpAny_bind (wpAny_runValue ?_)
   have lt:l < s.heap.objs.size:=Heap.lt_size hol
   refine pD ((Walks.list (by simp [hh]) _ l (by rw [zp];exact Nat.ne_of_lt (Nat.lt_succ_of_lt lt)) items).toS) (c:=s.heap.objs.size) (by
    rw [zp]
    intro z
    rcases List.mem_cons.mp z with z | z
    ·exact absurd z (Nat.ne_of_lt (Nat.lt_succ_self _))
    ·exact absurd (List.mem_singleton.mp z) (Nat.ne_of_gt lt)) hn hv hb items.size 0 _ rfl ⟨⟨_,Heap.get?_push_size _ rfl,rfl,rfl⟩,hL.push _⟩ ?_ ?_
   ·exact SetOf_congr ((setObjOf_fresh (knd:=strKind prog w) led).setOf (Heap.get?_push_of_some _ hS) (by unfold scanBound;omega)) (fun y=>by simp [bh]) rfl
   ·intro s3 mv hS3
    obtain ⟨h3,g3,d3,tk3,os3⟩:=s3
    obtain rfl:g3=s.gens:=mv.gens
    obtain rfl:d3=s.drawn:=mv.drawn
    obtain rfl:os3=s.os:=mv.os
    refine wpAny_pure ?_
    refine wpAny_pure ⟨rfl,h3,tk3,rfl,hS3,fun b o e=>?_⟩
    have bl:=Heap.lt_size e
    refine mv.heap b o ?_ (Heap.get?_push_of_some _ (Heap.get?_push_of_some _ e))
    rw [zp]
    intro z
    rcases List.mem_cons.mp z with z | z
    ·exact absurd z (Nat.ne_of_lt bl)
    ·exact absurd (List.mem_singleton.mp z) (Nat.ne_of_lt (Nat.lt_succ_of_lt bl))
  ·match r2,hr2 with
   | .ok (.ret v),hr2=>
    obtain ⟨rfl,h',tk,rfl,a1,a2⟩:=hr2
    repeat (any_goals (first | assumption | wp_step))
    exact q _ _ a1 a2
   | .error e,hr2=>exact hr2
 | .error e,hr=>exact hr
end
def lI(p:Addr)(n:Nat):HO:=.ext fun h=>n < scanBound/\∃o es ep t,h.get? p=some o/\o.ExactSet/\o.data=.set es ep t/\t.fits es.size=true/\es.size=n
variable {X:Cx}
def Ab(K:PySem.W.Frag):List V->Hp->VK->Prop:=fun xs H Q=>∃(a:Addr)(ns:List Str),xs=[.ref a]/\SqL K H a (ns.map V.str)/\ns.length < 64/\∀p:Addr,H p=none->Q (.ref p) (upd H p (lI p (bh ns).length))
theorem tM(hc:X.calm=true):cw X (.type "set") (Ab X.K):=by
 intro pins s σ H xs us Q I r h
 obtain ⟨a,ns,rfl,hq,h64,q⟩:=h
 obtain ⟨u,rfl,ru⟩:=eR r
 cases ru
 obtain ⟨its,rv,pl,_⟩:=I.list hq
 have hl:=rv.length
 rw [List.length_map] at hl
 refine vF (I.ok.hd hc) pl.isList (ns:=ns) (fun i v hv=>?_) (by rw [List.size_toArray];omega) (by rw [List.size_toArray];unfold scanBound;omega) fun h' tk hS hk=>?_
 ·have hi:=(Array.getElem?_eq_some_iff.mp hv).1
  rw [List.size_toArray] at hi
  obtain ⟨x,hx⟩:∃x,ns[i]?=some x:=⟨_,List.getElem?_eq_getElem (by omega)⟩
  obtain ⟨u,hu,t,rfl⟩:=rv.get (i:=i) (x:=.str x) (by rw [List.getElem?_map,hx];rfl)
  rw [List.getElem?_toArray,hu] at hv
  cases hv
  exact ⟨x,t,hx,rfl⟩
 ·obtain ⟨o,es,ep,t,e1,e2,e3,e4,e5,e6,e7,e8⟩:=hS
  have le:=(ig ns).2.1
  exact ⟨.ref s.heap.objs.size,_,I.laid (t':=tk) hk (Nat.le_refl _) (show ObjOk X.prog X.w _ h' _ (lI s.heap.objs.size (bh ns).length) from ⟨⟨by unfold scanBound;omega,o,es,ep,t,e1,e2,e3,e7,e8⟩,⟨o,e1⟩,fun h1 h2 ⟨z,o,es,ep,t,y1,y2⟩ k=>⟨z,o,es,ep,t,k o y1,y2⟩⟩),rfl,q _ (I.hok.fresh (Nat.le_refl _))⟩
theorem ka{K:PySem.W.Frag}{a:Addr}{H:Hp}{Q:VK}:Ab K [.ref a] H Q=∃ns:List Str,SqL K H a (ns.map V.str)/\ns.length < 64/\∀p:Addr,H p=none->Q (.ref p) (upd H p (lI p (bh ns).length)):=propext ⟨by rintro ⟨_,ns,e,q⟩;cases e;exact ⟨ns,q⟩,by rintro ⟨ns,q⟩;exact ⟨a,ns,rfl,q⟩⟩
def A9:List V->Hp->VK->Prop:=fun xs H Q=>∃(p:Addr)(n:Nat),xs=[.ref p]/\H p=some (lI p n)/\Q (.int n) H
theorem tL:cw X (.builtin "len") A9:=by
 intro pins s σ H xs us Q I r h
 obtain ⟨p,n,rfl,e,q⟩:=h
 obtain ⟨u,rfl,ru⟩:=eR r
 cases ru
 obtain ⟨⟨hn,o,es,ep,t,y1,y2,y3,y4,y5⟩,_⟩:=I.hok p _ e
 unfold scanBound at hn
 exact call_len_set y1 y2 y3 y4 (by omega) ⟨.int n,H,I.tok _,⟨_,by rw [y5]⟩,q⟩
theorem jW{p:Addr}{H:Hp}{Q:VK}:A9 [.ref p] H Q=∃n:Nat,H p=some (lI p n)/\Q (.int n) H:=propext ⟨by rintro ⟨_,n,e,q⟩;cases e;exact ⟨n,q⟩,by rintro ⟨n,q⟩;exact ⟨p,n,rfl,q⟩⟩
end L2
local macro_rules | `(tactic| simp_arith [$ts,*])=>`(tactic| simp only [L2.yk,L2.wX,L2.ym,L2.wY,L2.yn,L2.wZ,L2.yo,L2.x0,L2.yp,L2.x2,L2.yq,L2.x3,L2.yr,L2.x4,L2.yt,L2.x5,L2.yu,L2.x6,L2.yv,L2.x8,L2.qe,L2.oJ,L2.r_c,L2.xl,L2.xu,L2.yj,L2.y_I,L2.y_U,L2.oC,L2.oE,L2.oT,L2.oU,L2.jD,L2.gx,L2.kf,L2.r_B,L2.oy,L2.xn,L2.oW,L2.jt,L2.oX,L2.k7,L2.x9,L2.k6,L2.xq,L2.jz,L2.oY,L2.sL,L2.oA,L2.wK,L2.oV,L2.jx,L2.jw,L2.ph,L2.oS,L2.jy,L2.xt,L2.eK,L2.k8,L2.jF,L2.gy,L2.oO,L2.xk,L2.xj,L2.jP,L2.jQ,L2.jR,L2.jS,L2.jT,L2.jU,L2.jV,L2.oI,L2.gz,L2.gA,L2.jL,L2.gB,L2.gC,L2.jA,L2.jB,L2.oF,L2.wN,L2.oQ,L2.oP,L2.oR,L2.oB,L2.oZ,L2.ee,L2.jC,L2.jN,L2.jH,true_and,and_true,forall_const,Int.reduceLT,L2.gs,L2.du,L2.pk,L2.p9,L2.oM,L2.eL,L2.ja,L2.kB,L2.nu,L2.ju,L2.jv,List.map_cons,List.map_nil,List.getElem?_cons_zero,List.getElem?_cons_succ,Option.join_some,L2.wL,L2.jO,L2.gG,L2.jG,List.set_cons_zero,List.set_cons_succ,L2.xh,L2.kc,L2.jJ,L2.jZ,L2.jY,L2.jK,L2.j1,L2.oz,L2.gu,L2.eg,L2.gv,L2.dq,L2.jM,L2.gF,L2.jW,L2.k9,L2.ka,L2.eN,L2.eO,$ts,*])
namespace K50
open PySem L2 PyProof.Rows FD FB FS FO FR
def top(i:Nat):Stmt:=PySem.Challenge.pw_deedloom_k50_tables_formed.main.body.getD i (.Pass ⟨0,0,0,0⟩)
abbrev iJ:Stmt:=top 2
theorem sc_blocks_of:aB ["program","parting","first"] ["program"] (av iJ):=⟨rfl,rfl,rfl,by decide +kernel,rfl,by decide +kernel,by decide +kernel⟩
abbrev cU:Stmt:=bR (top 3) 0
theorem fj:aB ["self"] ["self"] (av cU):=⟨rfl,rfl,rfl,by decide +kernel,rfl,by decide +kernel,by decide +kernel⟩
abbrev cx:Stmt:=bR (top 3) 1
theorem dR:aB ["self"] ["self"] (av cx):=⟨rfl,rfl,rfl,by decide +kernel,rfl,by decide +kernel,by decide +kernel⟩
abbrev cV:Stmt:=bR (top 3) 2
theorem fk:aB ["self","block"] ["self","block"] (av cV):=⟨rfl,rfl,rfl,by decide +kernel,rfl,by decide +kernel,by decide +kernel⟩
abbrev dA:Stmt:=bR (top 3) 3
theorem gU:aB ["self","block"] ["self","block"] (av dA):=⟨rfl,rfl,rfl,by decide +kernel,rfl,by decide +kernel,by decide +kernel⟩
abbrev dz:Stmt:=bR (top 3) 4
theorem sc_Parting_opened:aB ["self","rows","block","row"] ["self","rows","block"] (av dz):=⟨rfl,rfl,rfl,by decide +kernel,rfl,by decide +kernel,by decide +kernel⟩
abbrev cW:Stmt:=bR (top 3) 5
theorem fm:aB ["self","row","block"] ["self","row","block"] (av cW):=⟨rfl,rfl,rfl,by decide +kernel,rfl,by decide +kernel,by decide +kernel⟩
abbrev d8:Stmt:=bR (top 3) 6
theorem sc_Parting_with_if:aB ["self","row","block","behind","ones","others"] ["self","row","block"] (av d8):=⟨rfl,rfl,rfl,by decide +kernel,rfl,by decide +kernel,by decide +kernel⟩
abbrev cy:Stmt:=bR (top 3) 7
theorem sc_Parting_with_while:aB ["self","row","block","behind","look","inner"] ["self","row","block"] (av cy):=⟨rfl,rfl,rfl,by decide +kernel,rfl,by decide +kernel,by decide +kernel⟩
abbrev cX:Stmt:=bR (top 5) 0
theorem fq:aB ["self","width","ins","boxes","rows"] ["self","width","ins","boxes","rows"] (av cX):=⟨rfl,rfl,rfl,by decide +kernel,rfl,by decide +kernel,by decide +kernel⟩
abbrev pA:Stmt:=top 6
theorem uG:aB ["rows"] ["rows"] (av pA):=⟨rfl,rfl,rfl,by decide +kernel,rfl,by decide +kernel,by decide +kernel⟩
abbrev gR:Stmt:=top 7
theorem kN:aB ["row"] ["row"] (av gR):=⟨rfl,rfl,rfl,by decide +kernel,rfl,by decide +kernel,by decide +kernel⟩
abbrev fM:Stmt:=top 10
theorem ko:aB ["deed"] ["deed"] (av fM):=⟨rfl,rfl,rfl,by decide +kernel,rfl,by decide +kernel,by decide +kernel⟩
abbrev gQ:Stmt:=top 11
theorem kM:aB ["deed"] ["deed"] (av gQ):=⟨rfl,rfl,rfl,by decide +kernel,rfl,by decide +kernel,by decide +kernel⟩
abbrev fL:Stmt:=top 12
theorem kn:aB ["deed"] ["deed"] (av fL):=⟨rfl,rfl,rfl,by decide +kernel,rfl,by decide +kernel,by decide +kernel⟩
abbrev lH:Stmt:=top 13
theorem qR:aB ["deed"] ["deed"] (av lH):=⟨rfl,rfl,rfl,by decide +kernel,rfl,by decide +kernel,by decide +kernel⟩
abbrev kj:Stmt:=top 15
theorem pC:aB ["ending","places"] ["ending","places"] (av kj):=⟨rfl,rfl,rfl,by decide +kernel,rfl,by decide +kernel,by decide +kernel⟩
abbrev Ay:Stmt:=top 17
theorem sc_gap:aB ["deeds","j","k","earlier","later","name"] ["deeds","j","k"] (av Ay):=⟨rfl,rfl,rfl,by decide +kernel,rfl,by decide +kernel,by decide +kernel⟩
abbrev xC:Stmt:=top 18
theorem sc_laid:aB ["deeds","units","layer","everything","ways","longer","done","beats","beat"] ["deeds","units"] (av xC):=⟨rfl,rfl,rfl,by decide +kernel,rfl,by decide +kernel,by decide +kernel⟩
abbrev dw:Stmt:=bR (top 19) 0
theorem gS:aB ["self","deeds","units"] ["self","deeds","units"] (av dw):=⟨rfl,rfl,rfl,by decide +kernel,rfl,by decide +kernel,by decide +kernel⟩
abbrev cT:Stmt:=bR (top 19) 1
theorem sc_Layer_full_beats:aB ["self","done","place","missing","beats"] ["self","done"] (av cT):=⟨rfl,rfl,rfl,by decide +kernel,rfl,by decide +kernel,by decide +kernel⟩
abbrev fJ:Stmt:=bR (top 19) 2
theorem sc_Layer_grown:aB ["self","done","beats","place","more","beat","taken"] ["self","done","beats","place"] (av fJ):=⟨rfl,rfl,rfl,by decide +kernel,rfl,by decide +kernel,by decide +kernel⟩
abbrev dy:Stmt:=bR (top 19) 3
theorem gT:aB ["self","done","beat","missing"] ["self","done","beat","missing"] (av dy):=⟨rfl,rfl,rfl,by decide +kernel,rfl,by decide +kernel,by decide +kernel⟩
abbrev gI:Stmt:=bR (top 19) 4
theorem sc_Layer_fits:aB ["self","done","beat","place","sort","earlier","lean","ahead"] ["self","done","beat","place"] (av gI):=⟨rfl,rfl,rfl,by decide +kernel,rfl,by decide +kernel,by decide +kernel⟩
abbrev kl:Stmt:=top 21
theorem sc_table_of:aB ["program","units","blocks","block","laid_blocks","firsts","many","beats","table","deeds"] ["program","units"] (av kl):=⟨rfl,rfl,rfl,by decide +kernel,rfl,by decide +kernel,by decide +kernel⟩
abbrev ki:Stmt:=top 22
theorem sc_beats_of:aB ["block","units","deeds","ending","beats"] ["block","units"] (av ki):=⟨rfl,rfl,rfl,by decide +kernel,rfl,by decide +kernel,by decide +kernel⟩
abbrev pB:Stmt:=top 23
theorem uH:aB ["deeds","name"] ["deeds","name"] (av pB):=⟨rfl,rfl,rfl,by decide +kernel,rfl,by decide +kernel,by decide +kernel⟩
abbrev gP:Stmt:=top 25
theorem kL:aB ["_law_found"] ["_law_found"] (av gP):=⟨rfl,rfl,rfl,by decide +kernel,rfl,by decide +kernel,by decide +kernel⟩
abbrev lG:Stmt:=top 26
theorem qQ:aB ["_law_script","_law_k"] ["_law_script","_law_k"] (av lG):=⟨rfl,rfl,rfl,by decide +kernel,rfl,by decide +kernel,by decide +kernel⟩
abbrev gM:Stmt:=top 27
theorem sc__law_mixed:aB ["_law_cell","_law_k","_law_number"] ["_law_cell","_law_k"] (av gM):=⟨rfl,rfl,rfl,by decide +kernel,rfl,by decide +kernel,by decide +kernel⟩
abbrev gN:Stmt:=top 28
theorem sc__law_names:aB ["_law_number","_law_many_here","_law_letters","_law_some","_law_at_here","_law_names_here","_law_j","_law_spots"] ["_law_number","_law_many_here"] (av gN):=⟨rfl,rfl,rfl,by decide +kernel,rfl,by decide +kernel,by decide +kernel⟩
abbrev eP:Stmt:=top 29
theorem iQ:aB ["_law_number","_law_names_here","_law_top"] ["_law_number","_law_names_here","_law_top"] (av eP):=⟨rfl,rfl,rfl,by decide +kernel,rfl,by decide +kernel,by decide +kernel⟩
abbrev iF:Stmt:=top 30
theorem sc__law_deed:aB ["_law_number","_law_names_here","_law_top","_law_name","_law_one","_law_other","_law_way"] ["_law_number","_law_names_here","_law_top"] (av iF):=⟨rfl,rfl,rfl,by decide +kernel,rfl,by decide +kernel,by decide +kernel⟩
abbrev d9:Stmt:=top 31
theorem sc__law_statements:aB ["_law_numbers","_law_names_here","_law_top","_law_deep","_law_rows","_law_at_here","_law_number","_law_cut","_law_end","_law_name","_law_ones"] ["_law_numbers","_law_names_here","_law_top","_law_deep"] (av d9):=⟨rfl,rfl,rfl,by decide +kernel,rfl,by decide +kernel,by decide +kernel⟩
abbrev gK:Stmt:=top 32
theorem sc__law_folds:aB ["_law_script","_law_start","_law_many_here","_law_k","_law_found","_law_some","_law_at_here","_law_left"] ["_law_script","_law_start","_law_many_here"] (av gK):=⟨rfl,rfl,rfl,by decide +kernel,rfl,by decide +kernel,by decide +kernel⟩
abbrev gJ:Stmt:=top 33
theorem sc__law_drawn:aB ["_law_script","_law_many_here","_law_number","_law_width","_law_names_here","_law_ins","_law_numbers","_law_rows"] ["_law_script","_law_many_here"] (av gJ):=⟨rfl,rfl,rfl,by decide +kernel,rfl,by decide +kernel,by decide +kernel⟩
abbrev cC:Stmt:=top 35
theorem eQ:aB ["_law_found","_law_names_here","_law_top"] ["_law_found","_law_names_here","_law_top"] (av cC):=⟨rfl,rfl,rfl,by decide +kernel,rfl,by decide +kernel,by decide +kernel⟩
abbrev dC:Stmt:=top 36
theorem sc__law_fine_deed:aB ["_law_found","_law_names_here","_law_top","_law_bad"] ["_law_found","_law_names_here","_law_top"] (av dC):=⟨rfl,rfl,rfl,by decide +kernel,rfl,by decide +kernel,by decide +kernel⟩
abbrev cY:Stmt:=top 37
theorem ft:aB ["_law_found","_law_names_here","_law_many_here"] ["_law_found","_law_names_here","_law_many_here"] (av cY):=⟨rfl,rfl,rfl,by decide +kernel,rfl,by decide +kernel,by decide +kernel⟩
abbrev iG:Stmt:=top 38
theorem sc__law_fine:aB ["_law_found","_law_drawn_here","_law_names_here","_law_part","_law_deed_here"] ["_law_found","_law_drawn_here"] (av iG):=⟨rfl,rfl,rfl,by decide +kernel,rfl,by decide +kernel,by decide +kernel⟩
abbrev gO:Stmt:=top 39
theorem sc__law_units:aB ["_law_cell","_law_number"] ["_law_cell"] (av gO):=⟨rfl,rfl,rfl,by decide +kernel,rfl,by decide +kernel,by decide +kernel⟩
abbrev iI:Stmt:=top 40
theorem mx:aB ["_law_deed_here"] ["_law_deed_here"] (av iI):=⟨rfl,rfl,rfl,by decide +kernel,rfl,by decide +kernel,by decide +kernel⟩
abbrev dB:Stmt:=top 41
theorem sc__law_beat_fine:aB ["_law_deeds","_law_units_here","_law_written","_law_sort_here"] ["_law_deeds","_law_units_here"] (av dB):=⟨rfl,rfl,rfl,by decide +kernel,rfl,by decide +kernel,by decide +kernel⟩
abbrev fK:Stmt:=top 42
theorem sc__law_copied:aB ["_law_rows","_law_found","_law_row"] ["_law_rows"] (av fK):=⟨rfl,rfl,rfl,by decide +kernel,rfl,by decide +kernel,by decide +kernel⟩
abbrev iH:Stmt:=top 43
theorem sc__law_many:aB ["_law_rows","_law_many_here","_law_row"] ["_law_rows"] (av iH):=⟨rfl,rfl,rfl,by decide +kernel,rfl,by decide +kernel,by decide +kernel⟩
abbrev gL:Stmt:=top 44
theorem kK:aB ["_law_found","_law_drawn_here","_law_units_here"] ["_law_found","_law_drawn_here","_law_units_here"] (av gL):=⟨rfl,rfl,rfl,by decide +kernel,rfl,by decide +kernel,by decide +kernel⟩
abbrev Az:Stmt:=top 45
theorem sc_law:aB ["_law_script","_law_drawn_here","_law_program","_law_units_here","_law_found","_law_part"] ["_law_script"] (av Az):=⟨rfl,rfl,rfl,by decide +kernel,rfl,by decide +kernel,by decide +kernel⟩
def kvs_SORTS:List (Key×V):=[(.inr "plus",.int 0),(.inr "less",.int 0),(.inr "below",.int 1),(.inr "same",.int 1),(.inr "and",.int 2),(.inr "or",.int 2),(.inr "xor",.int 2)]
set_option genInjectivity false in
structure Ad where
 pr:Params
 D_SORTS:Addr
 k_MOST_DEEDS:Tok
 C_Parting:Addr
 C_Program:Addr
 C_Layer:Addr
 f_blocks_of:Addr
 e_blocks_of:FuncData
 f_Parting___init__:Addr
 e_Parting___init__:FuncData
 f_Parting_keep_place:Addr
 e_Parting_keep_place:FuncData
 f_Parting_numbered:Addr
 e_Parting_numbered:FuncData
 f_Parting_way_to:Addr
 e_Parting_way_to:FuncData
 f_Parting_opened:Addr
 e_Parting_opened:FuncData
 f_Parting_with_row:Addr
 e_Parting_with_row:FuncData
 f_Parting_with_if:Addr
 e_Parting_with_if:FuncData
 f_Parting_with_while:Addr
 e_Parting_with_while:FuncData
 f_Program___init__:Addr
 e_Program___init__:FuncData
 f_copied:Addr
 e_copied:FuncData
 f_copied_row:Addr
 e_copied_row:FuncData
 f_operands_of:Addr
 e_operands_of:FuncData
 f_boxes_read:Addr
 e_boxes_read:FuncData
 f_box_written:Addr
 e_box_written:FuncData
 f_sort_of:Addr
 e_sort_of:FuncData
 f_led_anew:Addr
 e_led_anew:FuncData
 f_gap:Addr
 e_gap:FuncData
 f_laid:Addr
 e_laid:FuncData
 f_Layer___init__:Addr
 e_Layer___init__:FuncData
 f_Layer_full_beats:Addr
 e_Layer_full_beats:FuncData
 f_Layer_grown:Addr
 e_Layer_grown:FuncData
 f_Layer_has_room:Addr
 e_Layer_has_room:FuncData
 f_Layer_fits:Addr
 e_Layer_fits:FuncData
 f_table_of:Addr
 e_table_of:FuncData
 f_beats_of:Addr
 e_beats_of:FuncData
 f_writes:Addr
 e_writes:FuncData
 f__law_whole:Addr
 e__law_whole:FuncData
 f__law_at:Addr
 e__law_at:FuncData
 f__law_mixed:Addr
 e__law_mixed:FuncData
 f__law_names:Addr
 e__law_names:FuncData
 f__law_operand:Addr
 e__law_operand:FuncData
 f__law_deed:Addr
 e__law_deed:FuncData
 f__law_statements:Addr
 e__law_statements:FuncData
 f__law_folds:Addr
 e__law_folds:FuncData
 f__law_drawn:Addr
 e__law_drawn:FuncData
 f__law_fine_operand:Addr
 e__law_fine_operand:FuncData
 f__law_fine_deed:Addr
 e__law_fine_deed:FuncData
 f__law_fine_ending:Addr
 e__law_fine_ending:FuncData
 f__law_fine:Addr
 e__law_fine:FuncData
 f__law_units:Addr
 e__law_units:FuncData
 f__law_sort:Addr
 e__law_sort:FuncData
 f__law_beat_fine:Addr
 e__law_beat_fine:FuncData
 f__law_copied:Addr
 e__law_copied:FuncData
 f__law_many:Addr
 e__law_many:FuncData
 f__law_holds:Addr
 e__law_holds:FuncData
 f_law:Addr
 e_law:FuncData
structure Txt(K:PySem.W.Frag)(mg:Str->Option Value)(t:Ad):Prop where
 g_SORTS:mg "SORTS"=some (.ref t.D_SORTS)
 k_SORTS:mP K t.pr t.D_SORTS kvs_SORTS
 g_MOST_DEEDS:mg "MOST_DEEDS"=some (.int 8 t.k_MOST_DEEDS)
 c_Parting:KlsAt K mg "Parting" t.C_Parting
 n_Parting_blocks:NoAttr K t.C_Parting "blocks"
 c_Program:KlsAt K mg "Program" t.C_Program
 n_Program_width:NoAttr K t.C_Program "width"
 n_Program_ins:NoAttr K t.C_Program "ins"
 n_Program_boxes:NoAttr K t.C_Program "boxes"
 n_Program_rows:NoAttr K t.C_Program "rows"
 c_Layer:KlsAt K mg "Layer" t.C_Layer
 n_Layer_units:NoAttr K t.C_Layer "units"
 n_Layer_sorts:NoAttr K t.C_Layer "sorts"
 n_Layer_gaps:NoAttr K t.C_Layer "gaps"
 d_blocks_of:b9 K mg "blocks_of" iJ ["program"] t.f_blocks_of t.e_blocks_of
 d_Parting___init__:bm K t.C_Parting "__init__" "Parting.__init__" cU ["self"] t.f_Parting___init__ t.e_Parting___init__
 d_Parting_keep_place:bm K t.C_Parting "keep_place" "Parting.keep_place" cx ["self"] t.f_Parting_keep_place t.e_Parting_keep_place
 d_Parting_numbered:bm K t.C_Parting "numbered" "Parting.numbered" cV ["self","block"] t.f_Parting_numbered t.e_Parting_numbered
 d_Parting_way_to:bm K t.C_Parting "way_to" "Parting.way_to" dA ["self","block"] t.f_Parting_way_to t.e_Parting_way_to
 d_Parting_opened:bm K t.C_Parting "opened" "Parting.opened" dz ["self","rows","block"] t.f_Parting_opened t.e_Parting_opened
 d_Parting_with_row:bm K t.C_Parting "with_row" "Parting.with_row" cW ["self","row","block"] t.f_Parting_with_row t.e_Parting_with_row
 d_Parting_with_if:bm K t.C_Parting "with_if" "Parting.with_if" d8 ["self","row","block"] t.f_Parting_with_if t.e_Parting_with_if
 d_Parting_with_while:bm K t.C_Parting "with_while" "Parting.with_while" cy ["self","row","block"] t.f_Parting_with_while t.e_Parting_with_while
 d_Program___init__:bm K t.C_Program "__init__" "Program.__init__" cX ["self","width","ins","boxes","rows"] t.f_Program___init__ t.e_Program___init__
 d_copied:b9 K mg "copied" pA ["rows"] t.f_copied t.e_copied
 d_copied_row:b9 K mg "copied_row" gR ["row"] t.f_copied_row t.e_copied_row
 d_operands_of:b9 K mg "operands_of" fM ["deed"] t.f_operands_of t.e_operands_of
 d_boxes_read:b9 K mg "boxes_read" gQ ["deed"] t.f_boxes_read t.e_boxes_read
 d_box_written:b9 K mg "box_written" fL ["deed"] t.f_box_written t.e_box_written
 d_sort_of:b9 K mg "sort_of" lH ["deed"] t.f_sort_of t.e_sort_of
 d_led_anew:b9 K mg "led_anew" kj ["ending","places"] t.f_led_anew t.e_led_anew
 d_gap:b9 K mg "gap" Ay ["deeds","j","k"] t.f_gap t.e_gap
 d_laid:b9 K mg "laid" xC ["deeds","units"] t.f_laid t.e_laid
 d_Layer___init__:bm K t.C_Layer "__init__" "Layer.__init__" dw ["self","deeds","units"] t.f_Layer___init__ t.e_Layer___init__
 d_Layer_full_beats:bm K t.C_Layer "full_beats" "Layer.full_beats" cT ["self","done"] t.f_Layer_full_beats t.e_Layer_full_beats
 d_Layer_grown:bm K t.C_Layer "grown" "Layer.grown" fJ ["self","done","beats","place"] t.f_Layer_grown t.e_Layer_grown
 d_Layer_has_room:bm K t.C_Layer "has_room" "Layer.has_room" dy ["self","done","beat","missing"] t.f_Layer_has_room t.e_Layer_has_room
 d_Layer_fits:bm K t.C_Layer "fits" "Layer.fits" gI ["self","done","beat","place"] t.f_Layer_fits t.e_Layer_fits
 d_table_of:b9 K mg "table_of" kl ["program","units"] t.f_table_of t.e_table_of
 d_beats_of:b9 K mg "beats_of" ki ["block","units"] t.f_beats_of t.e_beats_of
 d_writes:b9 K mg "writes" pB ["deeds","name"] t.f_writes t.e_writes
 d__law_whole:b9 K mg "_law_whole" gP ["_law_found"] t.f__law_whole t.e__law_whole
 d__law_at:b9 K mg "_law_at" lG ["_law_script","_law_k"] t.f__law_at t.e__law_at
 d__law_mixed:b9 K mg "_law_mixed" gM ["_law_cell","_law_k"] t.f__law_mixed t.e__law_mixed
 d__law_names:b9 K mg "_law_names" gN ["_law_number","_law_many_here"] t.f__law_names t.e__law_names
 d__law_operand:b9 K mg "_law_operand" eP ["_law_number","_law_names_here","_law_top"] t.f__law_operand t.e__law_operand
 d__law_deed:b9 K mg "_law_deed" iF ["_law_number","_law_names_here","_law_top"] t.f__law_deed t.e__law_deed
 d__law_statements:b9 K mg "_law_statements" d9 ["_law_numbers","_law_names_here","_law_top","_law_deep"] t.f__law_statements t.e__law_statements
 d__law_folds:b9 K mg "_law_folds" gK ["_law_script","_law_start","_law_many_here"] t.f__law_folds t.e__law_folds
 d__law_drawn:b9 K mg "_law_drawn" gJ ["_law_script","_law_many_here"] t.f__law_drawn t.e__law_drawn
 d__law_fine_operand:b9 K mg "_law_fine_operand" cC ["_law_found","_law_names_here","_law_top"] t.f__law_fine_operand t.e__law_fine_operand
 d__law_fine_deed:b9 K mg "_law_fine_deed" dC ["_law_found","_law_names_here","_law_top"] t.f__law_fine_deed t.e__law_fine_deed
 d__law_fine_ending:b9 K mg "_law_fine_ending" cY ["_law_found","_law_names_here","_law_many_here"] t.f__law_fine_ending t.e__law_fine_ending
 d__law_fine:b9 K mg "_law_fine" iG ["_law_found","_law_drawn_here"] t.f__law_fine t.e__law_fine
 d__law_units:b9 K mg "_law_units" gO ["_law_cell"] t.f__law_units t.e__law_units
 d__law_sort:b9 K mg "_law_sort" iI ["_law_deed_here"] t.f__law_sort t.e__law_sort
 d__law_beat_fine:b9 K mg "_law_beat_fine" dB ["_law_deeds","_law_units_here"] t.f__law_beat_fine t.e__law_beat_fine
 d__law_copied:b9 K mg "_law_copied" fK ["_law_rows"] t.f__law_copied t.e__law_copied
 d__law_many:b9 K mg "_law_many" iH ["_law_rows"] t.f__law_many t.e__law_many
 d__law_holds:b9 K mg "_law_holds" gL ["_law_found","_law_drawn_here","_law_units_here"] t.f__law_holds t.e__law_holds
 d_law:b9 K mg "law" Az ["_law_script"] t.f_law t.e_law
 z_range:mg "range"=none
 z_isinstance:mg "isinstance"=none
 z_int:mg "int"=none
 z_bool:mg "bool"=none
 z_len:mg "len"=none
 z_str:mg "str"=none
 z_tuple:mg "tuple"=none
 z_sum:mg "sum"=none
 z_list:mg "list"=none
 z_min:mg "min"=none
 z_reversed:mg "reversed"=none
 z_enumerate:mg "enumerate"=none
 z_sorted:mg "sorted"=none
 z_any:mg "any"=none
 z_zip:mg "zip"=none
 z_set:mg "set"=none
theorem vB{K:PySem.W.Frag}{pr:Params}{D:Addr}{h0 h1 h2 h3 h4 h5 h6:Int}{t0 u0 t1 u1 t2 u2 t3 u3 t4 u4 t5 u5 t6 u6:Tok}{ep:Nat}(l:K.lookup D=some ⟨.type "dict",none,.dict #[⟨h0,.str "plus" t0,.int 0 u0⟩,⟨h1,.str "less" t1,.int 0 u1⟩,⟨h2,.str "below" t2,.int 1 u2⟩,⟨h3,.str "same" t3,.int 1 u3⟩,⟨h4,.str "and" t4,.int 2 u4⟩,⟨h5,.str "or" t5,.int 2 u5⟩,⟨h6,.str "xor" t6,.int 2 u6⟩] ep,#[]⟩) (s:(D == sysModules)=false) (hD:[h0,h1,h2,h3,h4,h5,h6]=kvs_SORTS.map (fun kv=>B8 pr kv.1)):mP K pr D kvs_SORTS:=by
 simp only [kvs_SORTS,List.map_cons,List.map_nil,List.cons.injEq,and_true] at hD
 obtain ⟨e0,e1,e2,e3,e4,e5,e6⟩:=hD
 exact ⟨_,_,l,s,by decide +kernel,.cons ⟨by kernel_rfl,e0,⟨_,rfl⟩⟩ (.cons ⟨by kernel_rfl,e1,⟨_,rfl⟩⟩ (.cons ⟨by kernel_rfl,e2,⟨_,rfl⟩⟩ (.cons ⟨by kernel_rfl,e3,⟨_,rfl⟩⟩ (.cons ⟨by kernel_rfl,e4,⟨_,rfl⟩⟩ (.cons ⟨by kernel_rfl,e5,⟨_,rfl⟩⟩ (.cons ⟨by kernel_rfl,e6,⟨_,rfl⟩⟩ (.nil)))))))⟩
end K50
variable {H:Hp} {u:TS}
namespace K50
open PySem L2 PyProof.Rows FD FB FS FO FR
def iw(u:TS)(D:cA):L2.St->Hp->Prop:=u D
theorem later{u:TS}{D:cA}{σ:L2.St}(h:u D σ H):iw u D σ H:=h
theorem xr{t:TS}{D:cA}{σ:L2.St}:zU t u D σ H=t {D with nx:=iw u D} σ H:=rfl
theorem xi{t:TS}{D:cA}{σ:L2.St}:zT t u D σ H=∃Mid:L2.St->Hp->Prop,t {D with nx:=Mid} σ H/\∀σ' H',Mid σ' H'->iw u D σ' H':=rfl
theorem BU{c:TT}{t:TS}{D:cA}{σ:L2.St}:zS c t u D σ H=c σ H fun b H1=>if b=true then iw t D σ H1 else iw u D σ H1:=rfl
end K50
local macro_rules | `(tactic| simp_arith! [$ts,*])=>`(tactic| simp only [L2.yk,L2.wX,L2.ym,L2.wY,L2.yn,L2.wZ,L2.yo,L2.x0,L2.yp,L2.x2,L2.yq,L2.x3,L2.yr,L2.x4,L2.yt,L2.x5,L2.yu,L2.x6,L2.yv,L2.x8,L2.qe,L2.oJ,L2.r_c,L2.xl,L2.xu,L2.yj,L2.y_I,L2.y_U,L2.oC,L2.oE,L2.oT,L2.oU,L2.jD,L2.gx,L2.kf,L2.r_B,L2.oy,L2.xn,L2.oW,L2.jt,L2.oX,L2.k7,L2.x9,L2.k6,K50.xr,L2.jz,L2.oY,L2.sL,L2.oA,L2.wK,L2.oV,L2.jx,L2.jw,L2.ph,L2.oS,L2.jy,L2.xt,L2.eK,L2.k8,L2.jF,L2.gy,L2.oO,L2.xk,L2.xj,L2.jP,L2.jQ,L2.jR,L2.jS,L2.jT,L2.jU,L2.jV,L2.oI,L2.gz,L2.gA,L2.jL,L2.gB,L2.gC,L2.jA,L2.jB,L2.oF,L2.wN,L2.oQ,L2.oP,L2.oR,L2.oB,L2.oZ,L2.ee,L2.jC,L2.jN,L2.jH,true_and,and_true,forall_const,Int.reduceLT,L2.gs,L2.du,L2.pk,L2.p9,L2.oM,L2.eL,L2.ja,L2.kB,L2.nu,L2.ju,L2.jv,List.map_cons,List.map_nil,List.getElem?_cons_zero,List.getElem?_cons_succ,Option.join_some,L2.wL,L2.jO,L2.gG,L2.jG,List.set_cons_zero,List.set_cons_succ,K50.xi,L2.kc,L2.jJ,L2.jZ,L2.jY,L2.jK,L2.j1,L2.oz,L2.gu,L2.eg,L2.gv,L2.dq,L2.jM,L2.gF,L2.jW,L2.k9,L2.ka,L2.eN,L2.eO,$ts,*])
local macro_rules | `(tactic| simp_arith only [$ts,*])=>`(tactic| simp only [L2.yk,L2.wX,L2.ym,L2.wY,L2.yn,L2.wZ,L2.yo,L2.x0,L2.yp,L2.x2,L2.yq,L2.x3,L2.yr,L2.x4,L2.yt,L2.x5,L2.yu,L2.x6,L2.yv,L2.x8,L2.qe,L2.oJ,L2.r_c,L2.xl,L2.xu,L2.yj,L2.y_I,L2.y_U,L2.oC,L2.oE,L2.oT,L2.oU,L2.jD,L2.gx,L2.kf,L2.r_B,L2.oy,L2.xn,L2.oW,L2.jt,L2.oX,L2.k7,L2.x9,L2.k6,K50.xr,L2.jz,L2.oY,K50.BU,L2.oA,L2.wK,L2.oV,L2.jx,L2.jw,L2.ph,L2.oS,L2.jy,L2.xt,L2.eK,L2.k8,L2.jF,L2.gy,L2.oO,L2.xk,L2.xj,L2.jP,L2.jQ,L2.jR,L2.jS,L2.jT,L2.jU,L2.jV,L2.oI,L2.gz,L2.gA,L2.jL,L2.gB,L2.gC,L2.jA,L2.jB,L2.oF,L2.wN,L2.oQ,L2.oP,L2.oR,L2.oB,L2.oZ,L2.ee,L2.jC,L2.jN,L2.jH,true_and,and_true,forall_const,Int.reduceLT,L2.gs,L2.du,L2.pk,L2.p9,L2.oM,L2.eL,L2.ja,L2.kB,L2.nu,L2.ju,L2.jv,List.map_cons,List.map_nil,List.getElem?_cons_zero,List.getElem?_cons_succ,Option.join_some,L2.wL,L2.jO,L2.gG,L2.jG,List.set_cons_zero,List.set_cons_succ,K50.xi,L2.kc,L2.jJ,L2.jZ,L2.jY,L2.jK,L2.j1,L2.oz,L2.gu,L2.eg,L2.gv,L2.dq,L2.jM,L2.gF,L2.jW,L2.k9,L2.ka,L2.eN,L2.eO,$ts,*])
namespace K50
open PySem L2 PyProof.Rows FD FB FS FO FR
def pO:Sp:=fun vs H Q _=>∃c k:Int,vs=[.int c,.int k]/\Builtin.Int.intBits c<=2 ^ 20/\0<=k/\k<=1000/\Q (.int (gm c k)) H
theorem dL{c k:Int}{H:Hp}{Q:VK}{E:XK}:pO [.int c,.int k] H Q E=(Builtin.Int.intBits c<=2 ^ 20/\0<=k/\k<=1000/\Q (.int (gm c k)) H):=propext ⟨by rintro ⟨_,_,e,q⟩;cases e;exact q,by intro q;exact ⟨c,k,rfl,q⟩⟩
def AA(K:PySem.W.Frag):Sp:=fun vs H Q _=>∃(a:Addr)(ns:List Int)(k:Int),vs=[.ref a,.int k]/\SqL K H a (ns.map V.int)/\0<=k/\Q (.int (atF ns k)) H
section
variable {P:Program} {w:World} {K:PySem.W.Frag} {mg:Str->Option Value} {base:Heap} {t:Ad}
theorem CQ{a:Addr}{k:Int}{H:Hp}{Q:VK}{E:XK}:AA K [.ref a,.int k] H Q E=∃ns:List Int,SqL K H a (ns.map V.int)/\0<=k/\Q (.int (atF ns k)) H:=propext ⟨by rintro ⟨_,ns,_,e,q⟩;cases e;exact ⟨ns,q⟩,by rintro ⟨ns,q⟩;exact ⟨a,ns,k,rfl,q⟩⟩
theorem jl(T:Txt K mg t):FnOk P w K mg base CX0 1 t.f__law_mixed t.e__law_mixed ["_law_cell","_law_k"] pO:=by
 refine T.d__law_mixed.F.ok sc__law_mixed (fun vs H Q E h=>by obtain ⟨_,_,rfl,_⟩:=h;rfl) (fun cdv A outer s H vs Q E hr h=>?_)
 obtain ⟨c,k,rfl,hb,k0,k1,q⟩:=h
 refine ⟨_,
   (XSs.h
   (af
    (aD (ap yw (yqv 0 vl) (ak tH ad ad) (ax _))
     (ag
      (ao (ak aJ (ak aN (ak cN (yqv 0 vl) (ak tH ad ad)) (ak iY ad (ak ca ad (ak aJ (yqv 1 vl) ad)))) (ak iY ad ad))))
     ay)
   (af
    (ar (i:=2) sc__law_mixed.nd rfl ll (ak aJ (ak aZ (ak aZ (ak ca (yqv 0 vl) ad) (ak ca (ak ca ad (yqv 1 vl)) (yqv 1 vl))) (yqv 1 vl)) ad))
   (af
    (ar (i:=2) sc__law_mixed.nd rfl ll (ak aJ (ak ca (yqv 2 vl) (yqv 2 vl)) ad))
   (ag
    (ao (ak aJ (ak ca (yqv 2 vl) ad) ad))))))),?_⟩
 rw [show aG _ [V.int c,V.int k]=[some (.int c),some (.int k),none] from rfl]
 simp_arith []
 unfold gm at q
 have cp:uW 10 40:=⟨by decide,by decide,by decide⟩
 refine ⟨cp,aH (fun e=>?_) (fun e=>?_)⟩
 ·rw [if_pos e] at q
  have m0:0<=k % 60:=Int.emod_nonneg _ (by decide)
  have m1:k % 60 < 60:=Int.emod_lt_of_pos _ (by decide)
  refine ⟨cp,.inl ⟨by decide,by decide⟩,⟨by omega,by omega,by decide⟩,FA.CDivB.pow (by omega),⟨by decide,by decide,by decide⟩,by decide,q⟩
 ·rw [if_neg e] at q
  have n0:0<=(c * 1103515245+7919 * k * k+k) % 2147483647:=Int.emod_nonneg _ (by decide)
  have n1:(c * 1103515245+7919 * k * k+k) % 2147483647 < 2147483647:=Int.emod_lt_of_pos _ (by decide)
  refine ⟨.inr ⟨by decide,by decide⟩,.inl ⟨by decide,by decide⟩,.inr ⟨by omega,by omega⟩,.inl ⟨by omega,by omega⟩,.inr ⟨by decide,by decide⟩,q⟩
theorem A6(T:Txt K mg t):FnOk P w K mg base CX0 1 t.f__law_at t.e__law_at ["_law_script","_law_k"] (AA K):=by
 refine T.d__law_at.F.ok qQ (fun vs H Q E h=>by obtain ⟨_,_,_,rfl,_⟩:=h;rfl) (fun cdv A outer s H vs Q E hr h=>?_)
 obtain ⟨a,ns,k,rfl,hS,k0,q⟩:=h
 refine ⟨_,
   (XSs.h
   (af
    (aD (ap fW (yqv 1 vl) (aq au gl T.z_len PySem.boot_len (aa (yqv 0 vl) ac)) (ax _))
     (ag
      (ao (aj aR (yqv 0 vl) (yqv 1 vl) (fun _ _=>rfl))))
     ay)
   (ag
    (ao ad)))),?_⟩
 rw [show aG _ [V.ref a,V.int k]=[some (.ref a),some (.int k)] from rfl]
 simp_arith []
 unfold atF at q
 refine ⟨_,.inl hS,aH (fun e=>?_) (fun e=>?_)⟩
 ·rw [List.length_map] at e
  rw [if_pos e] at q
  obtain ⟨n,rfl⟩:=Int.eq_ofNat_of_zero_le k0
  have hn:n < ns.length:=by omega
  refine ⟨_,_,hS,bc (by rw [List.getElem?_map,List.getElem?_eq_getElem hn];rfl),?_⟩
  rw [Int.toNat_natCast,List.getD_eq_getElem?_getD,List.getElem?_eq_getElem hn] at q
  exact q
 ·rw [List.length_map] at e
  rw [if_neg e] at q
  exact q
end
def sp_law(K:PySem.W.Frag):Sp:=fun vs H Q _=>∃(a:Addr)(ns:List Int),vs=[.ref a]/\SqL K H a (ns.map V.int)/\ns.length<=63/\(∀z∈ns,Builtin.Int.intBits z<=2 ^ 20)/\∀H',Q (.bl true) H'
def pS(K:PySem.W.Frag):Sp:=fun vs H Q _=>∃(x:V)(k:String),vs=[x]/\dU K H x k/\Q (.bl (decide (k="int"))) H
section
variable {P:Program} {w:World} {K:PySem.W.Frag} {mg:Str->Option Value} {base:Heap} {t:Ad}
theorem oq(T:Txt K mg t):FnOk P w K mg base CX0 1 t.f__law_whole t.e__law_whole ["_law_found"] (pS K):=by
 refine T.d__law_whole.F.ok kL (fun vs H Q E h=>by obtain ⟨_,_,rfl,_⟩:=h;rfl) (fun cdv A outer s H vs Q E hr h=>?_)
 obtain ⟨x,k,rfl,hk,q⟩:=h
 refine ⟨_,
   (XSs.h
   (ag
    (ao (cq (aq bD gl T.z_isinstance boot_isinstance (aa (yqv 0 vl) (aa (bI (v:=.ty "int") gl T.z_int boot_int rfl) ac))) (cM (zZ (aq bD gl T.z_isinstance boot_isinstance (aa (yqv 0 vl) (aa (bI (v:=.ty "bool") gl T.z_bool boot_bool rfl) ac))))))))),?_⟩
 rw [show aG _ [x]=[some x] from rfl]
 simp_arith []
 refine ⟨x,"int",k,rfl,by decide +kernel,hk,_,rfl,dh (fun e=>⟨x,"bool",k,rfl,by decide +kernel,hk,_,rfl,?_⟩) (fun e=>?_)⟩
 ·have h:k="int"\/k="bool":=by
   unfold aX at e
   rw [Bool.or_eq_true,Bool.and_eq_true] at e
   rcases e with e | e
   ·exact .inl (by simpa using e)
   ·exact .inr (by simpa using e.1)
  rcases h with rfl | rfl
  ·exact q
  ·exact q
 ·have h:¬k="int":=fun z=>by subst z;exact absurd e (by decide +kernel)
  rw [decide_eq_false h] at q
  exact q
theorem ij{i:Int}{H:Hp}{Q:VK}{E:XK}:pS K [.int i] H Q E=Q (.bl true) H:=propext ⟨by rintro ⟨_,_,e,k,q⟩;cases e;cases k;exact q,by intro q;exact ⟨_,_,rfl,.int,q⟩⟩
end
def pP:Sp:=fun vs H Q _=>∃n m:Int,vs=[.int n,.int m]/\0<=n/\0<=m/\m<=8/\∀p H',Same H H'->H p=none->H' p=some (.lst ((fT n m.toNat).map V.str))->Q (.ref p) H'
theorem zH{n m:Int}{H:Hp}{Q:VK}{E:XK}:pP [.int n,.int m] H Q E=(0<=n/\0<=m/\m<=8/\∀p H',Same H H'->H p=none->H' p=some (.lst ((fT n m.toNat).map V.str))->Q (.ref p) H'):=propext ⟨by rintro ⟨_,_,e,q⟩;cases e;exact q,by intro q;exact ⟨n,m,rfl,q⟩⟩
section
variable {P:Program} {w:World} {K:PySem.W.Frag} {mg:Str->Option Value} {base:Heap} {t:Ad}
theorem zP{n:Int}:(List.range (1+n % 6).toNat).map (fun i:Nat=>V.int (n / ((i:Int)+1) % 26))=(c6 n).map V.int:=by unfold c6;rw [List.map_map];rfl
def fO(n:Int)(j:Nat):List Int:=(List.range (c6 n).length).map fun k:Nat=>(c6 n).getD k 0+3 * (j:Int) * (if decide ((k:Int)=n / 64 % ((c6 n).length:Int))=true then 1 else 0)
theorem uK{n:Int}{j:Nat}:Txt.join "" ((fO n j).map dY)=sn n j:=by unfold fO sn;rw [List.map_map];rfl
theorem qC{z:Int}:(dY z).length=1:=rfl
theorem xN{xs:List Int}:((xs.map dY).map (·.length)).sum=xs.length:=by
 induction xs with
 | nil=>rfl
 | cons x xs ih=>rw [List.map_cons,List.map_cons,List.sum_cons,ih,qC,List.length_cons];omega
theorem vT(T:Txt K mg t):FnOk P w K mg base CX0 1 t.f__law_names t.e__law_names ["_law_number","_law_many_here"] pP:=by
 refine T.d__law_names.F.ok sc__law_names (fun vs H Q E h=>by obtain ⟨_,_,rfl,_⟩:=h;rfl) (fun cdv A outer s H vs Q E hr h=>?_)
 obtain ⟨n,m,rfl,n0,m0,m8,q⟩:=h
 refine ⟨_,
   (XSs.h
   (af
    (ar (i:=2) sc__law_names.nd rfl lc aC)
   (af
    (ar (i:=3) sc__law_names.nd rfl lc (b7 (tns:=["_law_k"]) (cns:=["_law_number"]) (ci:=[0]) rfl (CompSc.of (by kernel_rfl)) (bV gl T.z_range (aa (ak aZ ad (ak aJ (yqv 0 vc) ad)) ac)) (fun _=>(aA (i:=1) (show List.Nodup [(".0":Str),("_law_k":Str),("_law_number":Str)] by decide +kernel) rfl ll (Or.inr (by kernel_rfl)))) (fun _=>bN) (fun _=>(ak aJ (ak aN (yqv 2 vc) (ak aZ (yqv 1 vl) ad)) ad))))
   (af
    (ar (i:=4) sc__law_names.nd rfl lc (ak aJ (ak aN (yqv 0 vc) ad) (aq au gl T.z_len PySem.boot_len (aa (yqv 3 vc) ac))))
   (af
    (ar (i:=5) sc__law_names.nd rfl ll (aI ac))
   (af
    (bB PassesOwn.never rfl (bV gl T.z_range (aa (yqv 1 vl) ac)) (aA (i:=6) sc__law_names.nd rfl lc)
     (af
      (ce (i:=7) sc__law_names.nd rfl ll rfl (by kernel_rfl) (tns:=["_law_k"]) (cns:=["_law_some","_law_at_here","_law_j"]) (ci:=[3,4,6]) rfl (CompSc.of (by kernel_rfl)) (bV gl T.z_range (aa (aq au gl T.z_len PySem.boot_len (aa (yqv 3 vc) ac)) ac)) (fun _=>(aA (i:=1) (show List.Nodup [(".0":Str),("_law_k":Str),("_law_some":Str),("_law_at_here":Str),("_law_j":Str)] by decide +kernel) rfl ll (Or.inr (by kernel_rfl)))) (fun _=>bN) (fun _=>(ak aZ (aj aR (yqv 2 vc) (yqv 1 vl) (fun _ _=>rfl)) (ak ca (ak ca ad (yqv 4 vc)) (bO tK gl T.z_int boot_int (aa (aY aV (yqv 1 vl) (yqv 3 vc) (ax _)) ac))))))
     (ag
      (bg (bM PySem.F.plainAttrs_list PySem.F.slot_list_append PySem.F.type_list_append aP (yqv 5 vl) (aa (bM PySem.F.plainAttrs_str PySem.F.slot_str_join PySem.F.type_str_join yX aC (aa (b7 (tns:=["_law_spot"]) (cns:=["_law_letters"]) (ci:=[2]) rfl (CompSc.of (by kernel_rfl)) (aO (yqv 7 vl)) (fun _=>(aA (i:=1) (show List.Nodup [(".0":Str),("_law_spot":Str),("_law_letters":Str)] by decide +kernel) rfl ll (Or.inr (by kernel_rfl)))) (fun _=>bN) (fun _=>(aj B7 (yqv 2 vc) (ak aJ (yqv 1 vl) ad) (fun _ _=>rfl)))) ac)) ac))))))
   (af
    (aD (ap aV (ak aJ (ak aN (yqv 0 vc) ad) ad) ad (ax _))
     (ag
      (ar (i:=5) sc__law_names.nd rfl ll (bi cK (aI (c5 (by rfl))) bW (bd (yqv 1 vl)))))
     ay)
   (ag
    (ao (yqv 5 vl)))))))))),?_⟩
 rw [show aG _ [V.int n,V.int m]=[some (.int n),some (.int m),none,none,none,none,none,none] from rfl]
 simp_arith []
 have z0:0<=n % 6:=Int.emod_nonneg _ (by decide)
 have z1:n % 6 < 6:=Int.emod_lt_of_pos _ (by decide)
 have hln:=mB n
 have hl1:1<=(c6 n).length/\(c6 n).length<=6:=by omega
 refine ⟨by omega,by omega,fun acc hacc bk=>rK (fun i=>V.int (n / ((i:Int)+1) % 26)) (by rw [sizeLine_eq];omega) hacc (fun i hi H3 Q' s3 h=>?_) ?_⟩
 ·simp_arith []
  exact ⟨CDivB.small (by omega) (by omega),h⟩
 rw [zP]
 unfold fT at q
 have sA:Same H (upd H acc (.lst ((c6 n).map V.int))):=Same.upd hacc
 refine ⟨CDivB.small (by decide) (by decide),_,.inl (SqL.of ae),by rw [List.length_map];omega,fun p0 hp0=>⟨by omega,by omega,?_⟩⟩
 have hq0:H p0=none:=sA.free hp0
 rw [List.length_map]
 refine la (fun j σ H'=>Same (upd H acc (.lst ((c6 n).map V.int))) H'/\H' p0=some (.lst ((List.range j).map fun i=>V.str (sn n i)))/\∃o6 o7,σ=[some (.int n),some (.int m),some (.str "abcdefghijklmnopqrstuvwxyz"),some (.ref acc),some (.int (n / 64 % ((c6 n).length:Int))),some (.ref p0),o6,o7])
  ⟨Same.upd hp0,ae,_,_,rfl⟩ ?_ ?_
 ·rintro j σ H' hj ⟨sm,hl,o6,o7,rfl⟩
  simp_arith []
  have hA:H' acc=some (.lst ((c6 n).map V.int)):=sm _ _ ae
  refine ⟨_,.inl (SqL.of hA),by rw [List.length_map];omega,by rw [List.length_map];omega,fun b hb bk=>?_⟩
  rw [Int.toNat_natCast,List.length_map]
  refine rK (fun k=>V.int ((c6 n).getD k 0+3 * (j:Int) * (if decide ((k:Int)=n / 64 % ((c6 n).length:Int))=true then 1 else 0))) (by rw [sizeLine_eq];omega) hb (fun k hk H3 Q' s3 h=>?_) ?_
  ·simp_arith []
   refine ⟨_,_,SqL.of (s3 _ _ hA),bc (v:=V.int ((c6 n).getD k 0)) (by rw [List.getElem?_map,List.getD_eq_getElem?_getD,List.getElem?_eq_getElem hk];rfl),?_⟩
   simp_arith []
   refine ⟨.inl ⟨by decide,by decide⟩,.inl ⟨by omega,by omega⟩,h⟩
  have e1:(List.range (c6 n).length).map (fun k:Nat=>V.int ((c6 n).getD k 0+3 * (j:Int) * (if decide ((k:Int)=n / 64 % ((c6 n).length:Int))=true then 1 else 0)))=(fO n j).map V.int:=by unfold fO;rw [List.map_map];rfl
  rw [e1]
  have s1:=Same.upd (o:=.lst ((fO n j).map V.int)) hb
  have hs6:(fO n j).length<=6:=by unfold fO;simp;omega
  refine ⟨.inl ⟨rfl,_,SqL.of (s1 _ _ hl)⟩,⟨_,SqL.of ae⟩,fun c hc bk2=>?_⟩
  refine yC (fun x=>match x with | .int i=>.str (dY i) | _=>.non) (by rw [List.length_map,sizeLine_eq];omega) (SqL.of ae) hc (fun x hx H3 Q' s3 h=>?_) ?_
  ·obtain ⟨i,_,rfl⟩:=List.mem_map.mp hx
   simp_arith []
   exact ⟨by decide +kernel,_,FA.Bd i,h⟩
  have e2:((fO n j).map V.int).map (fun x=>match x with | .int i=>V.str (dY i) | _=>.non)=((fO n j).map dY).map V.str:=by rw [List.map_map,List.map_map];rfl
  rw [e2]
  have s2:=s1.updN (o:=.lst (((fO n j).map dY).map V.str)) hc
  refine ⟨_,SqL.of ae,?_,_,s2 _ _ hl,?_,(sm.trans s2).updM hp0,?_,_,_,rfl⟩
  ·rw [xN,List.length_map]
   have:("":Str).length=0:=by decide +kernel
   rw [this];omega
  ·rw [List.length_map,List.length_range,sizeLine_eq];omega
  ·rw [ae,uK,List.range_succ,List.map_append];rfl
 ·rintro σ H' ⟨sm,hl,o6,o7,rfl⟩
  simp_arith []
  refine ⟨CDivB.small (by decide) (by decide),aH (fun e=>?_) (fun e=>?_)⟩
  ·rw [if_pos e] at q
   intro b hb
   refine ⟨_,SqL.of ae,fun c hc=>?_⟩
   refine q c _ ((sA.trans sm).trans ((Same.upd hb).updN hc)) ((sA.trans sm).free ((Same.upd hb).free hc)) ?_
   rw [ae,iS m0,List.map_take]
   rfl
  ·rw [if_neg e] at q
   refine q p0 H' (sA.trans sm) hq0 ?_
   rw [hl,List.map_map];rfl
end
structure NmsV(K:PySem.W.Frag)(H:Hp)(b:Addr)(ns:List Str)(wd:Int):Prop where
 at_:SqL K H b (ns.map V.str)
 pos:0 < ns.length
 few:ns.length<=8
 w1:1<=wd
 w8:wd<=8
theorem NmsV.same{K:PySem.W.Frag}{H H':Hp}{b:Addr}{ns:List Str}{wd:Int}(h:NmsV K H b ns wd)(s:Same H H'):NmsV K H' b ns wd:=⟨s.seq h.at_,h.pos,h.few,h.w1,h.w8⟩
def rG(K:PySem.W.Frag)(n:Int)(b:Addr)(top:Int)(H:Hp)(Q:VK):Prop:=∃(ns:List Str)(wd:Int),top=1 * 2 ^ wd.toNat/\NmsV K H b ns wd/\∀(o:Opd)H',Same H H'->Opd.good ns wd o->Q o.v H'
def tm(K:PySem.W.Frag):Sp:=fun vs H Q _=>∃(n:Int)(b:Addr)(top:Int),vs=[.int n,.ref b,.int top]/\rG K n b top H Q
section
variable {P:Program} {w:World} {K:PySem.W.Frag} {mg:Str->Option Value} {base:Heap} {t:Ad}
theorem xm{n:Int}{b:Addr}{top:Int}{H:Hp}{Q:VK}{E:XK}:tm K [.int n,.ref b,.int top] H Q E=rG K n b top H Q:=propext ⟨by rintro ⟨_,_,_,e,q⟩;cases e;exact q,fun q=>⟨_,_,_,rfl,q⟩⟩
theorem mj{ns:List Str}{x:Int}(h:0 < ns.length):∃n∈ns,atI (ns.map V.str) (x % ((ns.map V.str).length:Int))=some (V.str n):=by
 have l0:(0:Int) < ((ns.map V.str).length:Int):=by rw [List.length_map];omega
 have h0:=Int.emod_nonneg x (show ((ns.map V.str).length:Int)≠0 by omega)
 have h1:=Int.emod_lt_of_pos x l0
 generalize x % ((ns.map V.str).length:Int)=y at h0 h1
 obtain ⟨m,rfl⟩:∃m:Nat,y=(m:Int):=⟨y.toNat,by omega⟩
 rw [List.length_map] at h1
 refine ⟨ns[m],List.getElem_mem (by omega),bc ?_⟩
 rw [List.getElem?_map,List.getElem?_eq_getElem (by omega)];rfl
theorem za(T:Txt K mg t):FnOk P w K mg base CX0 1 t.f__law_operand t.e__law_operand ["_law_number","_law_names_here","_law_top"] (tm K):=by
 refine T.d__law_operand.F.ok iQ (fun vs H Q E h=>by obtain ⟨_,_,_,rfl,_⟩:=h;rfl) (fun cdv A outer s H vs Q E hr h=>?_)
 obtain ⟨n,b,top,rfl,ns,wd,htop,hN,q⟩:=h
 have hp:(0:Int) < top:=by rw [htop,Int.one_mul];exact Int.pow_pos (by decide)
 refine ⟨_,
   (XSs.h
   (af
    (aD (ap aV (ak aJ (yqv 0 vl) ad) ad (ax _))
     (ag
      (ao (ak aJ (aj aR (aI (aa (ak aJ (ak aN (yqv 0 vl) ad) (yqv 2 vl)) (aa (ak cN (yqv 2 vl) ad) (c5 (by rfl))))) (ak aJ (ak aN (yqv 0 vl) ad) ad) (fun _ _=>rfl)) (yqv 2 vl))))
     ay)
   (ag
    (ao (aj aR (yqv 1 vl) (ak aJ (ak aN (yqv 0 vl) ad) (aq au gl T.z_len PySem.boot_len (aa (yqv 1 vl) ac))) (fun _ _=>rfl)))))),?_⟩
 rw [show aG _ [V.int n,V.ref b,V.int top]=[some (.int n),some (.ref b),some (.int top)] from rfl]
 simp_arith []
 refine aH (fun _=>⟨CDivB.small (by decide) (by decide),hp,fun p hp0=>⟨CDivB.small (by decide) (by decide),?_⟩⟩) (fun _=>?_)
 ·have s1:=Same.upd (o:=.lst [V.int (n / 12 % top),V.int (top - 1),V.int 0,V.int 1]) hp0
  obtain ⟨z,hz⟩:∃z:Int,atI [V.int (n / 12 % top),V.int (top - 1),V.int 0,V.int 1] (n / 3 % 4)=some (V.int z):=by
   rcases (by omega:n / 3 % 4=0\/n / 3 % 4=1\/n / 3 % 4=2\/n / 3 % 4=3) with e | e | e | e <;> rw [e]
   ·exact ⟨_,rfl⟩
   ·exact ⟨_,rfl⟩
   ·exact ⟨_,rfl⟩
   ·exact ⟨_,rfl⟩
  refine ⟨_,_,SqL.of ae,hz,hp,q (.word (z % top)) _ s1 ⟨Int.emod_nonneg _ (by omega),?_⟩⟩
  have:=Int.emod_lt_of_pos z hp
  rw [htop,Int.one_mul] at this ⊢
  exact this
 ·obtain ⟨m,hm,he⟩:=mj (ns:=ns) (x:=n / 3) hN.pos
  exact ⟨CDivB.small (by decide) (by decide),_,.inl hN.at_,by rw [List.length_map];have:=hN.pos;omega,_,_,hN.at_,he,q (.box m) H (Same.refl _) hm⟩
end
def j0(K:PySem.W.Frag)(n:Int)(b:Addr)(top:Int)(H:Hp)(Q:VK):Prop:=∃(ns:List Str)(wd:Int),top=1 * 2 ^ wd.toNat/\NmsV K H b ns wd/\∀(d:Deed)q H',Same H H'->H' q=some (.tup d.vs)->d.fine->Deed.good ns wd d->Q (.ref q) H'
def pH(K:PySem.W.Frag):Sp:=fun vs H Q _=>∃(n:Int)(b:Addr)(top:Int),vs=[.int n,.ref b,.int top]/\j0 K n b top H Q
section
variable {P:Program} {w:World} {K:PySem.W.Frag} {mg:Str->Option Value} {base:Heap} {t:Ad}
theorem mt{n:Int}{b:Addr}{top:Int}{H:Hp}{Q:VK}{E:XK}:pH K [.int n,.ref b,.int top] H Q E=j0 K n b top H Q:=propext ⟨by rintro ⟨_,_,_,e,q⟩;cases e;exact q,fun q=>⟨_,_,_,rfl,q⟩⟩
theorem vM(T:Txt K mg t):FnOk P w K mg base CX0 2 t.f__law_deed t.e__law_deed ["_law_number","_law_names_here","_law_top"] (pH K):=by
 have G__law_operand:=za (P:=P) (w:=w) (base:=base) T
 refine T.d__law_deed.F.ok sc__law_deed (fun vs H Q E h=>by obtain ⟨_,_,_,rfl,_⟩:=h;rfl) (fun cdv A outer s H vs Q E hr h=>?_)
 obtain ⟨n,b,top,rfl,ns,wd,htop,hN,q⟩:=h
 refine ⟨_,
   (XSs.h
   (af
    (ar (i:=3) sc__law_deed.nd rfl ll (aj aR (yqv 1 vl) (ak aJ (ak aN (yqv 0 vl) ad) (aq au gl T.z_len PySem.boot_len (aa (yqv 1 vl) ac))) (fun _ _=>rfl)))
   (af
    (ar (i:=4) sc__law_deed.nd rfl ll (am T.d__law_operand G__law_operand (hr.mono (by first | decide | omega)) (aa (ak aN (yqv 0 vl) ad) (aa (yqv 1 vl) (aa (yqv 2 vl) ac))) gl))
   (af
    (ar (i:=5) sc__law_deed.nd rfl ll (am T.d__law_operand G__law_operand (hr.mono (by first | decide | omega)) (aa (ak aN (yqv 0 vl) ad) (aa (yqv 1 vl) (aa (yqv 2 vl) ac))) gl))
   (af
    (ar (i:=6) sc__law_deed.nd rfl ll (ak aJ (yqv 0 vl) ad))
   (af
    (aD (ap fW (yqv 6 vl) ad (ax _))
     (ag
      (ao (aE (aa aC (aa (yqv 4 vl) ac)))))
     ay)
   (af
    (aD (ap aV (yqv 6 vl) ad (ax _))
     (ag
      (ao (aE (aa aC (aa (yqv 3 vl) (aa (yqv 4 vl) ac))))))
     ay)
   (ag
    (ao (aE (aa (aj aR (aI (c5 (by rfl))) (ak cN (yqv 6 vl) ad) (fun _ _=>rfl)) (aa (yqv 3 vl) (aa (yqv 4 vl) (aa (yqv 5 vl) ac)))))))))))))),?_⟩
 rw [show aG _ [V.int n,V.ref b,V.int top]=[some (.int n),some (.ref b),some (.int top),none,none,none,none] from rfl]
 simp_arith [xm]
 obtain ⟨c,hc,he⟩:=mj (ns:=ns) (x:=n / 10) hN.pos
 refine ⟨CDivB.small (by decide) (by decide),_,.inl hN.at_,by rw [List.length_map];have:=hN.pos;omega,_,_,hN.at_,he,CDivB.small (by decide) (by decide),ns,wd,htop,hN,fun o H1 s1 ho=>?_⟩
 simp_arith [xm]
 refine ⟨CDivB.small (by decide) (by decide),ns,wd,htop,hN.same s1,fun o2 H2 s2 ho2=>?_⟩
 have s12:=s1.trans s2
 refine aH (fun _ p hp=>q (.tell o) p _ (s12.updN hp) ae trivial ho) (fun h2=>?_)
 refine aH (fun _ p hp=>q (.copy c o) p _ (s12.updN hp) ae trivial ⟨hc,ho⟩) (fun h3=>?_)
 intro p hp
 have m0:0<=n % 10:=Int.emod_nonneg _ (by decide)
 have m1:n % 10 < 10:=Int.emod_lt_of_pos _ (by decide)
 obtain ⟨f,hf,hfe⟩:∃f∈opsL,atI [V.str "plus",V.str "less",V.str "and",V.str "or",V.str "xor",V.str "below",V.str "same"] (n % 10 - 3)=some (V.str f):=by
  rcases (by omega:n % 10 - 3=0\/n % 10 - 3=1\/n % 10 - 3=2\/n % 10 - 3=3\/n % 10 - 3=4\/n % 10 - 3=5\/n % 10 - 3=6) with e | e | e | e | e | e | e <;> rw [e]
  ·exact ⟨"plus",by decide +kernel,rfl⟩
  ·exact ⟨"less",by decide +kernel,rfl⟩
  ·exact ⟨"and",by decide +kernel,rfl⟩
  ·exact ⟨"or",by decide +kernel,rfl⟩
  ·exact ⟨"xor",by decide +kernel,rfl⟩
  ·exact ⟨"below",by decide +kernel,rfl⟩
  ·exact ⟨"same",by decide +kernel,rfl⟩
 refine ⟨_,_,SqL.of ae,hfe,fun p2 hp2=>?_⟩
 exact q (.op f c o o2) p2 _ ((s12.updN hp).updN hp2) ae hf ⟨hf,hc,ho,ho2⟩
end
def nj(K:PySem.W.Frag)(D:Nat)(a b:Addr)(top dp:Int)(H:Hp)(Q:VK):Prop:=∃(ns:List Str)(wd:Int)(xs:List Int)(e:Nat),top=1 * 2 ^ wd.toNat/\NmsV K H b ns wd/\dp=(e:Int)/\e < D/\SqL K H a (xs.map V.int)/\xs.length<=200/\
 ∀p ys ss g H',Same H H'->(∀c∈p :: g,H c=none)->p∉g->H' p=some (.lst ys)->StmsV K H' ys ss g->cB ns wd ss->bo ss<=e->aK ss<=2 * xs.length->Q (.ref p) H'
def hE(K:PySem.W.Frag)(D:Nat):Sp:=fun vs H Q _=>∃(a b:Addr)(top dp:Int),vs=[.ref a,.ref b,.int top,.int dp]/\nj K D a b top dp H Q
def StI(K:PySem.W.Frag)(H:Hp)(ns:List Str)(wd:Int)(e:Nat)(k:Addr)(i:Nat)(H':Hp):Prop:=Same H H'/\∃ys ss g,H' k=some (.lst ys)/\StmsV K H' ys ss g/\k∉g/\(∀c∈g,H c=none)/\cB ns wd ss/\bo ss<=e/\aK ss<=2 * i
section
variable {P:Program} {w:World} {K:PySem.W.Frag} {mg:Str->Option Value} {base:Heap} {t:Ad}
theorem f6{D:Nat}{a b:Addr}{top dp:Int}{H:Hp}{Q:VK}{E:XK}:hE K D [.ref a,.ref b,.int top,.int dp] H Q E=nj K D a b top dp H Q:=propext ⟨by rintro ⟨_,_,_,_,e,q⟩;cases e;exact q,fun q=>⟨_,_,_,_,rfl,q⟩⟩
theorem StI.add{H H1 H2:Hp}{ns:List Str}{wd:Int}{e k i j:Nat}{x:V}{s:Stm}{g2:List Addr}(h:StI K H ns wd e k i H1)(hk:H k=none)(sm:Same H1 H2)(hx:StmV K H2 x s g2)(f2:∀c∈g2,H1 c=none)(hg:s.good ns wd)(hd:s.deep<=e)(hm:2 * i+s.many<=2 * j)(hj:j<=200):
  ∃ys,H2 k=some (.lst ys)/\ys.length < sizeLine/\StI K H ns wd e k j (upd H2 k (.lst (ys ++ [x]))):=by
 obtain ⟨s1,ys,ss,g,ek,hy,ng,fg,gd,dp,my⟩:=h
 have e2:=sm _ _ ek
 have kg2:k∉g2:=fun z=>by have:=f2 k z;rw [ek] at this;cases this
 have tt:TSame H2 (upd H2 k (.lst (ys ++ [x]))):=TSame.updL e2
 have ly:=hy.length
 have lm:=gj ss
 refine ⟨ys,e2,by rw [sizeLine_eq];omega,(s1.trans sm).updM hk,ys ++ [x],ss ++ [s],g ++ g2,ae,((hy.same sm).keep tt (Kept.upd ng)).snoc (hx.keep tt (Kept.upd kg2)),?_,?_,?_,?_,?_⟩
 ·intro z
  rcases List.mem_append.mp z with z | z
  ·exact ng z
  ·exact kg2 z
 ·intro c hc
  rcases List.mem_append.mp hc with z | z
  ·exact fg c z
  ·exact s1.free (f2 c z)
 ·exact goodL_append.mpr ⟨gd,hg,trivial⟩
 ·rw [g9,bo,bo];omega
 ·rw [cF,aK,aK];omega
theorem qV(T:Txt K mg t)(D:Nat)(G__law_statements:FnOk P w K mg base CX0 (D+3) t.f__law_statements t.e__law_statements ["_law_numbers","_law_names_here","_law_top","_law_deep"] (hE K D)):FnOk P w K mg base CX0 (D+4) t.f__law_statements t.e__law_statements ["_law_numbers","_law_names_here","_law_top","_law_deep"] (hE K (D+1)):=by
 have G__law_deed:=vM (P:=P) (w:=w) (base:=base) T
 refine T.d__law_statements.F.ok sc__law_statements (fun vs H Q E h=>by obtain ⟨_,_,_,_,rfl,_⟩:=h;rfl) (fun cdv A outer s H vs Q E hr h=>?_)
 obtain ⟨a,b,top,dp,rfl,ns,wd,xs,e,htop,hN,rfl,heD,ha,hxl,q⟩:=h
 refine ⟨_,
   (XSs.h
   (af
    (ar (i:=4) sc__law_statements.nd rfl ll (aI ac))
   (af
    (ar (i:=5) sc__law_statements.nd rfl ll ad)
   (af
    (lS PassesOwn.never (ap fW (yqv 5 vl) (aq au gl T.z_len PySem.boot_len (aa (yqv 0 vl) ac)) (ax _))
     (af
      (ar (i:=6) sc__law_statements.nd rfl ll (ak aN (aj aR (yqv 0 vl) (yqv 5 vl) (fun _ _=>rfl)) ad))
     (af
      (ar (i:=5) sc__law_statements.nd rfl ll (ak aZ (yqv 5 vl) ad))
     (af
      (ar (i:=7) sc__law_statements.nd rfl ll (aq (kW rfl) gl T.z_min boot_min (aa (aq au gl T.z_len PySem.boot_len (aa (yqv 0 vl) ac)) (aa (ak aZ (yqv 5 vl) (ak aJ (ak aN (yqv 6 vl) ad) ad)) ac))))
     (af
      (ar (i:=8) sc__law_statements.nd rfl ll (aq (kW rfl) gl T.z_min boot_min (aa (aq au gl T.z_len PySem.boot_len (aa (yqv 0 vl) ac)) (aa (ak aZ (yqv 7 vl) (ak aJ (ak aN (yqv 6 vl) ad) ad)) ac))))
     (af
      (ar (i:=9) sc__law_statements.nd rfl ll (aj aR (yqv 1 vl) (ak aJ (ak aN (yqv 6 vl) ad) (aq au gl T.z_len PySem.boot_len (aa (yqv 1 vl) ac))) (fun _ _=>rfl)))
     (ag
      (aD (bG (bH (ap aV (yqv 3 vl) ad (ax _)) (bT (ap iu (ak aJ (aj aR (yqv 0 vl) (ak cN (yqv 5 vl) ad) (fun _ _=>rfl)) ad) ad (ax _)))))
       (ag
        (bg (bM PySem.F.plainAttrs_list PySem.F.slot_list_append PySem.F.type_list_append aP (yqv 4 vl) (aa (am T.d__law_deed G__law_deed (hr.mono (by first | decide | omega)) (aa (yqv 6 vl) (aa (yqv 1 vl) (aa (yqv 2 vl) ac))) gl) ac))))
       (ag
        (aD (ap aV (ak aJ (aj aR (yqv 0 vl) (ak cN (yqv 5 vl) ad) (fun _ _=>rfl)) ad) ad (ax _))
         (af
          (ar (i:=10) sc__law_statements.nd rfl ll (am T.d__law_statements G__law_statements (hr.mono (by first | decide | omega)) (aa (bi cK (yqv 0 vl) (bd (yqv 5 vl)) (bd (yqv 7 vl))) (aa (yqv 1 vl) (aa (yqv 2 vl) (aa (ak cN (yqv 3 vl) ad) ac)))) gl))
         (af
          (bg (bM PySem.F.plainAttrs_list PySem.F.slot_list_append PySem.F.type_list_append aP (yqv 4 vl) (aa (aE (aa aC (aa (yqv 9 vl) (aa (yqv 10 vl) (aa (am T.d__law_statements G__law_statements (hr.mono (by first | decide | omega)) (aa (bi cK (yqv 0 vl) (bd (yqv 7 vl)) (bd (yqv 8 vl))) (aa (yqv 1 vl) (aa (yqv 2 vl) (aa (ak cN (yqv 3 vl) ad) ac)))) gl) ac))))) ac)))
         (ag
          (ar (i:=5) sc__law_statements.nd rfl ll (yqv 8 vl)))))
         (af
          (ar (i:=10) sc__law_statements.nd rfl ll (am T.d__law_statements G__law_statements (hr.mono (by first | decide | omega)) (aa (bi cK (yqv 0 vl) (bd (yqv 5 vl)) (bd (yqv 7 vl))) (aa (yqv 1 vl) (aa (yqv 2 vl) (aa (ak cN (yqv 3 vl) ad) ac)))) gl))
         (af
          (aD (ap iu (ak aJ (ak aN (yqv 6 vl) ad) ad) ad (ax _))
           (ag
            (bg (bM PySem.F.plainAttrs_list PySem.F.slot_list_append PySem.F.type_list_append aP (yqv 10 vl) (aa (aE (aa aC (aa (yqv 9 vl) (aa (yqv 9 vl) (aa ad ac))))) ac))))
           ay)
         (af
          (bg (bM PySem.F.plainAttrs_list PySem.F.slot_list_append PySem.F.type_list_append aP (yqv 4 vl) (aa (aE (aa aC (aa (yqv 9 vl) (aa (yqv 10 vl) ac)))) ac)))
         (ag
          (ar (i:=5) sc__law_statements.nd rfl ll (yqv 7 vl))))))))))))))))
   (ag
    (ao (yqv 4 vl))))))),?_⟩
 rw [show aG _ [V.ref a,V.ref b,V.int top,V.int e]=[some (.ref a),some (.ref b),some (.int top),some (.int e),none,none,none,none,none,none,none] from rfl]
 simp_arith! []
 intro k hk
 have t1:=Same.upd (o:=.lst []) hk
 refine later ?_
 simp_arith! []
 refine later ?_
 simp_arith! []
 refine ⟨fun m σ H'=>∃(i:Nat)(o6 o7 o8 o9 o10:Option V),m=xs.length - i/\i<=xs.length/\StI K H ns wd e k i H'/\σ=[some (.ref a),some (.ref b),some (.int top),some (.int e),some (.ref k),some (.int i),o6,o7,o8,o9,o10],
  ⟨_,0,_,_,_,_,_,rfl,Nat.zero_le _,⟨t1,[],[],[],ae,.nil,by simp,by simp,trivial,Nat.zero_le _,Nat.zero_le _⟩,rfl⟩,?_⟩
 rintro m σ H1 ⟨i,o6,o7,o8,o9,o10,rfl,hi,hI,rfl⟩
 have s1:=hI.1
 simp_arith! []
 refine ⟨_,.inl (s1.seq ha),aH (fun h1=>?_) (fun h1=>?_)⟩
 ·rw [List.length_map] at h1
  refine ⟨fun σ' H'=>∃(j:Nat)(o6 o7 o8 o9 o10:Option V),i < j/\j<=xs.length/\StI K H ns wd e k j H'/\σ'=[some (.ref a),some (.ref b),some (.int top),some (.int e),some (.ref k),some (.int j),o6,o7,o8,o9,o10],?_,?_⟩
  ·rintro σ' H' ⟨j,o6,o7,o8,o9,o10,h2,h3,h4,rfl⟩
   exact ⟨xs.length - j,by omega,j,_,_,_,_,_,rfl,h3,h4,rfl⟩
  ·have hx0:(xs.map V.int)[i]?=some (.int xs[i]):=by rw [List.getElem?_map,List.getElem?_eq_getElem (by omega)];rfl
   refine ⟨_,_,s1.seq ha,bc hx0,?_⟩
   simp_arith! []
   have hN1:=hN.same s1
   obtain ⟨nm,hnm,hne⟩:=mj (ns:=ns) (x:=xs[i] / 16 / 1024) hN.pos
   obtain ⟨ct,hct,c1,c2⟩:∃ct:Nat,(if (i:Int)+1+xs[i] / 16 / 16 % 5 < (xs.length:Int) then (i:Int)+1+xs[i] / 16 / 16 % 5 else (xs.length:Int))=(ct:Int)/\i+1<=ct/\ct<=xs.length:=by
    have h0:0<=xs[i] / 16 / 16 % 5:=Int.emod_nonneg _ (by decide)
    split
    ·exact ⟨((i:Int)+1+xs[i] / 16 / 16 % 5).toNat,by omega,by omega,by omega⟩
    ·exact ⟨xs.length,rfl,by omega,by omega⟩
   obtain ⟨en,hen,e1,e2⟩:∃en:Nat,(if (ct:Int)+xs[i] / 16 / 128 % 4 < (xs.length:Int) then (ct:Int)+xs[i] / 16 / 128 % 4 else (xs.length:Int))=(en:Int)/\ct<=en/\en<=xs.length:=by
    have h0:0<=xs[i] / 16 / 128 % 4:=Int.emod_nonneg _ (by decide)
    split
    ·exact ⟨((ct:Int)+xs[i] / 16 / 128 % 4).toNat,by omega,by omega,by omega⟩
    ·exact ⟨xs.length,rfl,by omega,by omega⟩
   refine ⟨CDivB.small (by decide) (by decide),later ?_⟩
   simp_arith! []
   refine later ?_
   simp_arith! []
   refine ⟨_,.inl (s1.seq ha),CDivB.small (by decide) (by decide),?_⟩
   rw [List.length_map,hct]
   refine later ?_
   simp_arith! []
   refine ⟨_,.inl (s1.seq ha),CDivB.small (by decide) (by decide),?_⟩
   rw [List.length_map,hen]
   refine later ?_
   simp_arith! []
   refine ⟨CDivB.small (by decide) (by decide),_,.inl hN1.at_,by rw [List.length_map];have:=hN.pos;omega,_,_,hN1.at_,hne,?_⟩
   refine later ?_
   simp_arith! [f6,mt]
   have ei1:(i:Int)+1=((i+1:Nat):Int):=by omega
   have deedC:tyV K "list" (V.ref k) H1/\j0 K (xs[i] / 16) b top H1 fun x H1=>∃xs_2,H1 k=some (HO.lst xs_2)/\xs_2.length < sizeLine/\∃(j:Nat)(o6 o7 o8 o9 o10_1:Option V),i < j/\j<=xs.length/\StI K H ns wd e k j (upd H1 k (HO.lst (xs_2 ++ [x])))/\
     [some (V.ref a),some (V.ref b),some (V.int top),some (V.int ↑e),some (V.ref k),some (V.int ((i:Int)+1)),some (V.int (xs[i] / 16)),some (V.int ct),some (V.int en),some (V.str nm),o10]=[some (V.ref a),some (V.ref b),some (V.int top),some (V.int ↑e),some (V.ref k),some (V.int ↑j),o6,o7,o8,o9,o10_1]:=by
    obtain ⟨_,ys0,_,_,ek,_⟩:=id hI
    refine ⟨.inl ⟨rfl,_,SqL.of ek⟩,ns,wd,htop,hN1,fun d q0 H2 s2 hq hf hgd=>?_⟩
    obtain ⟨ys,e5,l5,hI2⟩:=hI.add (j:=i+1) hk s2 (.deed hf (SqT.of hq)) (by simp) hgd (Nat.zero_le _) (by rw [Stm.many];omega) (by omega)
    exact ⟨ys,e5,l5,i+1,_,_,_,_,_,by omega,by omega,hI2,by rw [ei1]⟩
   refine aH (fun he0=>?_) (fun he0=>?_)
   ·rw [if_pos trivial]
    exact deedC
   have hx1:atI (xs.map V.int) ((i:Int)+1 - 1)=some (.int xs[i]):=by rw [show (i:Int)+1 - 1=(i:Int) by omega];exact bc hx0
   refine ⟨_,_,s1.seq ha,hx1,?_⟩
   simp_arith [f6,mt]
   obtain ⟨e',rfl⟩:∃e',e=e'+1:=⟨e - 1,by omega⟩
   refine aH (fun _=>deedC) (fun h5=>⟨_,_,s1.seq ha,hx1,?_⟩)
   clear deedC
   simp_arith [f6,mt]
   have ec1:cR (xs.map V.int) (some ((i:Int)+1)) (some (ct:Int))=((xs.take ct).drop (i+1)).map V.int:=by
    rw [nG (by omega) (by omega),Int.toNat_natCast,show ((i:Int)+1).toNat=i+1 by omega,List.map_drop,List.map_take]
   have ec2:cR (xs.map V.int) (some (ct:Int)) (some (en:Int))=((xs.take en).drop ct).map V.int:=by
    rw [nG (by omega) (by omega),Int.toNat_natCast,Int.toNat_natCast,List.map_drop,List.map_take]
   have lc1:((xs.take ct).drop (i+1)).length=ct - (i+1):=by rw [List.length_drop,List.length_take];omega
   have lc2:((xs.take en).drop ct).length=en - ct:=by rw [List.length_drop,List.length_take];omega
   obtain ⟨_,ys0,_,_,ek,_⟩:=id hI
   refine aH (fun _=>⟨_,s1.seq ha,fun p hp=>?_⟩) (fun _=>⟨_,s1.seq ha,fun p hp=>?_⟩)
   ·rw [ec1]
    have t2:=Same.upd (o:=.lst (((xs.take ct).drop (i+1)).map V.int)) hp
    refine ⟨ns,wd,_,e',htop,hN1.same t2,by omega,by omega,SqL.of ae,by omega,fun p1 ys1 ss1 g1 H2 s2 f1 n1 ep1 v1 gd1 d1 m1=>?_⟩
    have s12:=t2.trans s2
    refine later ?_
    simp_arith! [f6]
    refine ⟨.inl ⟨rfl,_,SqL.of (s12 _ _ ek)⟩,_,(s1.trans s12).seq ha,fun p' hp'=>?_⟩
    rw [ec2]
    have t3:=Same.upd (o:=.lst (((xs.take en).drop ct).map V.int)) hp'
    have s13:=s12.trans t3
    refine ⟨ns,wd,_,e',htop,hN1.same s13,by omega,by omega,SqL.of ae,by omega,fun p2 ys2 ss2 g2 H3 s3 f2 n2 ep2 v2 gd2 d2 m2 pq hpq=>?_⟩
    have t4:=Same.upd (o:=.tup [V.str "if",V.str nm,V.ref p1,V.ref p2]) hpq
    have hfr:∀c∈p1 :: p2 :: (g1 ++ g2),H1 c=none:=fun c hc=>by
     rcases List.mem_cons.mp hc with z | hc
     ·rw [z];exact t2.free (f1 p1 (by simp))
     rcases List.mem_cons.mp hc with z | hc
     ·rw [z];exact s13.free (f2 p2 (by simp))
     rcases List.mem_append.mp hc with z | z
     ·exact t2.free (f1 c (List.mem_cons_of_mem _ z))
     ·exact s13.free (f2 c (List.mem_cons_of_mem _ z))
    obtain ⟨ys,e5,l5,hI2⟩:=hI.add (j:=en) hk ((s13.trans s3).trans t4) (.ifs (SqT.of ae) (t4 _ _ (s3 _ _ (t3 _ _ ep1))) (t4 _ _ ep2) (((v1.same t3).same s3).same t4) (v2.same t4)) hfr ⟨hnm,gd1,gd2⟩ (by rw [Stm.deep];omega) (by rw [Stm.many];omega) (by omega)
    refine ⟨ys,e5,l5,later ?_⟩
    simp_arith! []
    exact ⟨en,_,_,_,_,_,by omega,by omega,hI2,rfl⟩
   ·rw [ec1]
    have t2:=Same.upd (o:=.lst (((xs.take ct).drop (i+1)).map V.int)) hp
    refine ⟨ns,wd,_,e',htop,hN1.same t2,by omega,by omega,SqL.of ae,by omega,fun p1 ys1 ss1 g1 H2 s2 f1 n1 ep1 v1 gd1 d1 m1=>?_⟩
    refine later ?_
    simp_arith! []
    refine ⟨CDivB.small (by decide) (by decide),?_⟩
    have s12:=t2.trans s2
    have hfr:∀c∈p1 :: g1,H1 c=none:=fun c hc=>t2.free (f1 c hc)
    have np1:p1≠k:=fun z=>by have:=hfr p1 (by simp);rw [z,ek] at this;cases this
    refine aH (fun _=>⟨.inl ⟨rfl,_,SqL.of ep1⟩,fun pd hpd=>?_⟩) (fun _=>?_)
    ·have t3:=Same.upd (o:=.tup [V.str "less",V.str nm,V.str nm,V.int 1]) hpd
     have lv1:=v1.length
     have lm1:=gj ss1
     refine ⟨ys1,t3 _ _ ep1,by rw [sizeLine_eq];omega,?_⟩
     have tt:TSame _ (upd (upd H2 pd (.tup [V.str "less",V.str nm,V.str nm,V.int 1])) p1 (.lst (ys1 ++ [V.ref pd]))):=TSame.updL (t3 _ _ ep1)
     have s14:Same H1 (upd (upd H2 pd (.tup [V.str "less",V.str nm,V.str nm,V.int 1])) p1 (.lst (ys1 ++ [V.ref pd]))):=(s12.trans t3).updM (hfr p1 (by simp))
     have dgood:Deed.good ns wd (.op "less" nm (.box nm) (.word 1)):=⟨by decide +kernel,hnm,hnm,by decide,by
      have hw:=hN.w1
      obtain ⟨m,hm⟩:∃m,wd.toNat=m+1:=⟨wd.toNat - 1,by omega⟩
      have hp2:(0:Int) < 2 ^ m:=Int.pow_pos (by decide)
      rw [hm,Int.pow_succ]
      omega⟩
     have v2:StmsV K (upd (upd H2 pd (.tup [V.str "less",V.str nm,V.str nm,V.int 1])) p1 (.lst (ys1 ++ [V.ref pd]))) (ys1 ++ [V.ref pd]) (ss1 ++ [.deed (.op "less" nm (.box nm) (.word 1))]) (g1 ++ []):=
      ((v1.same t3).keep tt (Kept.upd n1)).snoc (.deed (show FB.Deed.fine (.op "less" nm (.box nm) (.word 1)) from dgood.1) (tt.seqT (SqT.of ae)))
     refine later ?_
     simp_arith! []
     refine ⟨.inl ⟨rfl,_,SqL.of (s14 _ _ ek)⟩,fun pq hpq=>?_⟩
     have t4:=Same.upd (o:=.tup [V.str "while",V.str nm,V.ref p1]) hpq
     obtain ⟨ys,e5,l5,hI2⟩:=hI.add (j:=ct) hk (s14.trans t4) (.whl (SqT.of ae) (t4 _ _ ae) (v2.same t4)) (by rw [List.append_nil];exact hfr) ⟨hnm,goodL_append.mpr ⟨gd1,dgood,trivial⟩⟩ (by rw [Stm.deep,g9,bo,bo,Stm.deep];omega) (by rw [Stm.many,cF,aK,aK,Stm.many];omega) (by omega)
     refine ⟨ys,e5,l5,later ?_⟩
     simp_arith! []
     exact ⟨ct,_,_,_,_,_,by omega,by omega,hI2,rfl⟩
    ·refine later ?_
     simp_arith! []
     refine ⟨.inl ⟨rfl,_,SqL.of (s12 _ _ ek)⟩,fun pq hpq=>?_⟩
     have t4:=Same.upd (o:=.tup [V.str "while",V.str nm,V.ref p1]) hpq
     obtain ⟨ys,e5,l5,hI2⟩:=hI.add (j:=ct) hk (s12.trans t4) (.whl (SqT.of ae) (t4 _ _ ep1) (v1.same t4)) hfr ⟨hnm,gd1⟩ (by rw [Stm.deep];omega) (by rw [Stm.many];omega) (by omega)
     refine ⟨ys,e5,l5,later ?_⟩
     simp_arith! []
     exact ⟨ct,_,_,_,_,_,by omega,by omega,hI2,rfl⟩
 ·rw [List.length_map] at h1
  obtain ⟨_,ys,ss,g,ek,hy,ng,fg,gd,dd,my⟩:=hI
  have ei:i=xs.length:=by omega
  subst ei
  refine later ?_
  simp_arith! []
  exact q k ys ss g H1 s1 (fun c hc=>by
   rcases List.mem_cons.mp hc with z | z
   ·rw [z];exact hk
   ·exact fg c z) ng ek hy gd dd my
theorem oo(T:Txt K mg t):∀D,FnOk P w K mg base CX0 (D+3) t.f__law_statements t.e__law_statements ["_law_numbers","_law_names_here","_law_top","_law_deep"] (hE K D)
 | 0=>⟨fun vs H Q E h=>by obtain ⟨_,_,_,_,_,_,_,_,_,_,_,_,h,_⟩:=h;omega,fun _ _ _ _ _ _ _ _ _ _ _ _ _ h=>by obtain ⟨_,_,_,_,_,_,_,_,_,_,_,_,h,_⟩:=h;omega⟩
 | D+1=>qV T D (oo T D)
end
def n6(K:PySem.W.Frag)(a:Addr)(st:Int)(m:Int)(H:Hp)(Q:VK):Prop:=∃(ns:List Int)(many:Nat),m=(many:Int)/\0 < many/\many<=100/\0<=st/\st<=10/\SqL K H a (ns.map V.int)/\(∀z∈ns,Builtin.Int.intBits z<=2 ^ 20)/\∀p (fs:List Int) H',Same H H'->H p=none->H' p=some (.lst (fs.map V.int))->fs.length=many->Q (.ref p) H'
def pK(K:PySem.W.Frag):Sp:=fun vs H Q _=>∃(a:Addr)(st m:Int),vs=[.ref a,.int st,.int m]/\n6 K a st m H Q
section
variable {P:Program} {w:World} {K:PySem.W.Frag} {mg:Str->Option Value} {base:Heap} {t:Ad}
theorem zF{a:Addr}{st m:Int}{H:Hp}{Q:VK}{E:XK}:pK K [.ref a,.int st,.int m] H Q E=n6 K a st m H Q:=propext ⟨by rintro ⟨_,_,_,e,q⟩;cases e;exact q,fun q=>⟨_,_,_,rfl,q⟩⟩
theorem vP(T:Txt K mg t):FnOk P w K mg base CX0 2 t.f__law_folds t.e__law_folds ["_law_script","_law_start","_law_many_here"] (pK K):=by
 have G__law_mixed:=jl (P:=P) (w:=w) (base:=base) T
 refine T.d__law_folds.F.ok sc__law_folds (fun vs H Q E h=>by obtain ⟨_,_,_,rfl,_⟩:=h;rfl) (fun cdv A outer s H vs Q E hr h=>?_)
 obtain ⟨a,st,m,rfl,ns,many,rfl,m0,m1,st0,st1,ha,hb,q⟩:=h
 refine ⟨_,
   (XSs.h
   (af
    (ce (i:=4) sc__law_folds.nd rfl ll rfl (by kernel_rfl) (tns:=["_law_k"]) (cns:=[]) (ci:=[]) rfl (CompSc.of (by kernel_rfl)) (bV gl T.z_range (aa (yqv 2 vl) ac)) (fun _=>(aA (i:=1) (show List.Nodup [(".0":Str),("_law_k":Str)] by decide +kernel) rfl ll (Or.inr (by kernel_rfl)))) (fun _=>bN) (fun _=>(ak aZ (ak ca (ak ca (yqv 1 vl) (yqv 1 vl)) ad) ad)))
   (af
    (ar (i:=5) sc__law_folds.nd rfl ll (bi cK (yqv 0 vl) bW (bd ad)))
   (af
    (bB PassesOwn.never rfl (rj gl T.z_range (aa (yqv 1 vl) (aa (aq au gl T.z_len PySem.boot_len (aa (yqv 5 vl) ac)) ac))) (aA (i:=3) sc__law_folds.nd rfl ll)
     (af
      (ar (i:=6) sc__law_folds.nd rfl ll (ak aJ (yqv 3 vl) (yqv 2 vl)))
     (af
      (ar (i:=7) sc__law_folds.nd rfl ll (ak aZ (ak aZ (ak ca (aj aR (yqv 4 vl) (yqv 6 vl) (fun _ _=>rfl)) ad) (ak ca (am T.d__law_mixed G__law_mixed (hr.mono (by first | decide | omega)) (aa (aj aR (yqv 5 vl) (yqv 3 vl) (fun _ _=>rfl)) (aa (yqv 3 vl) ac)) gl) ad)) (am T.d__law_mixed G__law_mixed (hr.mono (by first | decide | omega)) (aa (aj aR (yqv 5 vl) (yqv 3 vl) (fun _ _=>rfl)) (aa (ak aZ (yqv 3 vl) ad) ac)) gl)))
     (ag
      (mN (ak aJ (yqv 7 vl) ad) (mL (yqv 4 vl) (yqv 6 vl) kq))))))
   (ag
    (ao (yqv 4 vl))))))),?_⟩
 rw [show aG _ [V.ref a,V.int st,V.int many]=[some (.ref a),some (.int st),some (.int many),none,none,none,none,none] from rfl]
 simp_arith [dL]
 refine ⟨by omega,by omega,fun acc hacc bk=>?_⟩
 rw [Int.toNat_natCast]
 refine j8 (fun _=>true) (fun k:Nat=>V.int ((k:Int) * k * 7919+5)) (by rw [sizeLine_eq];omega) hacc (fun i _ H1 Q' _ h=>h H1 (Same.refl _)) (fun i hi H1 Q' s1 _ h=>?_) (fun H1 s1 h1=>?_)
 ·simp_arith []
  exact ⟨.inl ⟨by omega,by omega⟩,.inr ⟨by decide,by decide⟩,h H1 (Same.refl _)⟩
 obtain ⟨fs0,hfs0,lf0⟩:∃fs0:List Int,((List.range many).filter fun _=>true).map (fun k:Nat=>V.int ((k:Int) * k * 7919+5))=fs0.map V.int/\fs0.length=many:=by
  refine ⟨(List.range many).map fun k:Nat=>(k:Int) * k * 7919+5,?_,by simp⟩
  rw [List.map_map,List.filter_eq_self.mpr (fun _ _=>rfl)]
  rfl
 rw [hfs0] at h1
 refine ⟨_,s1.seq ha,fun ps hps=>?_⟩
 rw [iS (by decide),<- List.map_take]
 have t2:=Same.upd (o:=.lst ((ns.take (Int.toNat 63)).map V.int)) hps
 have hbt:∀z∈ns.take (Int.toNat 63),Builtin.Int.intBits z<=2 ^ 20:=fun z hz=>hb z (List.mem_of_mem_take hz)
 have lt:(ns.take (Int.toNat 63)).length<=63:=by rw [List.length_take];exact Nat.min_le_left ..
 generalize ns.take (Int.toNat 63)=cs at t2 hbt lt ⊢
 have hpa:ps≠acc:=fun z=>by rw [z,h1] at hps;cases hps
 have hps2:upd H1 ps (.lst (cs.map V.int)) ps=some (.lst (cs.map V.int)):=ae
 generalize upd H1 ps (.lst (cs.map V.int))=H2 at t2 hps2 ⊢
 refine ⟨_,.inl (SqL.of hps2),⟨by omega,by omega,by omega,by rw [List.length_map];omega⟩,?_⟩
 rw [List.length_map]
 refine nR (fun i σ H'=>Same H H'/\H' ps=some (.lst (cs.map V.int))/\∃(fs:List Int)(o3 o6 o7:Option V),H' acc=some (.lst (fs.map V.int))/\fs.length=many/\σ=[some (.ref a),some (.int st),some (.int many),o3,some (.ref acc),some (.ref ps),o6,o7])
  ⟨s1.trans t2,hps2,fs0,_,_,_,t2 _ _ h1,lf0,rfl⟩ ?_ ?_
 ·rintro i σ H3 hi ⟨s3,hp3,fs,o3,o6,o7,hf3,lf,rfl⟩
  simp_arith [dL]
  have hsi:∃j:Nat,st+(i:Int)=(j:Int)/\j < cs.length:=⟨(st+i).toNat,by omega,by omega⟩
  obtain ⟨j,hj,hjl⟩:=hsi
  rw [hj]
  obtain ⟨mm,hmm,hml⟩:∃mm:Nat,(j:Int) % (many:Int)=(mm:Int)/\mm < many:=⟨j % many,by omega,Nat.mod_lt _ m0⟩
  rw [hmm]
  have hcj:(cs.map V.int)[j]?=some (.int cs[j]):=by rw [List.getElem?_map,List.getElem?_eq_getElem hjl];rfl
  have hfm:(fs.map V.int)[mm]?=some (.int fs[mm]):=by rw [List.getElem?_map,List.getElem?_eq_getElem (by omega)];rfl
  refine ⟨by omega,_,_,SqL.of hf3,bc hfm,?_⟩
  simp_arith [dL]
  refine ⟨.inr ⟨by decide,by decide⟩,_,_,SqL.of hp3,bc hcj,?_⟩
  simp_arith [dL]
  refine ⟨hbt _ (List.getElem_mem hjl),by omega,by omega,.inr ⟨by decide,by decide⟩,_,_,SqL.of hp3,bc hcj,?_⟩
  simp_arith [dL]
  refine ⟨hbt _ (List.getElem_mem hjl),by omega,by omega,acc,_,_,mm,rfl,rfl,hf3,FL.mh (by rw [List.length_map];omega),s3.updM hacc,?_,?_⟩
  ·rw [al hpa];exact hp3
  ·refine ⟨fs.set mm _,_,_,_,by rw [ae,List.map_set],by rw [List.length_set];exact lf,rfl⟩
 ·rintro σ H3 ⟨s3,hp3,fs,o3,o6,o7,hf3,lf,rfl⟩
  simp_arith []
  exact q acc fs H3 s3 hacc hf3 lf
end
structure DrV(K:PySem.W.Frag)(H H':Hp)(q:Addr)(wd:Int)(ins oth:List Str)(ss:List Stm)(pi po pr:Addr)(xs:List V)(g:List Addr)(many:Nat):Prop where
 tup:H' q=some (.tup [.int wd,.ref pi,.ref po,.ref pr])
 ia:H' pi=some (.lst (ins.map V.str))
 oa:H' po=some (.lst (oth.map V.str))
 ra:H' pr=some (.lst xs)
 st:StmsV K H' xs ss g
 gd:cB (ins ++ oth) wd ss
 dp:bo ss<=3
 mn:aK ss<=2 * many
 w1:1<=wd
 w8:wd<=8
 pos:0 < (ins ++ oth).length
 few:(ins ++ oth).length<=8
 fr:∀c∈pr :: g,H c=none
 nf:pr∉g
def mY(K:PySem.W.Frag)(a:Addr)(m:Int)(H:Hp)(Q:VK):Prop:=∃(ns:List Int)(many:Nat),m=(many:Int)/\0 < many/\many<=100/\SqL K H a (ns.map V.int)/\(∀z∈ns,Builtin.Int.intBits z<=2 ^ 20)/\
 ∀q wd ins oth ss pi po pr xs g H',Same H H'->DrV K H H' q wd ins oth ss pi po pr xs g many->Q (.ref q) H'
def pI(K:PySem.W.Frag):Sp:=fun vs H Q _=>∃(a:Addr)(m:Int),vs=[.ref a,.int m]/\mY K a m H Q
section
variable {P:Program} {w:World} {K:PySem.W.Frag} {mg:Str->Option Value} {base:Heap} {t:Ad}
theorem sI{a:Addr}{m:Int}{H:Hp}{Q:VK}{E:XK}:pI K [.ref a,.int m] H Q E=mY K a m H Q:=propext ⟨by rintro ⟨_,_,e,q⟩;cases e;exact q,fun q=>⟨_,_,rfl,q⟩⟩
theorem vN(T:Txt K mg t):FnOk P w K mg base CX0 8 t.f__law_drawn t.e__law_drawn ["_law_script","_law_many_here"] (pI K):=by
 have G__law_mixed:=jl (P:=P) (w:=w) (base:=base) T
 have G__law_at:=A6 (P:=P) (w:=w) (base:=base) T
 have G__law_names:=vT (P:=P) (w:=w) (base:=base) T
 have G__law_folds:=vP (P:=P) (w:=w) (base:=base) T
 have G__law_statements:=oo (P:=P) (w:=w) (base:=base) T 4
 refine T.d__law_drawn.F.ok sc__law_drawn (fun vs H Q E h=>by obtain ⟨_,_,rfl,_⟩:=h;rfl) (fun cdv A outer s H vs Q E hr h=>?_)
 obtain ⟨a,m,rfl,ns,many,rfl,m0,m1,ha,hb,q⟩:=h
 refine ⟨_,
   (XSs.h
   (af
    (ar (i:=2) sc__law_drawn.nd rfl ll (am T.d__law_mixed G__law_mixed (hr.mono (by first | decide | omega)) (aa (am T.d__law_at G__law_at (hr.mono (by first | decide | omega)) (aa (yqv 0 vl) (aa ad ac)) gl) (aa ad ac)) gl))
   (af
    (ar (i:=3) sc__law_drawn.nd rfl ll (ak aZ ad (ak aJ (yqv 2 vl) ad)))
   (af
    (ar (i:=4) sc__law_drawn.nd rfl ll (am T.d__law_names G__law_names (hr.mono (by first | decide | omega)) (aa (ak aN (yqv 2 vl) ad) (aa (ak aZ ad (ak aJ (ak aN (yqv 2 vl) ad) ad)) ac)) gl))
   (af
    (ar (i:=5) sc__law_drawn.nd rfl ll (bi cK (yqv 4 vl) bW (bd (ak aJ (ak aN (yqv 2 vl) ad) ad))))
   (af
    (ar (i:=6) sc__law_drawn.nd rfl ll (am T.d__law_folds G__law_folds (hr.mono (by first | decide | omega)) (aa (yqv 0 vl) (aa ad (aa (yqv 1 vl) ac))) gl))
   (af
    (ar (i:=7) sc__law_drawn.nd rfl ll (am T.d__law_statements G__law_statements (hr.mono (by first | decide | omega)) (aa (bi cK (yqv 6 vl) bW (bd (ak aJ (am T.d__law_at G__law_at (hr.mono (by first | decide | omega)) (aa (yqv 0 vl) (aa ad ac)) gl) (ak aZ (yqv 1 vl) ad)))) (aa (yqv 4 vl) (aa (ak iY ad (yqv 3 vl)) (aa ad ac)))) gl))
   (ag
    (ao (aE (aa (yqv 3 vl) (aa (yqv 5 vl) (aa (bi cK (yqv 4 vl) (bd (aq au gl T.z_len PySem.boot_len (aa (yqv 5 vl) ac))) bW) (aa (yqv 7 vl) ac)))))))))))))),?_⟩
 rw [show aG _ [V.ref a,V.int many]=[some (.ref a),some (.int many),none,none,none,none,none,none] from rfl]
 simp_arith [dL,CQ,zH,zF,f6]
 have hn0:=og (atF ns 0) 1
 have hbb:Builtin.Int.intBits (atF ns 0)<=2 ^ 20:=mU hb
 refine ⟨ns,ha,by decide,hbb,by decide,by decide,?_⟩
 generalize gm (atF ns 0) 1=nb at hn0 ⊢
 have w0:0<=nb % 8:=Int.emod_nonneg _ (by decide)
 have w7:nb % 8 < 8:=Int.emod_lt_of_pos _ (by decide)
 have u0:0<=nb / 64 % 8:=Int.emod_nonneg _ (by decide)
 have u7:nb / 64 % 8 < 8:=Int.emod_lt_of_pos _ (by decide)
 have k0:0<=nb / 1024 % 5:=Int.emod_nonneg _ (by decide)
 refine ⟨CDivB.small (by decide) (by decide),CDivB.small (by decide) (by decide),Int.ediv_nonneg hn0 (by decide),by omega,by omega,fun pn H1 s1 hpn en=>⟨CDivB.small (by decide) (by decide),?_⟩⟩
 have lnm:(fT (nb / 8) (1+nb / 64 % 8).toNat).length=(1+nb / 64 % 8).toNat:=kJ (by omega)
 generalize fT (nb / 8) (1+nb / 64 % 8).toNat=nms at en lnm
 refine ⟨_,SqL.of en,fun pi hpi=>?_⟩
 rw [iS k0,<- List.map_take]
 generalize hki:nms.take (nb / 1024 % 5).toNat=ins
 have ti:=Same.upd (o:=.lst (ins.map V.str)) hpi
 have s1i:=s1.trans ti
 refine ⟨ns,many,rfl,m0,m1,by decide,by decide,s1i.seq ha,hb,fun pf fs H2 s2 hpf ef lf=>?_⟩
 have s12:=s1i.trans s2
 refine ⟨ns,s12.seq ha,by decide,by omega,?_⟩
 simp_arith [f6]
 refine ⟨_,SqL.of ef,fun pc hpc=>?_⟩
 have c0:0<=atF ns 1 % ((many:Int)+1):=Int.emod_nonneg _ (by omega)
 rw [iS c0,<- List.map_take]
 have tc:=Same.upd (o:=.lst ((fs.take (atF ns 1 % ((many:Int)+1)).toNat).map V.int)) hpc
 have lc:(fs.take (atF ns 1 % ((many:Int)+1)).toNat).length<=many:=by rw [List.length_take,lf];exact Nat.min_le_right ..
 generalize fs.take (atF ns 1 % ((many:Int)+1)).toNat=cs at tc lc ⊢
 have s1c:=s12.trans tc
 have en3:=(ti.trans (s2.trans tc)) _ _ en
 refine ⟨⟨by omega,by omega,by decide⟩,?_⟩
 refine ⟨nms,1+nb % 8,cs,3,rfl,⟨SqL.of en3,by omega,by omega,by omega,by omega⟩,rfl,by decide,SqL.of ae,by omega,fun pr xs ss g H3 s3 fr nf er v3 gd dp my=>?_⟩
 have s13:=s1c.trans s3
 have ei3:=s3 _ _ (tc _ _ (s2 _ _ (show upd H1 pi (.lst (ins.map V.str)) pi=some (.lst (ins.map V.str)) from ae)))
 refine ⟨_,.inl (SqL.of ei3),_,SqL.of (s3 _ _ en3),fun po hpo q0 hq0=>?_⟩
 have eo:cR (nms.map V.str) (some (((ins.map V.str).length:Nat):Int)) none=(nms.drop ins.length).map V.str:=by
  rw [dg (by omega),Int.toNat_natCast,List.length_map,List.map_drop]
 rw [eo] at hq0 ⊢
 have to_:=Same.upd (o:=.lst ((nms.drop ins.length).map V.str)) hpo
 have tq:=Same.upd (o:=.tup [V.int (1+nb % 8),V.ref pi,V.ref po,V.ref pr]) hq0
 have sall:ins ++ nms.drop ins.length=nms:=by
  rw [<- hki,List.length_take]
  by_cases h:(nb / 1024 % 5).toNat<=nms.length
  ·rw [Nat.min_eq_left h,List.take_append_drop]
  ·rw [Nat.min_eq_right (by omega),List.take_of_length_le (by omega),List.drop_length,List.append_nil]
 refine q q0 (1+nb % 8) ins (nms.drop ins.length) ss pi po pr xs g _ ((s13.trans to_).trans tq) ⟨ae,tq _ _ (to_ _ _ ei3),tq _ _ ae,tq _ _ (to_ _ _ er),(v3.same to_).same tq,by rw [sall];exact gd,dp,by omega,by omega,by omega,by rw [sall];omega,by rw [sall];omega,fun c hc=>s1c.free (fr c hc),nf⟩
end
def f9(K:PySem.W.Frag)(d:Nat):Sp:=fun vs H Q _=>∃(a:Addr)(xs:List V)(ss:List Stm)(f:List Addr),vs=[.ref a]/\H a=some (.lst xs)/\StmsV K H xs ss f/\bo ss < d/\aK ss<=1000/\
 ∀p ys g H',Same H H'->H' p=some (.lst ys)->StmsV K H' ys ss g->(p :: g).Nodup->(∀c∈p :: g,H c=none)->Q (.ref p) H'
def gX(K:PySem.W.Frag)(d:Nat):Sp:=fun vs H Q _=>∃(x:V)(s:Stm)(f:List Addr),vs=[x]/\StmV K H x s f/\s.deep < d/\s.many<=1000/\
 ∀y g H',Same H H'->StmV K H' y s g->g.Nodup->(∀c∈g,H c=none)->Q y H'
section
variable {P:Program} {w:World} {K:PySem.W.Frag} {mg:Str->Option Value} {base:Heap} {t:Ad}
theorem wP{d:Nat}{x:V}{H:Hp}{Q:VK}{E:XK}:gX K d [x] H Q E=∃(s:Stm)(f:List Addr),StmV K H x s f/\s.deep < d/\s.many<=1000/\∀y g H',Same H H'->StmV K H' y s g->g.Nodup->(∀c∈g,H c=none)->Q y H':=
 propext ⟨by rintro ⟨_,s,f,e,q⟩;cases e;exact ⟨s,f,q⟩,by rintro ⟨s,f,q⟩;exact ⟨x,s,f,rfl,q⟩⟩
theorem bF{d:Nat}{a:Addr}{H:Hp}{Q:VK}{E:XK}:f9 K d [.ref a] H Q E=∃(xs:List V)(ss:List Stm)(f:List Addr),H a=some (.lst xs)/\StmsV K H xs ss f/\bo ss < d/\aK ss<=1000/\
 ∀p ys g H',Same H H'->H' p=some (.lst ys)->StmsV K H' ys ss g->(p :: g).Nodup->(∀c∈p :: g,H c=none)->Q (.ref p) H':=
 propext ⟨by rintro ⟨_,xs,ss,f,e,q⟩;cases e;exact ⟨xs,ss,f,q⟩,by rintro ⟨xs,ss,f,q⟩;exact ⟨a,xs,ss,f,rfl,q⟩⟩
theorem ix(T:Txt K mg t)(d:Nat)(G_copied_row:FnOk P w K mg base CX0 (2 * d+1) t.f_copied_row t.e_copied_row ["row"] (gX K d)):FnOk P w K mg base CX0 (2 * d+2) t.f_copied t.e_copied ["rows"] (f9 K d):=by
 refine T.d_copied.F.ok uG (fun vs H Q E h=>by obtain ⟨_,_,_,_,rfl,_⟩:=h;rfl) (fun cdv A outer s H vs Q E hr h=>?_)
 obtain ⟨a,xs,ss,f,rfl,ha,hx,hd,hl,q⟩:=h
 refine ⟨_,
   (XSs.h
   (ag
    (ao (b7 (tns:=["row"]) (cns:=[]) (ci:=[]) rfl (CompSc.of (by kernel_rfl)) (aO (yqv 0 vl)) (fun _=>(aA (i:=1) (show List.Nodup [(".0":Str),("row":Str)] by decide +kernel) rfl ll (Or.inr (by kernel_rfl)))) (fun _=>bN) (fun _=>(am T.d_copied_row G_copied_row (hr.mono (by first | decide | omega)) (aa (yqv 1 vl) ac) gl)))))),?_⟩
 rw [show aG _ [V.ref a]=[some (.ref a)] from rfl]
 simp_arith [wP]
 refine ⟨⟨_,SqL.of ha⟩,fun acc hacc bk=>?_⟩
 have lx:=hx.length
 have lm:=gj ss
 refine cD (xs:=xs) (fun i ys H'=>Same H H'/\H' acc=some (.lst ys)/\ys.length=i/\∃g,StmsV K H' ys (ss.take i) g/\(acc :: g).Nodup/\∀c∈acc :: g,H c=none) ?_ ?_ ?_ ?_
 ·exact ⟨Same.upd hacc,ae,rfl,[],.nil,by simp,fun c hc=>by rw [List.mem_singleton.mp hc];exact hacc⟩
 ·intro i ys H' _ h;exact SqL.of (h.1 _ _ ha)
 ·rintro i x ys H' os hxi ho ⟨sm,hacc2,ly,g,hg,nd,fr⟩
  match os,ho with
  | [o],_=>
   simp_arith [wP]
   refine ⟨⟨[some x],rfl,rfl⟩,?_⟩
   rw [if_pos trivial]
   obtain ⟨s,f',hs,hsv,_⟩:=hx.get hxi
   have hi:i < ss.length:=(List.getElem?_eq_some_iff.mp hs).1
   have hse:ss[i]=s:=(List.getElem?_eq_some_iff.mp hs).2
   have hds:=eS (List.mem_of_getElem? hs)
   refine ⟨s,f',hsv.same sm,by omega,by have:=nX (List.mem_of_getElem? hs);omega,fun y g2 H2 s2 hy nd2 fr2=>?_⟩
   have na:acc∉g:=(List.nodup_cons.mp nd).1
   have na2:acc∉g2:=fun z=>by rw [fr2 acc z] at hacc2;cases hacc2
   have tt:TSame H2 (upd H2 acc (.lst (ys ++ [y]))):=TSame.updL (s2 _ _ hacc2)
   refine ⟨s2 _ _ hacc2,by rw [sizeLine_eq];omega,(sm.trans s2).updM hacc,ae,by simp [ly],g ++ g2,?_,?_,fun c hc=>?_⟩
   ·rw [List.take_succ_eq_append_getElem hi,hse]
    exact ((hg.same s2).keep tt (Kept.upd na)).snoc (hy.keep tt (Kept.upd na2))
   ·refine List.nodup_cons.mpr ⟨fun z=>(List.mem_append.mp z).elim na na2,eY (List.nodup_cons.mp nd).2 nd2 fun c h1 h2=>?_⟩
    obtain ⟨zs,hz⟩:=hg.tracked c h1
    rw [fr2 c h2] at hz;cases hz
   ·rcases List.mem_cons.mp hc with z | z
    ·rw [z];exact hacc
    ·rcases List.mem_append.mp z with z | z
     ·exact fr c (List.mem_cons_of_mem _ z)
     ·exact sm.free (fr2 c z)
 ·rintro ys H' ⟨sm,hacc2,ly,g,hg,nd,fr⟩
  rw [lx,List.take_length] at hg
  exact q acc ys g H' sm hacc2 hg nd fr
theorem tP(T:Txt K mg t)(d:Nat)(G_copied:FnOk P w K mg base CX0 (2 * d+2) t.f_copied t.e_copied ["rows"] (f9 K d)):FnOk P w K mg base CX0 (2 * (d+1)+1) t.f_copied_row t.e_copied_row ["row"] (gX K (d+1)):=by
 refine T.d_copied_row.F.ok kN (fun vs H Q E h=>by obtain ⟨_,_,_,rfl,_⟩:=h;rfl) (fun cdv A outer s H vs Q E hr h=>?_)
 obtain ⟨x,s,f,rfl,hx,hd,hm,q⟩:=h
 refine ⟨_,
   (XSs.h
   (af
    (aD (ap aV (aj aw (yqv 0 vl) ad (fun _ _=>rfl)) aC (ax _))
     (ag
      (ao (aE (aa aC (aa (aj aw (yqv 0 vl) ad (fun _ _=>rfl)) (aa (am T.d_copied G_copied (hr.mono (by first | decide | omega)) (aa (aj aw (yqv 0 vl) ad (fun _ _=>rfl)) ac) gl) (aa (am T.d_copied G_copied (hr.mono (by first | decide | omega)) (aa (aj aw (yqv 0 vl) ad (fun _ _=>rfl)) ac) gl) ac)))))))
     ay)
   (af
    (aD (ap aV (aj aw (yqv 0 vl) ad (fun _ _=>rfl)) aC (ax _))
     (ag
      (ao (aE (aa aC (aa (aj aw (yqv 0 vl) ad (fun _ _=>rfl)) (aa (am T.d_copied G_copied (hr.mono (by first | decide | omega)) (aa (aj aw (yqv 0 vl) ad (fun _ _=>rfl)) ac) gl) ac))))))
     ay)
   (ag
    (ao (yqv 0 vl)))))),?_⟩
 rw [show aG _ [x]=[some x] from rfl]
 cases hx with
 | @deed q0 dd hf hq=>
  simp_arith [bF]
  refine iz hf hq (by decide +kernel) (by decide +kernel) (by decide +kernel) ⟨_,rfl,?_⟩
  rw [if_neg Bool.false_ne_true]
  refine iz hf hq (by decide +kernel) (by decide +kernel) (by decide +kernel) ⟨_,rfl,?_⟩
  rw [if_neg Bool.false_ne_true]
  exact q _ [] H (Same.refl H) (.deed hf hq) (by simp) (fun c hc=>by cases hc)
 | @ifs q0 a b n xs ys ones others f g hq ha hb h1 h2=>
  simp only [Stm.deep,Stm.many] at hd hm
  simp_arith [bF]
  refine ⟨_,_,hq,rfl,?_⟩
  simp_arith [bF]
  refine aH (fun _=>⟨_,_,hq,rfl,_,_,hq,rfl,?_⟩) (fun z=>absurd trivial z)
  simp_arith [bF]
  refine ⟨xs,ones,f,ha,h1,by omega,by omega,fun p1 zs1 g1 H1 s1 e1 k1 nd1 fr1=>⟨_,_,s1.seqT hq,rfl,?_⟩⟩
  simp_arith [bF]
  refine ⟨ys,others,g,s1 _ _ hb,h2.same s1,by omega,by omega,fun p2 zs2 g2 H2 s2 e2 k2 nd2 fr2 p3 hp3=>?_⟩
  have s3:=Same.upd (o:=.tup [V.str "if",V.str n,V.ref p1,V.ref p2]) hp3
  have s12:=s1.trans s2
  refine q _ (p1 :: p2 :: (g1 ++ g2)) _ (s12.trans s3) (.ifs (SqT.of ae) (s3 _ _ (s2 _ _ e1)) (s3 _ _ e2) ((k1.same s2).same s3) (k2.same s3)) ?_ (fun c hc=>?_)
  ·have dj:∀c∈p1 :: g1,c∉p2 :: g2:=fun c h1 h2=>by
    have ex:∃u,H1 c=some u:=by
     rcases List.mem_cons.mp h1 with z | z
     ·exact ⟨_,by rw [z];exact e1⟩
     ·obtain ⟨u,hu⟩:=k1.tracked c z;exact ⟨_,hu⟩
    obtain ⟨u,hu⟩:=ex
    rw [fr2 c h2] at hu;cases hu
   have n5:=eY nd1 nd2 dj
   refine (List.Perm.nodup_iff ?_).mp n5
   rw [List.cons_append]
   exact .cons _ List.perm_middle
  ·rcases List.mem_cons.mp hc with z | z
   ·rw [z];exact fr1 p1 (by simp)
   rcases List.mem_cons.mp z with z | z
   ·rw [z];exact s1.free (fr2 p2 (by simp))
   rcases List.mem_append.mp z with z | z
   ·exact fr1 c (List.mem_cons_of_mem _ z)
   ·exact s1.free (fr2 c (List.mem_cons_of_mem _ z))
 | @whl q0 a n xs rows f hq ha h1=>
  simp only [Stm.deep,Stm.many] at hd hm
  simp_arith [bF]
  refine ⟨_,_,hq,rfl,?_⟩
  simp_arith [bF]
  refine aH (fun z=>absurd z (by decide +kernel)) (fun _=>⟨_,_,hq,rfl,?_⟩)
  simp_arith [bF]
  refine aH (fun _=>⟨_,_,hq,rfl,_,_,hq,rfl,?_⟩) (fun z=>absurd trivial z)
  simp_arith [bF]
  refine ⟨xs,rows,f,ha,h1,by omega,by omega,fun p1 zs1 g1 H1 s1 e1 k1 nd1 fr1 p3 hp3=>?_⟩
  have s3:=Same.upd (o:=.tup [V.str "while",V.str n,V.ref p1]) hp3
  exact q _ (p1 :: g1) _ (s1.trans s3) (.whl (SqT.of ae) (s3 _ _ e1) (k1.same s3)) nd1 fr1
theorem lu(T:Txt K mg t):∀d,FnOk P w K mg base CX0 (2 * d+1) t.f_copied_row t.e_copied_row ["row"] (gX K d)/\FnOk P w K mg base CX0 (2 * d+2) t.f_copied t.e_copied ["rows"] (f9 K d)
 | 0=>by
  have h0:FnOk P w K mg base CX0 (2 * 0+1) t.f_copied_row t.e_copied_row ["row"] (gX K 0):=⟨fun vs H Q E h=>by obtain ⟨_,_,_,_,_,h,_⟩:=h;omega,fun _ _ _ _ _ _ _ _ _ _ _ _ _ h=>by obtain ⟨_,_,_,_,_,h,_⟩:=h;omega⟩
  exact ⟨h0,ix T 0 h0⟩
 | d+1=>by
  have h1:=tP T d (lu T d).2
  exact ⟨h1,ix T (d+1) h1⟩
end
def rE(K:PySem.W.Frag)(C:Addr)(d:Nat)(p:Addr)(a0:Addr)(b0:Addr)(r0:Addr)(wd:Int)(H:Hp)(Q:VK):Prop:=∃(dx:Addr)(ins:List Str)(oth:List Str)(xs:List V)(ss:List Stm)(f:List Addr),H p=some (.ins C dx [])/\
 H a0=some (.lst (ins.map V.str))/\H b0=some (.lst (oth.map V.str))/\H r0=some (.lst xs)/\StmsV K H xs ss f/\bo ss < d/\aK ss<=1000/\ins.length<=1000/\oth.length<=1000/\
 ∀a b r ys g H',SameX p H H'->ProgAt K C H' p wd ins oth ss a b r ys g->(a :: b :: r :: g).Nodup->(∀c∈a :: b :: r :: g,H c=none)->Q .non H'
def sZ(K:PySem.W.Frag)(C:Addr)(d:Nat):Sp:=fun vs H Q _=>∃(p:Addr)(a0:Addr)(b0:Addr)(r0:Addr)(wd:Int),vs=[.ref p,.int wd,.ref a0,.ref b0,.ref r0]/\rE K C d p a0 b0 r0 wd H Q
section
variable {P:Program} {w:World} {K:PySem.W.Frag} {mg:Str->Option Value} {base:Heap} {t:Ad}
theorem z9(T:Txt K mg t)(d:Nat):FnOk P w K mg base CX0 (2 * d+3) t.f_Program___init__ t.e_Program___init__ ["self","width","ins","boxes","rows"] (sZ K t.C_Program d):=by
 have G_copied:=(lu (P:=P) (w:=w) (base:=base) T d).2
 refine T.d_Program___init__.F.ok fq (fun vs H Q E h=>by obtain ⟨_,_,_,_,_,rfl,_⟩:=h;rfl) (fun cdv A outer s H vs Q E hr h=>?_)
 obtain ⟨p,a0,b0,r0,wd,rfl,dx,ins,oth,xs,ss,f,hp,ha,hb,hr0,hx,hd,hm,hi,ho,q⟩:=h
 refine ⟨_,
   (XSs.h
   (af
    (db (yqv 0 vl) (yqv 1 vl) rfl)
   (af
    (db (yqv 0 vl) (bO bX gl T.z_list boot_list (aa (yqv 2 vl) ac)) rfl)
   (af
    (db (yqv 0 vl) (ak fU (bO bX gl T.z_list boot_list (aa (yqv 2 vl) ac)) (bO bX gl T.z_list boot_list (aa (yqv 3 vl) ac))) rfl)
   (ag
    (db (yqv 0 vl) (am T.d_copied G_copied (hr.mono (by first | decide | omega)) (aa (yqv 4 vl) ac) gl) rfl)))))),?_⟩
 rw [show aG _ [V.ref p,V.int wd,V.ref a0,V.ref b0,V.ref r0]=[some (.ref p),some (.int wd),some (.ref a0),some (.ref b0),some (.ref r0)] from rfl]
 simp_arith [bF]
 have na:a0≠p:=dl ha hp (by intro z;cases z)
 have nb:b0≠p:=dl hb hp (by intro z;cases z)
 have nr:r0≠p:=dl hr0 hp (by intro z;cases z)
 refine nQ hp T.c_Program.cl T.n_Program_width (by simp) ?_
 rw [dm (by rfl),List.nil_append]
 obtain ⟨H1,hH1⟩:∃H1,H1=upd H p (.ins t.C_Program dx [("width",V.int wd)]):=⟨_,rfl⟩
 rw [<- hH1]
 have e1:H1 p=some (.ins t.C_Program dx [("width",V.int wd)]):=by rw [hH1];exact ae
 have s1:SameX p H H1:=by rw [hH1];exact SameX.upd
 have t1:TSame H H1:=by rw [hH1];exact TSame.updI hp
 simp_arith [bF]
 refine ⟨_,.inl (SqL.of (s1 _ _ ha na)),fun l1 hl1=>?_⟩
 have np1:p≠l1:=ai e1 hl1
 refine nQ (by rw [al np1];exact e1) T.c_Program.cl T.n_Program_ins (by simp) ?_
 rw [dm (by kernel_rfl)]
 obtain ⟨H2,hH2⟩:∃H2,H2=upd (upd H1 l1 (.lst (ins.map V.str))) p (.ins t.C_Program dx ([(("width":Str),V.int wd)] ++ [(("ins":Str),V.ref l1)])):=⟨_,rfl⟩
 rw [<- hH2]
 have e2:H2 p=some (.ins t.C_Program dx ([(("width":Str),V.int wd)] ++ [(("ins":Str),V.ref l1)])):=by rw [hH2];exact ae
 have s2:SameX p H1 H2:=by rw [hH2];exact (SameX.of (Same.upd hl1)).trans SameX.upd
 have k2:H2 l1=some (.lst (ins.map V.str)):=by rw [hH2,al np1.symm];exact ae
 have t2:TSame H1 H2:=by rw [hH2];exact (Same.upd hl1).ts.trans (TSame.updI (by rw [al np1];exact e1))
 have s02:=s1.trans s2
 simp_arith [bF]
 refine ⟨_,.inl (SqL.of (s02 _ _ ha na)),fun l2 hl2=>?_⟩
 have s3:=Same.upd (o:=.lst (ins.map V.str)) hl2
 refine ⟨_,.inl (SqL.of (s3 _ _ (s02 _ _ hb nb))),fun l3 hl3=>?_⟩
 have s4:=s3.trans (Same.upd (o:=.lst (oth.map V.str)) hl3)
 refine ⟨_,_,(by rw [al (ai ae hl3)];exact ae),ae,(by rw [sizeLine_eq];simp only [List.length_map];omega),fun l4 hl4=>?_⟩
 have s5:=s4.trans (Same.upd (o:=.lst (ins.map V.str ++ oth.map V.str)) hl4)
 refine nQ (s5 _ _ e2) T.c_Program.cl T.n_Program_boxes (by simp) ?_
 rw [dm (by kernel_rfl)]
 have np4:p≠l4:=ai (s4 _ _ e2) hl4
 obtain ⟨H3,hH3⟩:∃H3,H3=upd (upd (upd (upd H2 l2 (.lst (ins.map V.str))) l3 (.lst (oth.map V.str))) l4 (.lst (ins.map V.str ++ oth.map V.str))) p (.ins t.C_Program dx ([(("width":Str),V.int wd)] ++ [(("ins":Str),V.ref l1)] ++ [(("boxes":Str),V.ref l4)])):=⟨_,rfl⟩
 rw [<- hH3]
 have e3:H3 p=some (.ins t.C_Program dx ([(("width":Str),V.int wd)] ++ [(("ins":Str),V.ref l1)] ++ [(("boxes":Str),V.ref l4)])):=by rw [hH3];exact ae
 have s23:SameX p H2 H3:=by rw [hH3];exact (SameX.of s5).trans SameX.upd
 have k4:H3 l4=some (.lst (ins.map V.str ++ oth.map V.str)):=by rw [hH3,al np4.symm];exact ae
 have t3:TSame H2 H3:=by rw [hH3];exact s5.ts.trans (TSame.updI (s5 _ _ e2))
 have s03:=s02.trans s23
 simp_arith [bF]
 have pf:p∉f:=fun z=>by obtain ⟨zs,hz⟩:=hx.tracked p z;rw [hp] at hz;cases hz
 refine ⟨xs,ss,f,s03 _ _ hr0 nr,hx.keep ((t1.trans t2).trans t3) (fun c hc o e=>s03 c o e (fun z=>pf (by rw [<- z];exact hc))),hd,hm,fun r ys g H4 s34 e4 k5 nd fr=>?_⟩
 refine nQ (s34 _ _ e3) T.c_Program.cl T.n_Program_rows (by simp) ?_
 rw [dm (by kernel_rfl)]
 have pg:p∉r :: g:=fun z=>by rw [fr p z] at e3;cases e3
 have npr:r≠p:=fun z=>pg (by rw [z];exact List.mem_cons_self)
 have nl1:l1≠p:=np1.symm
 have nl4:l4≠p:=np4.symm
 have n14:l1≠l4:=ai (s4 _ _ k2) hl4
 have f1:H l1=none:=s1.free e1 hl1
 have f4:H l4=none:=s02.free e2 (s4.free hl4)
 have k3:H3 l1=some (.lst (ins.map V.str)):=s23 _ _ k2 nl1
 refine q l1 l4 r ys g _ (s03.trans ((SameX.of s34).trans SameX.upd)) ⟨⟨dx,ae⟩,?_,?_,?_,?_⟩ ?_ ?_
 ·rw [al nl1];exact s34 _ _ k3
 ·rw [al nl4,List.map_append];exact s34 _ _ k4
 ·rw [al npr];exact e4
 ·exact k5.keep (TSame.updI (s34 _ _ e3)) (Kept.upd fun z=>pg (List.mem_cons_of_mem _ z))
 ·have a1:l1∉r :: g:=fun z=>by rw [fr l1 z] at k3;cases k3
  have a4:l4∉r :: g:=fun z=>by rw [fr l4 z] at k4;cases k4
  refine List.nodup_cons.mpr ⟨fun z=>?_,List.nodup_cons.mpr ⟨a4,nd⟩⟩
  rcases List.mem_cons.mp z with z | z
  ·exact n14 z
  ·exact a1 z
 ·intro c hc
  rcases List.mem_cons.mp hc with z | hc
  ·rw [z];exact f1
  rcases List.mem_cons.mp hc with z | hc
  ·rw [z];exact f4
  exact s03.free e3 (fr c hc)
end
end K50
variable {E:XK} {H H':Hp} {Q:VK}
namespace K50
open PySem L2 PyProof.Rows FD FB FS FO FR
def d4:FZ.Ed->List V
 | .stop=>[.str "stop"]
 | .go i=>[.str "go",.int i]
 | .choose n i j=>[.str "choose",.str n,.int i,.int j]
def DeedV1(K:PySem.W.Frag)(H:Hp)(x:V)(d:Deed):Prop:=∃q,x=.ref q/\SqT K H q d.vs/\d.fine
def BlkV(K:PySem.W.Frag)(N:Addr->Prop)(H:Hp)(bl:Addr)(x:V)(b:FZ.Blk):Prop:=∃q a e vs,x=.ref q/\H q=some (.tup [.ref a,.ref e])/\H a=some (.lst vs)/\Paired (DeedV1 K H) vs b.ds/\H e=some (.tup (d4 b.ed))/\a≠bl/\N a
theorem DeedV1.ts{K:PySem.W.Frag}{H:Hp}{x:V}{d:Deed}(t:TSame H H')(h:DeedV1 K H x d):DeedV1 K H' x d:=let ⟨q,e,z,f⟩:=h;⟨q,e,t.seqT z,f⟩
theorem SameX.tsL2{p:Addr}{H:Hp}{ys:List V}(s:SameX p H H')(h:H p=some (.lst ys)):TSame H H':=
 ⟨fun c xs e=>s c _ e (fun z=>by rw [z,h] at e;cases e),fun c o u e=>s c _ e (fun z=>by rw [z,h] at e;cases e)⟩
theorem BlkV.sx{K:PySem.W.Frag}{N:Addr->Prop}{H:Hp}{bl:Addr}{x:V}{b:FZ.Blk}{ys:List V}(h:BlkV K N H bl x b)(s:SameX bl H H')(hb:H bl=some (.lst ys)):BlkV K N H' bl x b:=by
 obtain ⟨q,a,e,vs,ex,h1,h2,h3,h4,h5⟩:=h
 have tt:=SameX.tsL2 s hb
 exact ⟨q,a,e,vs,ex,s _ _ h1 (fun z=>by rw [z,hb] at h1;cases h1),s _ _ h2 h5.1,FL.Paired.imp h3 fun y _ d _ z=>z.ts tt,s _ _ h4 (fun z=>by rw [z,hb] at h4;cases h4),h5⟩
structure PartAt(K:PySem.W.Frag)(C:Addr)(N:Addr->Prop)(H:Hp)(p bl:Addr)(B:List FZ.Blk):Prop where
 ob:∃dx,H p=some (.ins C dx [("blocks",.ref bl)])
 nw:∀c,H c=none->N c
 bs:∃xs,H bl=some (.lst xs)/\Paired (BlkV K N H bl) xs B
theorem PartAt.ne{K:PySem.W.Frag}{C:Addr}{N:Addr->Prop}{H:Hp}{p bl:Addr}{B:List FZ.Blk}(h:PartAt K C N H p bl B):p≠bl:=fun z=>by
 obtain ⟨dx,e⟩:=h.ob
 obtain ⟨xs,e2,_⟩:=h.bs
 rw [z,e2] at e;cases e
theorem PartAt.same{K:PySem.W.Frag}{C:Addr}{N:Addr->Prop}{H:Hp}{p bl:Addr}{B:List FZ.Blk}(h:PartAt K C N H p bl B)(s:Same H H'):PartAt K C N H' p bl B:=by
 obtain ⟨xs,e,q⟩:=h.bs
 exact ⟨let ⟨dx,e⟩:=h.ob;⟨dx,s _ _ e⟩,fun c hc=>h.nw c (s.free hc),xs,s _ _ e,FL.Paired.imp q fun x _ b _ z=>z.sx (SameX.of s) e⟩
theorem BlkV.same{K:PySem.W.Frag}{N:Addr->Prop}{H:Hp}{bl:Addr}{x:V}{b:FZ.Blk}(h:BlkV K N H bl x b)(s:Same H H'):BlkV K N H' bl x b:=by
 obtain ⟨q,a,e,vs,ex,h1,h2,h3,h4,h5⟩:=h
 exact ⟨q,a,e,vs,ex,s _ _ h1,s _ _ h2,FL.Paired.imp h3 fun y _ d _ z=>z.ts s.ts,s _ _ h4,h5⟩
def qi(K:PySem.W.Frag)(C:Addr)(p:Addr)(x:V)(H:Hp)(Q:VK):Prop:=∃(N:Addr->Prop)(bl:Addr)(B:List FZ.Blk)(b:FZ.Blk),PartAt K C N H p bl B/\BlkV K N H bl x b/\B.length < 5000/\∀H',SameX bl H H'->PartAt K C N H' p bl (B ++ [b])->Q (.int B.length) H'
def xI(K:PySem.W.Frag)(C:Addr):Sp:=fun vs H Q _=>∃(p:Addr)(x:V),vs=[.ref p,x]/\qi K C p x H Q
def lZ(K:PySem.W.Frag)(C:Addr)(p:Addr)(H:Hp)(Q:VK):Prop:=∃(N:Addr->Prop)(bl:Addr)(B:List FZ.Blk),PartAt K C N H p bl B/\B.length < 5000/\∀H',SameX bl H H'->PartAt K C N H' p bl (B ++ [⟨[],.stop⟩])->Q (.int B.length) H'
theorem yV{K:PySem.W.Frag}{C:Addr}{p:Addr}{H:Hp}{Q:VK}(N:Addr->Prop)(bl:Addr)(B:List FZ.Blk)(h_0:PartAt K C N H p bl B)(h_1:B.length < 5000)(h_2:∀H',SameX bl H H'->PartAt K C N H' p bl (B ++ [⟨[],.stop⟩])->Q (.int B.length) H'):lZ K C p H Q:=⟨N,bl,B,h_0,h_1,h_2⟩
def tj(K:PySem.W.Frag)(C:Addr):Sp:=fun vs H Q _=>∃p:Addr,vs=[.ref p]/\lZ K C p H Q
def qj(K:PySem.W.Frag)(C:Addr)(p:Addr)(x:V)(H:Hp)(Q:VK):Prop:=∃(N:Addr->Prop)(bl:Addr)(B:List FZ.Blk)(b:FZ.Blk),PartAt K C N H p bl B/\BlkV K N H bl x b/\B.length < 5000/\∀H',SameX bl H H'->PartAt K C N H' p bl (FZ.aS b B).2->Q (.int (FZ.aS b B).1) H'
theorem ie{K:PySem.W.Frag}{C:Addr}{p:Addr}{x:V}{H:Hp}{Q:VK}(N:Addr->Prop)(bl:Addr)(B:List FZ.Blk)(b:FZ.Blk)(h_0:PartAt K C N H p bl B)(h_1:BlkV K N H bl x b)(h_2:B.length < 5000)(h_3:∀H',SameX bl H H'->PartAt K C N H' p bl (FZ.aS b B).2->Q (.int (FZ.aS b B).1) H'):qj K C p x H Q:=⟨N,bl,B,b,h_0,h_1,h_2,h_3⟩
def xJ(K:PySem.W.Frag)(C:Addr):Sp:=fun vs H Q _=>∃(p:Addr)(x:V),vs=[.ref p,x]/\qj K C p x H Q
section
variable {P:Program} {w:World} {K:PySem.W.Frag} {mg:Str->Option Value} {base:Heap} {t:Ad}
theorem Av{C p:Addr}{x:V}:xI K C [.ref p,x] H Q E=qi K C p x H Q:=propext ⟨by rintro ⟨_,_,e,q⟩;cases e;exact q,fun q=>⟨_,_,rfl,q⟩⟩
theorem mw{C p:Addr}:tj K C [.ref p] H Q E=lZ K C p H Q:=propext ⟨by rintro ⟨_,e,q⟩;cases e;exact q,fun q=>⟨_,rfl,q⟩⟩
theorem gH{C p:Addr}{x:V}:xJ K C [.ref p,x] H Q E=qj K C p x H Q:=propext ⟨by rintro ⟨_,_,e,q⟩;cases e;exact q,fun q=>⟨_,_,rfl,q⟩⟩
theorem cz{H:Hp}{a c:Addr}{o:HO}(h:upd H a o c=none):H c=none:=by
 unfold upd at h
 split at h
 ·cases h
 ·exact h
theorem vU(T:Txt K mg t):FnOk P w K mg base CX0 1 t.f_Parting_numbered t.e_Parting_numbered ["self","block"] (xI K t.C_Parting):=by
 refine T.d_Parting_numbered.F.ok fk (fun vs H Q E h=>by obtain ⟨_,_,rfl,_⟩:=h;rfl) (fun cdv A outer s H vs Q E hr h=>?_)
 obtain ⟨p,x,rfl,N,bl,B,b,hP,hb,hl,q⟩:=h
 obtain ⟨dx,ob⟩:=hP.ob
 obtain ⟨xs,hbl,hxs⟩:=hP.bs
 have lx:=hxs.length
 refine ⟨_,
   (XSs.h
   (af
    (bg (bM PySem.F.plainAttrs_list PySem.F.slot_list_append PySem.F.type_list_append aP (bS (yqv 0 vl) rfl) (aa (yqv 1 vl) ac)))
   (ag
    (ao (ak cN (aq au gl T.z_len PySem.boot_len (aa (bS (yqv 0 vl) rfl) ac)) ad))))),?_⟩
 rw [show aG _ [V.ref p,x]=[some (.ref p),some x] from rfl]
 simp_arith []
 refine ga ob T.c_Parting.cl T.n_Parting_blocks rfl ?_
 simp_arith []
 have sx:SameX bl H (upd H bl (.lst (xs ++ [x]))):=SameX.upd
 refine ⟨.inl ⟨rfl,_,SqL.of hbl⟩,_,hbl,by rw [sizeLine_eq];omega,?_⟩
 refine ga (sx _ _ ob hP.ne) T.c_Parting.cl T.n_Parting_blocks rfl ?_
 simp_arith []
 refine ⟨_,.inl (SqL.of ae),?_⟩
 have z:=q _ sx ⟨⟨dx,sx _ _ ob hP.ne⟩,fun c hc=>hP.nw c (cz hc),xs ++ [x],ae,FL.Paired.snoc (hb.sx sx hbl) (FL.Paired.imp hxs fun y _ c _ h=>h.sx sx hbl)⟩
 rw [show (((xs ++ [x]).length:Nat):Int) - 1=(B.length:Int) by rw [List.length_append,List.length_singleton,lx];omega]
 exact z
theorem eX{N:Addr->Prop}{H:Hp}{bl a e q:Addr}{ed:FZ.Ed}{vs:List V}{ds:List Deed}{ys:List V}(hbl:H bl=some (.lst ys))(hn:N a)(ha:H a=none)(hv:Paired (DeedV1 K H) vs ds)(he:upd H a (.lst vs) e=none)(hq:upd (upd H a (.lst vs)) e (.tup (d4 ed)) q=none):
  Same H (upd (upd (upd H a (.lst vs)) e (.tup (d4 ed))) q (.tup [.ref a,.ref e]))/\BlkV K N (upd (upd (upd H a (.lst vs)) e (.tup (d4 ed))) q (.tup [.ref a,.ref e])) bl (.ref q) ⟨ds,ed⟩:=by
 have t1:=Same.upd (o:=.lst vs) ha
 have t2:=Same.upd (o:=.tup (d4 ed)) he
 have t3:=Same.upd (o:=.tup [V.ref a,V.ref e]) hq
 have s:=(t1.trans t2).trans t3
 exact ⟨s,q,a,e,vs,rfl,ae,t3 _ _ (t2 _ _ ae),FL.Paired.imp hv fun y _ d _ z=>z.ts s.ts,t3 _ _ ae,(ai hbl ha).symm,hn⟩
theorem sr(T:Txt K mg t):FnOk P w K mg base CX0 2 t.f_Parting_keep_place t.e_Parting_keep_place ["self"] (tj K t.C_Parting):=by
 have G_Parting_numbered:=vU (P:=P) (w:=w) (base:=base) T
 refine T.d_Parting_keep_place.F.ok dR (fun vs H Q E h=>by obtain ⟨_,rfl,_⟩:=h;rfl) (fun cdv A outer s H vs Q E hr h=>?_)
 obtain ⟨p,rfl,N,bl,B,hP,hl,q⟩:=h
 obtain ⟨dx,ob⟩:=hP.ob
 obtain ⟨xs,hbl,hxs⟩:=hP.bs
 refine ⟨_,
   (XSs.h
   (ag
    (ao (aM T.c_Parting.cl T.d_Parting_numbered G_Parting_numbered (hr.mono (by first | decide | omega)) (yqv 0 vl) (aa (aE (aa (aI ac) (aa (aE (aa aC ac)) ac))) ac))))),?_⟩
 rw [show aG _ [V.ref p]=[some (.ref p)] from rfl]
 simp_arith [Av]
 refine bw ob rfl ?_
 intro a ha e he q0 hq0
 obtain ⟨sm,hb⟩:=eX (K:=K) (ed:=.stop) (ds:=[]) hbl (hP.nw _ ha) ha .nil he hq0
 exact ⟨N,bl,B,_,hP.same sm,hb,hl,fun H' sx hP'=>q H' ((SameX.of sm).trans sx) hP'⟩
theorem xA{H:Hp}{n:Nat}{a b:Addr}{vs:List V}(ha:H a=some (.lst vs))(hb:H b=some (.lst [])):Rq K H n (.ref a) (.ref b) (decide (vs=[])):=by
 cases vs with
 | nil=>
  have z:=Rq.lists (n:=n) (fun _=>true) (SqL.of (K:=K) ha) (SqL.of hb) rfl fun j x y hx _=>by simp at hx
  exact z
 | cons x r=>
  rw [decide_eq_false (by intro z;cases z)]
  exact .lens (SqL.of ha) (SqL.of hb) (by simp)
theorem qH(T:Txt K mg t):FnOk P w K mg base CX0 2 t.f_Parting_way_to t.e_Parting_way_to ["self","block"] (xJ K t.C_Parting):=by
 have G_Parting_numbered:=vU (P:=P) (w:=w) (base:=base) T
 refine T.d_Parting_way_to.F.ok gU (fun vs H Q E h=>by obtain ⟨_,_,rfl,_⟩:=h;rfl) (fun cdv A outer s H vs Q E hr h=>?_)
 obtain ⟨p,x,rfl,N,bl,B,b,hP,hb,hl,q⟩:=h
 obtain ⟨dx,ob⟩:=hP.ob
 obtain ⟨qb,a,e,vs,rfl,h1,h2,h3,h4,h5⟩:=id hb
 refine ⟨_,
   (XSs.h
   (af
    (aD (bG (fi (ap (vX (n:=0) (yN (by decide) hr)) (aj aw (yqv 1 vl) ad (fun _ _=>rfl)) (aI ac) (ax _)) (dE (ap aV (aj aw (aj aw (yqv 1 vl) ad (fun _ _=>rfl)) ad (fun _ _=>rfl)) aC (ax _)))))
     (ag
      (ao (aj aw (aj aw (yqv 1 vl) ad (fun _ _=>rfl)) ad (fun _ _=>rfl))))
     ay)
   (ag
    (ao (aM T.c_Parting.cl T.d_Parting_numbered G_Parting_numbered (hr.mono (by first | decide | omega)) (yqv 0 vl) (aa (yqv 1 vl) ac)))))),?_⟩
 rw [show aG _ [V.ref p,V.ref qb]=[some (.ref p),some (.ref qb)] from rfl]
 simp_arith [Av]
 refine ⟨_,_,SqT.of h1,rfl,fun p0 hp0=>?_⟩
 have t0:=Same.upd (o:=.lst []) hp0
 refine ⟨_,xA (t0 _ _ h2) ae,_,rfl,?_⟩
 have lv:=h3.length
 have num:(FZ.aS b B)=(B.length,B ++ [b])->lW t.C_Parting (Str.ofString "numbered") (V.ref p) (upd H p0 (HO.lst [])) (qi K t.C_Parting p (V.ref qb) (upd H p0 (HO.lst [])) Q):=fun ew=>by
  refine bw (t0 _ _ ob) rfl ⟨N,bl,B,b,hP.same t0,hb.same t0,hl,fun H' sx hP'=>?_⟩
  rw [ew] at q
  exact q H' ((SameX.of t0).trans sx) hP'
 obtain ⟨ds,ed⟩:=b
 cases ds with
 | cons d r=>
  have hne:¬vs=[]:=fun z=>by rw [z] at lv;simp at lv
  rw [decide_eq_false hne,if_neg Bool.false_ne_true]
  exact num rfl
 | nil=>
  have hnil:vs=[]:=List.length_eq_zero_iff.mp lv
  rw [decide_eq_true hnil,if_pos rfl]
  have h40:=t0 _ _ h4
  refine ⟨_,_,SqT.of (t0 _ _ h1),rfl,?_⟩
  cases ed with
  | stop=>
   simp_arith []
   refine ⟨_,_,SqT.of h40,rfl,rfl,_,rfl,?_⟩
   rw [decide_eq_false (by intro z;exact absurd (V.str.inj z) (by decide +kernel)),if_neg Bool.false_ne_true]
   exact num rfl
  | go i=>
   simp_arith []
   refine ⟨_,_,SqT.of h40,rfl,rfl,_,rfl,?_⟩
   rw [decide_eq_true rfl,if_pos rfl]
   refine ⟨_,_,SqT.of (t0 _ _ h1),rfl,?_⟩
   simp_arith []
   exact ⟨_,_,SqT.of h40,rfl,q _ (SameX.of t0) (hP.same t0)⟩
  | choose n i j=>
   simp_arith []
   refine ⟨_,_,SqT.of h40,rfl,rfl,_,rfl,?_⟩
   rw [decide_eq_false (by intro z;exact absurd (V.str.inj z) (by decide +kernel)),if_neg Bool.false_ne_true]
   exact num rfl
end
end K50
variable {H:Hp} {Q:VK} {f:List Addr} {ss:List Stm}
namespace K50
open PySem L2 PyProof.Rows FD FB FS FO FR
def m3(K:PySem.W.Frag)(C:Addr)(d:Nat)(p a:Addr)(x:V)(H:Hp)(Q:VK):Prop:=∃(N:Addr->Prop)(bl:Addr)(B:List FZ.Blk)(b:FZ.Blk)(rs:List V)(ss:List Stm)(f:List Addr),PartAt K C N H p bl B/\BlkV K N H bl x b/\H a=some (.lst rs)/\StmsV K H rs ss f/\a≠bl/\bl∉f/\bo ss < d/\B.length+3 * aK ss < 4000/\b.ds.length<=8/\
 ∀y H',SameX bl H H'->PartAt K C N H' p bl (FZ.aL ss b B).2->BlkV K N H' bl y (FZ.aL ss b B).1->(FZ.aL ss b B).1.ds.length<=8->Q y H'
theorem mi{K:PySem.W.Frag}{C:Addr}{d:Nat}{p a:Addr}{x:V}{H:Hp}{Q:VK}(N:Addr->Prop)(bl:Addr)(B:List FZ.Blk)(b:FZ.Blk)(rs:List V)(ss:List Stm)(f:List Addr)(h_0:PartAt K C N H p bl B)(h_1:BlkV K N H bl x b)(h_2:H a=some (.lst rs))(h_3:StmsV K H rs ss f)(h_4:a≠bl)(h_5:bl∉f)(h_6:bo ss < d)(h_7:B.length+3 * aK ss < 4000)(h_8:b.ds.length<=8)(h_9:∀y H',SameX bl H H'->PartAt K C N H' p bl (FZ.aL ss b B).2->BlkV K N H' bl y (FZ.aL ss b B).1->(FZ.aL ss b B).1.ds.length<=8->Q y H'):m3 K C d p a x H Q:=⟨N,bl,B,b,rs,ss,f,h_0,h_1,h_2,h_3,h_4,h_5,h_6,h_7,h_8,h_9⟩
def gZ(K:PySem.W.Frag)(C:Addr)(d:Nat):Sp:=fun vs H Q _=>∃(p a:Addr)(x:V),vs=[.ref p,.ref a,x]/\m3 K C d p a x H Q
def m4(K:PySem.W.Frag)(C:Addr)(d:Nat)(ok:Stm->Prop)(p:Addr)(r x:V)(H:Hp)(Q:VK):Prop:=∃(N:Addr->Prop)(bl:Addr)(B:List FZ.Blk)(b:FZ.Blk)(st:Stm)(f:List Addr),PartAt K C N H p bl B/\BlkV K N H bl x b/\StmV K H r st f/\ok st/\bl∉f/\st.deep < d/\B.length+3 * st.many < 4000/\b.ds.length<=8/\
 ∀y H',SameX bl H H'->PartAt K C N H' p bl (FZ.bK st b B).2->BlkV K N H' bl y (FZ.bK st b B).1->(FZ.bK st b B).1.ds.length<=8->Q y H'
theorem yW{K:PySem.W.Frag}{C:Addr}{d:Nat}{ok:Stm->Prop}{p:Addr}{r x:V}{H:Hp}{Q:VK}(N:Addr->Prop)(bl:Addr)(B:List FZ.Blk)(b:FZ.Blk)(st:Stm)(f:List Addr)(h_0:PartAt K C N H p bl B)(h_1:BlkV K N H bl x b)(h_2:StmV K H r st f)(h_3:ok st)(h_4:bl∉f)(h_5:st.deep < d)(h_6:B.length+3 * st.many < 4000)(h_7:b.ds.length<=8)(h_8:∀y H',SameX bl H H'->PartAt K C N H' p bl (FZ.bK st b B).2->BlkV K N H' bl y (FZ.bK st b B).1->(FZ.bK st b B).1.ds.length<=8->Q y H'):m4 K C d ok p r x H Q:=⟨N,bl,B,b,st,f,h_0,h_1,h_2,h_3,h_4,h_5,h_6,h_7,h_8⟩
def cL(K:PySem.W.Frag)(C:Addr)(d:Nat)(ok:Stm->Prop):Sp:=fun vs H Q _=>∃(p:Addr)(r x:V),vs=[.ref p,r,x]/\m4 K C d ok p r x H Q
def Cq:Stm->Prop
 | .ifs _ _ _=>True
 | _=>False
def Cr:Stm->Prop
 | .whl _ _=>True
 | _=>False
section
variable {P:Program} {w:World} {K:PySem.W.Frag} {mg:Str->Option Value} {base:Heap} {t:Ad}
theorem eM{C p a:Addr}{d:Nat}{x:V}{E:XK}:gZ K C d [.ref p,.ref a,x] H Q E=m3 K C d p a x H Q:=propext ⟨by rintro ⟨_,_,_,e,q⟩;cases e;exact q,fun q=>⟨_,_,_,rfl,q⟩⟩
theorem dM{C p:Addr}{d:Nat}{ok:Stm->Prop}{r x:V}{E:XK}:cL K C d ok [.ref p,r,x] H Q E=m4 K C d ok p r x H Q:=propext ⟨by rintro ⟨_,_,_,e,q⟩;cases e;exact q,fun q=>⟨_,_,_,rfl,q⟩⟩
theorem eT{i:Nat}{s:Stm}(h:ss.reverse[i]?=some s):ss.drop (ss.length - (i+1))=s :: ss.drop (ss.length - i):=by
 obtain ⟨hi,e⟩:=List.getElem?_eq_some_iff.mp h
 rw [List.length_reverse] at hi
 rw [List.getElem_reverse] at e
 have h1:ss.length - (i+1) < ss.length:=by omega
 rw [List.drop_eq_getElem_cons h1,show ss.length - (i+1)+1=ss.length - i by omega]
 congr 1
 rw [<- e]
 congr 1
 omega
theorem xL{H:Hp}{xs:List V}{ss:List Stm}{i:Nat}{x:V}(h:StmsV K H xs ss f)(hx:xs.reverse[i]?=some x):∃s g,ss.reverse[i]?=some s/\s∈ss/\StmV K H x s g/\∀c∈g,c∈f:=by
 have lx:=h.length
 obtain ⟨hi,e⟩:=List.getElem?_eq_some_iff.mp hx
 rw [List.length_reverse] at hi
 rw [List.getElem_reverse] at e
 obtain ⟨s,g,h1,h2,h3⟩:=h.get (i:=xs.length - 1 - i) (x:=x) (by rw [List.getElem?_eq_getElem (by omega),e])
 refine ⟨s,g,?_,List.mem_of_getElem? h1,h2,h3⟩
 rw [List.getElem?_reverse (by omega),<- lx]
 exact h1
theorem C0{H H':Hp}{bl:Addr}{x:V}{ys:List V}{st:Stm}(h:StmV K H x st f)(s:SameX bl H H')(hb:H bl=some (.lst ys))(hf:bl∉f):StmV K H' x st f:=
 h.keep (SameX.tsL2 s hb) fun a ha o e=>s a o e (fun z=>hf (z ▸ ha))
theorem mC{H H':Hp}{bl:Addr}{xs ys:List V}{ss:List Stm}(h:StmsV K H xs ss f)(s:SameX bl H H')(hb:H bl=some (.lst ys))(hf:bl∉f):StmsV K H' xs ss f:=
 h.keep (SameX.tsL2 s hb) fun a ha o e=>s a o e (fun z=>hf (z ▸ ha))
theorem uh{i:Nat}{s:Stm}(h:ss.reverse[i]?=some s):s.many+aK (ss.drop (ss.length - i))<=aK ss:=by
 have e:=congrArg aK (eT h)
 rw [aK] at e
 have e2:aK ss=aK (ss.take (ss.length - (i+1)))+aK (ss.drop (ss.length - (i+1))):=by rw [<- cF,List.take_append_drop]
 omega
theorem lA(T:Txt K mg t)(d:Nat)(G_Parting_with_row:FnOk P w K mg base CX0 (3 * d+3) t.f_Parting_with_row t.e_Parting_with_row ["self","row","block"] (cL K t.C_Parting d fun _=>True)):FnOk P w K mg base CX0 (3 * d+4) t.f_Parting_opened t.e_Parting_opened ["self","rows","block"] (gZ K t.C_Parting d):=by
 refine T.d_Parting_opened.F.ok sc_Parting_opened (fun vs H Q E h=>by obtain ⟨_,_,_,rfl,_⟩:=h;rfl) (fun cdv A outer s H vs Q E hr h=>?_)
 obtain ⟨p,a,x,rfl,N,bl,B,b,rs,ss,f,hP,hb,ha,hx,nab,nbf,hd,hm,h8,q⟩:=h
 have lx:=hx.length
 obtain ⟨xs0,hbl0,_⟩:=hP.bs
 refine ⟨_,
   (XSs.h
   (af
    (bB PassesOwn.never rfl (A0 T.z_reversed (aa (yqv 1 vl) ac) gl) (aA (i:=3) sc_Parting_opened.nd rfl ll)
     (ag
      (ar (i:=2) sc_Parting_opened.nd rfl ll (aM T.c_Parting.cl T.d_Parting_with_row G_Parting_with_row (hr.mono (by first | decide | omega)) (yqv 0 vl) (aa (yqv 3 vl) (aa (yqv 2 vl) ac))))))
   (ag
    (ao (yqv 2 vl))))),?_⟩
 rw [show aG _ [V.ref p,V.ref a,x]=[some (.ref p),some (.ref a),some x,none] from rfl]
 simp_arith [dM]
 refine ⟨rs,SqL.of ha,?_⟩
 refine AW (fun i σ H'=>SameX bl H H'/\∃y o3,PartAt K t.C_Parting N H' p bl (FZ.aL (ss.drop (ss.length - i)) b B).2/\BlkV K N H' bl y (FZ.aL (ss.drop (ss.length - i)) b B).1/\(FZ.aL (ss.drop (ss.length - i)) b B).1.ds.length<=8/\σ=[some (.ref p),some (.ref a),some y,o3])
  ⟨SameX.refl,x,none,?_,?_,?_,rfl⟩ (fun i σ H' _ h=>SqL.of (h.1 _ _ ha nab)) ?_ ?_
 ·rw [Nat.sub_zero,List.drop_length,FZ.aL];exact hP
 ·rw [Nat.sub_zero,List.drop_length,FZ.aL];exact hb
 ·rw [Nat.sub_zero,List.drop_length,FZ.aL];exact h8
 ·rintro i r σ H1 hri ⟨s1,y,o3,hP1,hb1,l1,rfl⟩
  simp_arith [dM]
  obtain ⟨st,g',hst,hms,hv,hsub⟩:=xL hx hri
  have hdm:=eS hms
  have hmd:=uh hst
  have hol:=FZ.bZ (ss.drop (ss.length - i)) b B
  obtain ⟨dx,ob1⟩:=hP1.ob
  refine bw ob1 rfl ?_
  refine (yW (N) (bl) (_) (_) (st) (g') (hP1) (hb1) (C0 hv s1 hbl0 (fun z=>nbf (hsub bl z))) (trivial) (fun z=>nbf (hsub bl z)) (by omega) (by omega) (l1) (fun y2 H2 s2 hP2 hb2 l2=>?_))
  refine ⟨s1.trans s2,y2,_,?_,?_,?_,rfl⟩
  ·rw [eT hst,FZ.aL];exact hP2
  ·rw [eT hst,FZ.aL];exact hb2
  ·rw [eT hst,FZ.aL];exact l2
 ·rintro σ H1 ⟨s1,y,o3,hP1,hb1,l1,rfl⟩
  rw [lx,Nat.sub_self,List.drop_zero] at hP1 hb1 l1
  simp_arith []
  exact q y H1 s1 hP1 hb1 l1
theorem v9{N:Addr->Prop}{H:Hp}{bl a e q:Addr}{ed:FZ.Ed}{vs:List V}{ds:List Deed}(ha:H a=some (.lst vs))(nab:a≠bl)(hn:N a)(hv:Paired (DeedV1 K H) vs ds)(he:H e=none)(hq:upd H e (.tup (d4 ed)) q=none):
  Same H (upd (upd H e (.tup (d4 ed))) q (.tup [.ref a,.ref e]))/\BlkV K N (upd (upd H e (.tup (d4 ed))) q (.tup [.ref a,.ref e])) bl (.ref q) ⟨ds,ed⟩:=by
 have t2:=Same.upd (o:=.tup (d4 ed)) he
 have t3:=Same.upd (o:=.tup [V.ref a,V.ref e]) hq
 have s:=t2.trans t3
 exact ⟨s,q,a,e,vs,rfl,ae,t3 _ _ (t2 _ _ ha),FL.Paired.imp hv fun y _ d _ z=>z.ts s.ts,t3 _ _ ae,nab,hn⟩
theorem yO(T:Txt K mg t)(d:Nat)(G_Parting_opened:FnOk P w K mg base CX0 (3 * d+4) t.f_Parting_opened t.e_Parting_opened ["self","rows","block"] (gZ K t.C_Parting d)):FnOk P w K mg base CX0 (3 * d+5) t.f_Parting_with_if t.e_Parting_with_if ["self","row","block"] (cL K t.C_Parting (d+1) Cq):=by
 have G_Parting_way_to:=qH (P:=P) (w:=w) (base:=base) T
 refine T.d_Parting_with_if.F.ok sc_Parting_with_if (fun vs H Q E h=>by obtain ⟨_,_,_,rfl,_⟩:=h;rfl) (fun cdv A outer s H vs Q E hr h=>?_)
 obtain ⟨p,r,x,rfl,N,bl,B,b,st,f,hP,hb,hv,hok,nbf,hd,hm,h8,q⟩:=h
 refine ⟨_,
   (XSs.h
   (af
    (ar (i:=3) sc_Parting_with_if.nd rfl ll (aE (aa (aI ac) (aa (aE (aa aC (aa (aM T.c_Parting.cl T.d_Parting_way_to G_Parting_way_to (hr.mono (by first | decide | omega)) (yqv 0 vl) (aa (yqv 2 vl) ac)) ac))) ac))))
   (af
    (ar (i:=4) sc_Parting_with_if.nd rfl ll (aM T.c_Parting.cl T.d_Parting_way_to G_Parting_way_to (hr.mono (by first | decide | omega)) (yqv 0 vl) (aa (aM T.c_Parting.cl T.d_Parting_opened G_Parting_opened (hr.mono (by first | decide | omega)) (yqv 0 vl) (aa (aj aw (yqv 1 vl) ad (fun _ _=>rfl)) (aa (yqv 3 vl) ac))) ac)))
   (af
    (ar (i:=5) sc_Parting_with_if.nd rfl ll (aM T.c_Parting.cl T.d_Parting_way_to G_Parting_way_to (hr.mono (by first | decide | omega)) (yqv 0 vl) (aa (aM T.c_Parting.cl T.d_Parting_opened G_Parting_opened (hr.mono (by first | decide | omega)) (yqv 0 vl) (aa (aj aw (yqv 1 vl) ad (fun _ _=>rfl)) (aa (yqv 3 vl) ac))) ac)))
   (ag
    (ao (aE (aa (aI ac) (aa (aE (aa aC (aa (aj aw (yqv 1 vl) ad (fun _ _=>rfl)) (aa (yqv 4 vl) (aa (yqv 5 vl) ac))))) ac))))))))),?_⟩
 rw [show aG _ [V.ref p,r,x]=[some (.ref p),some r,some x,none,none,none] from rfl]
 cases hv with
 | @deed q0 dd hf hq=>exact absurd hok id
 | @whl q0 a1 n xs1 rows f1 hq ha1 h1=>exact absurd hok id
 | @ifs q0 a1 c1 n xs1 ys1 ones others f1 g1 hq ha1 hc1 h1 h2=>
  simp only [Stm.deep,Stm.many] at hd hm
  obtain ⟨xs0,hbl0,_⟩:=hP.bs
  have na1:a1≠bl:=fun z=>nbf (by rw [<- z];simp)
  have nc1:c1≠bl:=fun z=>nbf (by rw [<- z];simp)
  have nf1:bl∉f1:=fun z=>nbf (by simp [z])
  have ng1:bl∉g1:=fun z=>nbf (by simp [z])
  obtain ⟨dx,ob⟩:=hP.ob
  rw [FZ.bK] at q
  dsimp only at q
  simp_arith [gH,eM]
  intro a0 ha0
  have t0:=Same.upd (o:=.lst []) ha0
  have nab0:a0≠bl:=(ai hbl0 ha0).symm
  refine bw (t0 _ _ ob) rfl (ie (N) (bl) (B) (b) (hP.same t0) (hb.same t0) (by omega) (fun H1 sx1 hP1=>?_))
  have gw:=FZ.ba b B
  generalize FZ.aS b B=w0 at *
  have ea0:H1 a0=some (.lst []):=sx1 _ _ ae nab0
  have sx01:=(SameX.of (p:=bl) t0).trans sx1
  intro e0 he0 q1 hq1
  obtain ⟨sb,hbb⟩:=v9 (K:=K) (ed:=.go w0.1) (ds:=[]) ea0 nab0 (hP.nw _ ha0) .nil he0 hq1
  have hPG:=hP1.same sb
  have sxG:=sx01.trans (SameX.of (p:=bl) sb)
  rw [show d4 (.go w0.1)=[V.str "go",V.int w0.1] from rfl] at sb hbb hPG sxG
  generalize upd (upd H1 e0 _) q1 _=G at sb hbb hPG sxG ⊢
  obtain ⟨dxG,obG⟩:=hPG.ob
  obtain ⟨xsG,hblG,_⟩:=hPG.bs
  refine bw obG rfl (bw obG rfl ⟨_,_,(SameX.tsL2 sxG hbl0).seqT hq,rfl,?_⟩)
  simp_arith [eM]
  have lo1:=FZ.bZ ones ⟨[],.go w0.1⟩ w0.2
  refine (mi (N) (bl) (w0.2) (⟨[],.go w0.1⟩) (xs1) (ones) (f1) (hPG) (hbb) (sxG _ _ ha1 na1) (mC h1 sxG hbl0 nf1) (na1) (nf1) (by omega) (by omega) (Nat.zero_le _) (fun y2 H3 s3 hP3 hb3 l3=>?_))
  generalize FZ.aL ones ⟨[],.go w0.1⟩ w0.2=o at *
  have gw2:=FZ.ba o.1 o.2
  refine (ie (N) (bl) (_) (_) (hP3) (hb3) (by omega) (fun H4 s4 hP4=>?_))
  generalize FZ.aS o.1 o.2=wo at *
  have sxG4:=s3.trans s4
  have sx4:=sxG.trans sxG4
  obtain ⟨dx4,ob4⟩:=hP4.ob
  obtain ⟨xs4,hbl4,_⟩:=hP4.bs
  refine bw ob4 rfl (bw ob4 rfl ⟨_,_,(SameX.tsL2 sx4 hbl0).seqT hq,rfl,?_⟩)
  simp_arith [eM]
  have lo2:=FZ.bZ others ⟨[],.go w0.1⟩ wo.2
  refine (mi (N) (bl) (wo.2) (⟨[],.go w0.1⟩) (ys1) (others) (g1) (hP4) (hbb.sx sxG4 hblG) (sx4 _ _ hc1 nc1) (mC h2 sx4 hbl0 ng1) (nc1) (ng1) (by omega) (by omega) (Nat.zero_le _) (fun y5 H5 s5 hP5 hb5 l5=>?_))
  generalize FZ.aL others ⟨[],.go w0.1⟩ wo.2=o2 at *
  refine (ie (N) (bl) (_) (_) (hP5) (hb5) (by omega) (fun H6 s6 hP6=>?_))
  generalize FZ.aS o2.1 o2.2=wp at *
  have sx6:=sx4.trans (s5.trans s6)
  obtain ⟨xs6,hbl6,_⟩:=hP6.bs
  intro a7 ha7
  have t7:=Same.upd (o:=.lst []) ha7
  refine ⟨_,_,(SameX.tsL2 sx6 hbl0 |>.trans t7.ts).seqT hq,rfl,fun e7 he7 q7 hq7=>?_⟩
  obtain ⟨sm,hb7⟩:=eX (K:=K) (ed:=.choose n wo.1 wp.1) (ds:=[]) hbl6 (hP6.nw _ ha7) ha7 .nil he7 hq7
  exact q _ _ (sx6.trans (SameX.of sm)) (hP6.same sm) hb7 (Nat.zero_le _)
theorem zX(T:Txt K mg t)(d:Nat)(G_Parting_opened:FnOk P w K mg base CX0 (3 * d+4) t.f_Parting_opened t.e_Parting_opened ["self","rows","block"] (gZ K t.C_Parting d)):FnOk P w K mg base CX0 (3 * d+5) t.f_Parting_with_while t.e_Parting_with_while ["self","row","block"] (cL K t.C_Parting (d+1) Cr):=by
 have G_Parting_way_to:=qH (P:=P) (w:=w) (base:=base) T
 have G_Parting_keep_place:=sr (P:=P) (w:=w) (base:=base) T
 refine T.d_Parting_with_while.F.ok sc_Parting_with_while (fun vs H Q E h=>by obtain ⟨_,_,_,rfl,_⟩:=h;rfl) (fun cdv A outer s H vs Q E hr h=>?_)
 obtain ⟨p,r,x,rfl,N,bl,B,b,st,f,hP,hb,hv,hok,nbf,hd,hm,h8,q⟩:=h
 refine ⟨_,
   (XSs.h
   (af
    (ar (i:=3) sc_Parting_with_while.nd rfl ll (aM T.c_Parting.cl T.d_Parting_way_to G_Parting_way_to (hr.mono (by first | decide | omega)) (yqv 0 vl) (aa (yqv 2 vl) ac)))
   (af
    (ar (i:=4) sc_Parting_with_while.nd rfl ll (kD T.c_Parting.cl T.d_Parting_keep_place G_Parting_keep_place (hr.mono (by first | decide | omega)) (yqv 0 vl)))
   (af
    (ar (i:=5) sc_Parting_with_while.nd rfl ll (aM T.c_Parting.cl T.d_Parting_way_to G_Parting_way_to (hr.mono (by first | decide | omega)) (yqv 0 vl) (aa (aM T.c_Parting.cl T.d_Parting_opened G_Parting_opened (hr.mono (by first | decide | omega)) (yqv 0 vl) (aa (aj aw (yqv 1 vl) ad (fun _ _=>rfl)) (aa (aE (aa (aI ac) (aa (aE (aa aC (aa (yqv 4 vl) ac))) ac))) ac))) ac)))
   (af
    (mN (aE (aa (aI ac) (aa (aE (aa aC (aa (aj aw (yqv 1 vl) ad (fun _ _=>rfl)) (aa (yqv 5 vl) (aa (yqv 3 vl) ac))))) ac))) (mL (bS (yqv 0 vl) rfl) (yqv 4 vl) kq))
   (ag
    (ao (aE (aa (aI ac) (aa (aE (aa aC (aa (yqv 4 vl) ac))) ac)))))))))),?_⟩
 rw [show aG _ [V.ref p,r,x]=[some (.ref p),some r,some x,none,none,none] from rfl]
 cases hv with
 | @deed q0 dd hf hq=>exact absurd hok id
 | @ifs q0 a1 c1 n xs1 ys1 ones others f1 g1 hq ha1 hc1 h1 h2=>exact absurd hok id
 | @whl q0 a1 n xs1 rows f1 hq ha1 h1=>
  simp only [Stm.deep,Stm.many] at hd hm
  obtain ⟨xs0,hbl0,_⟩:=hP.bs
  have na1:a1≠bl:=fun z=>nbf (by rw [<- z];simp)
  have nf1:bl∉f1:=fun z=>nbf (by simp [z])
  obtain ⟨dx,ob⟩:=hP.ob
  rw [FZ.bK] at q
  dsimp only at q
  simp_arith [gH,eM,mw]
  refine bw ob rfl (ie (N) (bl) (B) (b) (hP) (hb) (by omega) (fun H1 sx1 hP1=>?_))
  have gw:=FZ.ba b B
  generalize FZ.aS b B=w0 at *
  obtain ⟨dx1,ob1⟩:=hP1.ob
  refine bw ob1 rfl ?_
  refine (yV (N) (bl) (w0.2) (hP1) (by omega) (fun H2 sx2 hP2=>?_))
  have sx02:=sx1.trans sx2
  obtain ⟨dx2,ob2⟩:=hP2.ob
  obtain ⟨xs2,hbl2,_⟩:=hP2.bs
  refine bw ob2 rfl (bw ob2 rfl ⟨_,_,(SameX.tsL2 sx02 hbl0).seqT hq,rfl,fun a3 ha3 e3 he3 q3 hq3=>?_⟩)
  obtain ⟨sm,hb3⟩:=eX (K:=K) (ed:=.go w0.2.length) (ds:=[]) hbl2 (hP2.nw _ ha3) ha3 .nil he3 hq3
  rw [show d4 (.go w0.2.length)=[V.str "go",V.int w0.2.length] from rfl] at sm hb3
  have hP3:=hP2.same sm
  have sx03:=sx02.trans (SameX.of (p:=bl) sm)
  simp_arith [eM]
  have lo:=FZ.bZ rows ⟨[],.go w0.2.length⟩ (w0.2 ++ [⟨[],.stop⟩])
  have go:=FZ.bQ rows ⟨[],.go w0.2.length⟩ (w0.2 ++ [⟨[],.stop⟩])
  rw [List.length_append,List.length_singleton] at lo go
  refine (mi (N) (bl) (w0.2 ++ [(⟨[],.stop⟩:FZ.Blk)]) (⟨[],.go w0.2.length⟩) (xs1) (rows) (f1) (hP3) (hb3) (sx03 _ _ ha1 na1) (mC h1 sx03 hbl0 nf1) (na1) (nf1) (by omega) (by rw [List.length_append,List.length_singleton];omega) (Nat.zero_le _) (fun y4 H4 s4 hP4 hb4 l4=>?_))
  generalize FZ.aL rows ⟨[],.go w0.2.length⟩ (w0.2 ++ [⟨[],.stop⟩])=o at *
  have gw2:=FZ.ba o.1 o.2
  refine (ie (N) (bl) (_) (_) (hP4) (hb4) (by omega) (fun H5 s5 hP5=>?_))
  generalize FZ.aS o.1 o.2=wo at *
  have sx05:=sx03.trans (s4.trans s5)
  intro a6 ha6
  have t6:=Same.upd (o:=.lst []) ha6
  refine ⟨_,_,(SameX.tsL2 sx05 hbl0 |>.trans t6.ts).seqT hq,rfl,fun e6 he6 q6 hq6=>?_⟩
  obtain ⟨xs5,hbl5,_⟩:=hP5.bs
  obtain ⟨sm6,hb6⟩:=eX (K:=K) (ed:=.choose n wo.1 w0.1) (ds:=[]) hbl5 (hP5.nw _ ha6) ha6 .nil he6 hq6
  rw [show d4 (.choose n wo.1 w0.1)=[V.str "choose",V.str n,V.int wo.1,V.int w0.1] from rfl] at sm6 hb6
  have hP6:=hP5.same sm6
  have sx06:=sx05.trans (SameX.of (p:=bl) sm6)
  generalize upd (upd (upd H5 a6 _) e6 _) q6 _=G at sm6 hb6 hP6 sx06 ⊢
  obtain ⟨dx6,ob6⟩:=hP6.ob
  obtain ⟨xs6,hbl6,hxs6⟩:=hP6.bs
  have lx6:=hxs6.length
  refine ga ob6 T.c_Parting.cl T.n_Parting_blocks rfl ?_
  have sx67:SameX bl G (upd G bl (.lst (xs6.set w0.2.length (.ref q6)))):=SameX.upd
  refine ⟨bl,xs6,_,w0.2.length,rfl,rfl,hbl6,FL.mh (by omega),?_⟩
  have hP7:PartAt K t.C_Parting N (upd G bl (.lst (xs6.set w0.2.length (.ref q6)))) p bl (wo.2.set w0.2.length ⟨[],.choose n wo.1 w0.1⟩):=
   ⟨⟨dx6,sx67 _ _ ob6 hP6.ne⟩,fun c hc=>hP6.nw c (cz hc),_,ae,FL.Paired.put (hb6.sx sx67 hbl6) _ (FL.Paired.imp hxs6 fun y _ c _ h=>h.sx sx67 hbl6)⟩
  have sx07:=sx06.trans sx67
  generalize upd G bl _=G2 at hP7 sx07 ⊢
  intro a8 ha8 e8 he8 q8 hq8
  obtain ⟨xs7,hbl7,_⟩:=hP7.bs
  obtain ⟨sm8,hb8⟩:=eX (K:=K) (ed:=.go w0.2.length) (ds:=[]) hbl7 (hP7.nw _ ha8) ha8 .nil he8 hq8
  exact q _ _ (sx07.trans (SameX.of sm8)) (hP7.same sm8) hb8 (Nat.zero_le _)
theorem xz(T:Txt K mg t)(d:Nat)(G_Parting_with_if:FnOk P w K mg base CX0 (3 * d+5) t.f_Parting_with_if t.e_Parting_with_if ["self","row","block"] (cL K t.C_Parting (d+1) Cq)) (G_Parting_with_while:FnOk P w K mg base CX0 (3 * d+5) t.f_Parting_with_while t.e_Parting_with_while ["self","row","block"] (cL K t.C_Parting (d+1) Cr)):FnOk P w K mg base CX0 (3 * (d+1)+3) t.f_Parting_with_row t.e_Parting_with_row ["self","row","block"] (cL K t.C_Parting (d+1) fun _=>True):=by
 have G_Parting_way_to:=qH (P:=P) (w:=w) (base:=base) T
 refine T.d_Parting_with_row.F.ok fm (fun vs H Q E h=>by obtain ⟨_,_,_,rfl,_⟩:=h;rfl) (fun cdv A outer s H vs Q E hr h=>?_)
 obtain ⟨p,r,x,rfl,N,bl,B,b,st,f,hP,hb,hv,hok,nbf,hd,hm,h8,q⟩:=h
 obtain ⟨dx,ob⟩:=hP.ob
 obtain ⟨xs0,hbl0,_⟩:=hP.bs
 refine ⟨_,
   (XSs.h
   (af
    (aD (ap aV (aj aw (yqv 1 vl) ad (fun _ _=>rfl)) aC (ax _))
     (ag
      (ao (aM T.c_Parting.cl T.d_Parting_with_if G_Parting_with_if (hr.mono (by first | decide | omega)) (yqv 0 vl) (aa (yqv 1 vl) (aa (yqv 2 vl) ac)))))
     ay)
   (af
    (aD (ap aV (aj aw (yqv 1 vl) ad (fun _ _=>rfl)) aC (ax _))
     (ag
      (ao (aM T.c_Parting.cl T.d_Parting_with_while G_Parting_with_while (hr.mono (by first | decide | omega)) (yqv 0 vl) (aa (yqv 1 vl) (aa (yqv 2 vl) ac)))))
     ay)
   (af
    (aD (ap aV (aq au gl T.z_len PySem.boot_len (aa (aj aw (yqv 2 vl) ad (fun _ _=>rfl)) ac)) (yi (v:=.int 8) gl T.g_MOST_DEEDS ⟨_,rfl⟩) (ax _))
     (ag
      (ao (aE (aa (aI (aa (yqv 1 vl) ac)) (aa (aE (aa aC (aa (aM T.c_Parting.cl T.d_Parting_way_to G_Parting_way_to (hr.mono (by first | decide | omega)) (yqv 0 vl) (aa (yqv 2 vl) ac)) ac))) ac)))))
     ay)
   (ag
    (ao (aE (aa (ak fU (aI (aa (yqv 1 vl) ac)) (aj aw (yqv 2 vl) ad (fun _ _=>rfl))) (aa (aj aw (yqv 2 vl) ad (fun _ _=>rfl)) ac))))))))),?_⟩
 rw [show aG _ [V.ref p,r,x]=[some (.ref p),some r,some x] from rfl]
 have hv0:=hv
 cases hv with
 | @ifs q0 a1 c1 n xs1 ys1 ones others f1 g1 hq ha1 hc1 h1 h2=>
  simp_arith [dM,gH]
  refine ⟨_,_,hq,rfl,?_⟩
  simp_arith [dM,gH]
  refine aH (fun _=>bw ob rfl ⟨N,bl,B,b,_,_,hP,hb,hv0,trivial,nbf,hd,hm,h8,q⟩) (fun z=>absurd trivial z)
 | @whl q0 a1 n xs1 rows f1 hq ha1 h1=>
  simp_arith [dM,gH]
  refine ⟨_,_,hq,rfl,?_⟩
  simp_arith [dM,gH]
  refine aH (fun z=>absurd z (by decide +kernel)) (fun _=>⟨_,_,hq,rfl,?_⟩)
  simp_arith [dM,gH]
  refine aH (fun _=>bw ob rfl ⟨N,bl,B,b,_,_,hP,hb,hv0,trivial,nbf,hd,hm,h8,q⟩) (fun z=>absurd trivial z)
 | @deed q0 dd hf hq=>
  simp_arith [dM,gH]
  refine iz hf hq (by decide +kernel) (by decide +kernel) (by decide +kernel) ⟨_,rfl,?_⟩
  rw [if_neg Bool.false_ne_true]
  refine iz hf hq (by decide +kernel) (by decide +kernel) (by decide +kernel) ⟨_,rfl,?_⟩
  rw [if_neg Bool.false_ne_true]
  obtain ⟨qb,ab,eb,vs,rfl,b1,b2,b3,b4,b5,b6⟩:=id hb
  have lv:=b3.length
  rw [FZ.bK] at q
  simp only [Stm.many] at hm
  simp_arith [dM,gH]
  refine ⟨_,_,SqT.of b1,rfl,ab,vs,rfl,.inl (SqL.of b2),?_⟩
  by_cases c8:b.ds.length=8
  ·rw [if_pos c8] at q
   rw [if_pos (by rw [lv,c8];rfl)]
   intro a1 ha1
   have t1:=Same.upd (o:=.lst [V.ref q0]) ha1
   have n1:a1≠bl:=(ai hbl0 ha1).symm
   refine bw (t1 _ _ ob) rfl (ie (N) (bl) (B) (b) (hP.same t1) (hb.same t1) (by omega) (fun H2 s2 hP2=>?_))
   have sx2:=(SameX.of (p:=bl) t1).trans s2
   intro e3 he3 q3 hq3
   obtain ⟨sm,hb3⟩:=v9 (K:=K) (ed:=.go (FZ.aS b B).1) (ds:=[dd]) (s2 _ _ ae n1) n1 (hP.nw _ ha1) (.cons ⟨q0,rfl,(SameX.tsL2 sx2 hbl0).seqT hq,hf⟩ .nil) he3 hq3
   exact q _ _ (sx2.trans (SameX.of sm)) (hP2.same sm) hb3 (by simp)
  ·rw [if_neg c8] at q
   rw [if_neg (by rw [lv];simp;omega)]
   intro a1 ha1
   have t1:=Same.upd (o:=.lst [V.ref q0]) ha1
   have n1:ab≠a1:=ai b2 ha1
   refine ⟨_,_,SqT.of (t1 _ _ b1),rfl,a1,ab,_,_,rfl,rfl,ae,t1 _ _ b2,by rw [sizeLine_eq,List.length_singleton];omega,fun a2 ha2=>?_⟩
   have t2:=Same.upd (o:=.lst ([V.ref q0] ++ vs)) ha2
   have t12:=t1.trans t2
   refine ⟨_,_,SqT.of (t12 _ _ b1),rfl,fun q3 hq3=>?_⟩
   have t3:=Same.upd (o:=.tup [V.ref a2,V.ref eb]) hq3
   have t13:=t12.trans t3
   have n2:a2≠bl:=(ai (t1 _ _ hbl0) ha2).symm
   refine q _ _ (SameX.of t13) (hP.same t13) ⟨q3,a2,eb,_,rfl,ae,t3 _ _ ae,?_,t13 _ _ b4,n2,hP.nw _ (t1.free ha2)⟩ (by rw [List.length_cons];omega)
   exact .cons ⟨q0,rfl,t13.ts.seqT hq,hf⟩ (FL.Paired.imp b3 fun y _ c _ z=>z.ts t13.ts)
end
def pQ(C:Addr):Sp:=fun vs H Q _=>∃(p:Addr)(dx:Addr),vs=[.ref p]/\H p=some (.ins C dx [])/\∀bl,H bl=none->Q .non (upd (upd H bl (.lst [])) p (.ins C dx [("blocks",.ref bl)]))
def kP(K:PySem.W.Frag)(C:Addr)(d:Nat)(p:Addr)(H:Hp)(Q:VK):Prop:=∃(wd:Int)(ins oth:List Str)(ss:List Stm)(a b r:Addr)(ys:List V)(g:List Addr),ProgAt K C H p wd ins oth ss a b r ys g/\bo ss < d/\3 * aK ss < 3900/\
 ∀bl xs H',Same H H'->H bl=none->H' bl=some (.lst xs)->Paired (BlkV K (fun c=>H c=none) H' bl) xs (FZ.bU ss)->Q (.ref bl) H'
def lJ(K:PySem.W.Frag)(C:Addr)(d:Nat):Sp:=fun vs H Q _=>∃p:Addr,vs=[.ref p]/\kP K C d p H Q
section
variable {P:Program} {w:World} {K:PySem.W.Frag} {mg:Str->Option Value} {base:Heap} {t:Ad}
theorem wM{C p:Addr}{d:Nat}{H:Hp}{Q:VK}{E:XK}:lJ K C d [.ref p] H Q E=kP K C d p H Q:=propext ⟨by rintro ⟨_,e,q⟩;cases e;exact q,fun q=>⟨_,rfl,q⟩⟩
theorem zI{C p:Addr}{H:Hp}{Q:VK}{E:XK}:pQ C [.ref p] H Q E=∃dx,H p=some (.ins C dx [])/\∀bl,H bl=none->Q .non (upd (upd H bl (.lst [])) p (.ins C dx [("blocks",.ref bl)])):=propext ⟨by rintro ⟨_,dx,e,q⟩;cases e;exact ⟨dx,q⟩,fun ⟨dx,q⟩=>⟨_,dx,rfl,q⟩⟩
theorem vV(T:Txt K mg t):FnOk P w K mg base CX0 1 t.f_Parting___init__ t.e_Parting___init__ ["self"] (pQ t.C_Parting):=by
 refine T.d_Parting___init__.F.ok fj (fun vs H Q E h=>by obtain ⟨_,_,rfl,_⟩:=h;rfl) (fun cdv A outer s H vs Q E hr h=>?_)
 obtain ⟨p,dx,rfl,hp,q⟩:=h
 refine ⟨_,
   (XSs.h
   (ag
    (db (yqv 0 vl) (aI ac) rfl))),?_⟩
 rw [show aG _ [V.ref p]=[some (.ref p)] from rfl]
 simp_arith []
 intro bl hbl
 have np:p≠bl:=ai hp hbl
 refine nQ (by rw [al np];exact hp) T.c_Parting.cl T.n_Parting_blocks (by simp) ?_
 rw [dm (by rfl),List.nil_append]
 exact q bl hbl
theorem jm(T:Txt K mg t):∀d,FnOk P w K mg base CX0 (3 * d+3) t.f_Parting_with_row t.e_Parting_with_row ["self","row","block"] (cL K t.C_Parting d fun _=>True)/\FnOk P w K mg base CX0 (3 * d+4) t.f_Parting_opened t.e_Parting_opened ["self","rows","block"] (gZ K t.C_Parting d)
 | 0=>by
  have h0:FnOk P w K mg base CX0 (3 * 0+3) t.f_Parting_with_row t.e_Parting_with_row ["self","row","block"] (cL K t.C_Parting 0 fun _=>True):=⟨fun vs H Q E h=>by obtain ⟨_,_,_,_,_,_,_,_,_,_,_,_,_,_,_,h,_⟩:=h;omega,fun _ _ _ _ _ _ _ _ _ _ _ _ _ h=>by obtain ⟨_,_,_,_,_,_,_,_,_,_,_,_,_,_,_,h,_⟩:=h;omega⟩
  exact ⟨h0,lA T 0 h0⟩
 | d+1=>by
  have h1:=xz T d (yO T d (jm T d).2) (zX T d (jm T d).2)
  exact ⟨h1,lA T (d+1) h1⟩
theorem uj(T:Txt K mg t)(d:Nat):FnOk P w K mg base CX0 (3 * d+5) t.f_blocks_of t.e_blocks_of ["program"] (lJ K t.C_Program d):=by
 have G_Parting___init__:=vV (P:=P) (w:=w) (base:=base) T
 have G_Parting_keep_place:=sr (P:=P) (w:=w) (base:=base) T
 have G_Parting_opened:=(jm (P:=P) (w:=w) (base:=base) T d).2
 refine T.d_blocks_of.F.ok sc_blocks_of (fun vs H Q E h=>by obtain ⟨_,rfl,_⟩:=h;rfl) (fun cdv A outer s H vs Q E hr h=>?_)
 obtain ⟨p,rfl,wd,ins,oth,ss,a,b,r,ys,g,hP,hd,hm,q⟩:=h
 refine ⟨_,
   (XSs.h
   (af
    (ar (i:=1) sc_blocks_of.nd rfl ll (rm T.c_Parting T.d_Parting___init__ G_Parting___init__ (hr.mono (by first | decide | omega)) gl))
   (af
    (ar (i:=2) sc_blocks_of.nd rfl ll (kD T.c_Parting.cl T.d_Parting_keep_place G_Parting_keep_place (hr.mono (by first | decide | omega)) (yqv 1 vl)))
   (af
    (mN (aM T.c_Parting.cl T.d_Parting_opened G_Parting_opened (hr.mono (by first | decide | omega)) (yqv 1 vl) (aa (bS (yqv 0 vl) rfl) (aa (aE (aa (aI ac) (aa (aE (aa aC ac)) ac))) ac))) (mL (bS (yqv 1 vl) rfl) (yqv 2 vl) kq))
   (ag
    (ao (bS (yqv 1 vl) rfl))))))),?_⟩
 rw [show aG _ [V.ref p]=[some (.ref p),none,none] from rfl]
 simp_arith [mw,eM]
 intro x dx hx hdx hne
 simp_arith [zI,mw,eM]
 refine ⟨dx,ae,fun bl hbl=>?_⟩
 have hbl0:H bl=none:=cz (cz hbl)
 have nxb:x≠bl:=ai ae hbl
 have e2:upd (upd (upd (upd H dx (.own x)) x (.ins t.C_Parting dx [])) bl (.lst [])) x (.ins t.C_Parting dx [("blocks",.ref bl)]) bl=some (.lst []):=by rw [al nxb.symm];exact ae
 have hQ:PartAt K t.C_Parting (fun c=>H c=none) (upd (upd (upd (upd H dx (.own x)) x (.ins t.C_Parting dx [])) bl (.lst [])) x (.ins t.C_Parting dx [("blocks",.ref bl)])) x bl []:=
  ⟨⟨dx,ae⟩,fun c hc=>cz (cz (cz (cz hc))),[],e2,.nil⟩
 have s2:Same H (upd (upd (upd (upd H dx (.own x)) x (.ins t.C_Parting dx [])) bl (.lst [])) x (.ins t.C_Parting dx [("blocks",.ref bl)])):=(((Same.upd hdx).updM hx).updM hbl0).updM hx
 generalize upd (upd (upd (upd H dx (.own x)) x (.ins t.C_Parting dx [])) bl (.lst [])) x (.ins t.C_Parting dx [("blocks",.ref bl)])=H2 at *
 obtain ⟨dx2,ob2⟩:=hQ.ob
 refine bw ob2 rfl ⟨_,bl,[],hQ,by decide,fun H3 sx3 hP3=>?_⟩
 have n0:∀c o,H c=some o->c≠bl:=fun c o e=>ai e hbl0
 have s3:Same H H3:=fun c o e=>sx3 c o (s2 _ _ e) (n0 c o e)
 obtain ⟨dx3,ob3⟩:=hP3.ob
 obtain ⟨dp,obp⟩:=hP.ob
 refine bw ob3 rfl ?_
 refine ga (s3 _ _ obp) T.c_Program.cl T.n_Program_rows rfl ?_
 simp_arith [mw,eM]
 intro a4 ha4 e4 he4 q4 hq4
 obtain ⟨xs3,hbl3,_⟩:=hP3.bs
 obtain ⟨sm,hb4⟩:=eX (K:=K) (N:=fun c=>H c=none) (ed:=.stop) (ds:=[]) hbl3 (hP3.nw _ ha4) ha4 .nil he4 hq4
 rw [show d4 .stop=[V.str "stop"] from rfl] at sm hb4
 have hP4:=hP3.same sm
 have s4:=s3.trans sm
 generalize upd (upd (upd H3 a4 _) e4 _) q4 _=G at sm hb4 hP4 s4 ⊢
 have nf:bl∉g:=fun z=>by obtain ⟨zs,hz⟩:=hP.st.tracked bl z;rw [hbl0] at hz;cases hz
 refine ⟨_,bl,_,_,ys,ss,g,hP4,hb4,s4 _ _ hP.rs,hP.st.same s4,n0 _ _ hP.rs,nf,hd,by simp;omega,by simp,fun y H5 sx5 hP5 hb5 _=>?_⟩
 rw [List.nil_append] at hP5 hb5
 have eB:FZ.bU ss=(FZ.aL ss ⟨[],.stop⟩ [⟨[],.stop⟩]).2.set 0 (FZ.aL ss ⟨[],.stop⟩ [⟨[],.stop⟩]).1:=rfl
 have ho:=FZ.bQ ss ⟨[],.stop⟩ [⟨[],.stop⟩]
 generalize FZ.aL ss ⟨[],.stop⟩ [⟨[],.stop⟩]=o at *
 have s5:Same H H5:=fun c o e=>sx5 c o (s4 _ _ e) (n0 c o e)
 obtain ⟨dx5,ob5⟩:=hP5.ob
 obtain ⟨xs5,hbl5,hxs5⟩:=hP5.bs
 have lx5:=hxs5.length
 rw [List.length_singleton] at ho
 refine ga ob5 T.c_Parting.cl T.n_Parting_blocks rfl ?_
 refine ⟨bl,xs5,_,0,rfl,rfl,hbl5,FL.mh (k:=0) (by omega),?_⟩
 have sx6:SameX bl H5 (upd H5 bl (.lst (xs5.set 0 y))):=SameX.upd
 refine ga (sx6 _ _ ob5 hP5.ne) T.c_Parting.cl T.n_Parting_blocks rfl ?_
 refine q bl _ _ (fun c o e=>sx6 c o (s5 _ _ e) (n0 c o e)) hbl0 ae ?_
 rw [eB]
 exact FL.Paired.put (hb5.sx sx6 hbl5) _ (FL.Paired.imp hxs5 fun y _ c _ h=>h.sx sx6 hbl5)
end
end K50
variable {E:XK} {H:Hp} {Q:VK}
namespace K50
open PySem L2 PyProof.Rows FD FB FS FO FR
def v7(K:PySem.W.Frag)(o:Opd)(a:Addr)(top:Int)(H:Hp)(Q:VK):Prop:=∃(ns:List Str)(wd:Int),top=1 * 2 ^ wd.toNat/\SqL K H a (ns.map V.str)/\Opd.good ns wd o/\Q (.bl true) H
def xF(K:PySem.W.Frag):Sp:=fun vs H Q _=>∃(o:Opd)(a:Addr)(top:Int),vs=[o.v,.ref a,.int top]/\v7 K o a top H Q
def mZ(K:PySem.W.Frag)(q:Addr)(a:Addr)(top:Int)(H:Hp)(Q:VK):Prop:=∃(ns:List Str)(wd:Int)(d:Deed),top=1 * 2 ^ wd.toNat/\SqL K H a (ns.map V.str)/\SqT K H q d.vs/\d.fine/\Deed.good ns wd d/\∀H',Same H H'->Q (.bl true) H'
def pJ(K:PySem.W.Frag):Sp:=fun vs H Q _=>∃(q:Addr)(a:Addr)(top:Int),vs=[.ref q,.ref a,.int top]/\mZ K q a top H Q
def rA(K:PySem.W.Frag)(q:Addr)(a:Addr)(m:Int)(H:Hp)(Q:VK):Prop:=∃(ns:List Str)(n:Nat)(e:FZ.Ed),m=n/\SqL K H a (ns.map V.str)/\SqT K H q (d4 e)/\(∀i∈e.tg,i < n)/\(∀n i j,e=.choose n i j->n∈ns)/\∀H',Same H H'->Q (.bl true) H'
def sU(K:PySem.W.Frag):Sp:=fun vs H Q _=>∃(q:Addr)(a:Addr)(m:Int),vs=[.ref q,.ref a,.int m]/\rA K q a m H Q
section
variable {P:Program} {w:World} {K:PySem.W.Frag} {mg:Str->Option Value} {base:Heap} {t:Ad}
theorem sh{o:FB.Opd}{Q:VK}(h:Q (.bl (ib o.v)) H):cf K [o.v,.ty "str"] H Q:=by
 cases o with
 | box n=>exact ⟨_,_,_,rfl,by decide +kernel,.str,h⟩
 | word i=>exact ⟨_,_,_,rfl,by decide +kernel,.int,h⟩
theorem oH{o:Opd}{a:Addr}{top:Int}:xF K [o.v,.ref a,.int top] H Q E=v7 K o a top H Q:=
 propext ⟨by
  rintro ⟨o',_,_,e,q⟩
  have e2:o=o':=by
   injection e with e1 _
   cases o <;> cases o' <;> first | (injection e1 with e1;rw [e1]) | cases e1
  subst e2
  injection e with _ e
  cases e
  exact q,fun q=>⟨o,a,top,rfl,q⟩⟩
theorem sJ{q a:Addr}{top:Int}:pJ K [.ref q,.ref a,.int top] H Q E=mZ K q a top H Q:=propext ⟨by rintro ⟨_,_,_,e,q⟩;cases e;exact q,fun q=>⟨_,_,_,rfl,q⟩⟩
theorem wW{q a:Addr}{m:Int}:sU K [.ref q,.ref a,.int m] H Q E=rA K q a m H Q:=propext ⟨by rintro ⟨_,_,_,e,q⟩;cases e;exact q,fun q=>⟨_,_,_,rfl,q⟩⟩
theorem gf{n:Str}{ns:List Str}(h:n∈ns):inV (.str n) (ns.map V.str)=true:=by
 unfold inV
 rw [List.any_map,List.any_eq_true]
 exact ⟨n,h,by simp [eqV]⟩
theorem Bf(T:Txt K mg t):FnOk P w K mg base CX0 2 t.f__law_fine_operand t.e__law_fine_operand ["_law_found","_law_names_here","_law_top"] (xF K):=by
 have G__law_whole:=oq (P:=P) (w:=w) (base:=base) T
 refine T.d__law_fine_operand.F.ok eQ (fun vs H Q E h=>by obtain ⟨_,_,_,rfl,_⟩:=h;rfl) (fun cdv A outer s H vs Q E hr h=>?_)
 obtain ⟨o,a,top,rfl,ns,wd,rfl,ha,ho,q⟩:=h
 refine ⟨_,
   (XSs.h
   (af
    (aD (b8 (aq bD gl T.z_isinstance boot_isinstance (aa (yqv 0 vl) (aa (bI (v:=.ty "str") gl T.z_str boot_str rfl) ac))))
     (ag
      (ao (aY bY (yqv 0 vl) (yqv 1 vl) rfl)))
     ay)
   (ag
    (ao (cq (am T.d__law_whole G__law_whole (hr.mono (by first | decide | omega)) (aa (yqv 0 vl) ac) gl) (cq (aY yx ad (yqv 0 vl) (ax _)) (cM (aY fW (yqv 0 vl) (yqv 2 vl) (ax _))))))))),?_⟩
 rw [show aG _ [o.v,V.ref a,V.int (1 * 2 ^ wd.toNat)]=[some o.v,some (.ref a),some (.int (1 * 2 ^ wd.toNat))] from rfl]
 simp_arith []
 refine sh ⟨_,rfl,?_⟩
 cases o with
 | box n=>
  rw [if_pos (by rfl)]
  refine ⟨_,.inl ha,rfl,by simp [bz],?_⟩
  have hi:inV (Opd.box n).v (ns.map V.str)=true:=gf ho
  rw [hi];exact q
 | word i=>
  have ho':0<=i/\i < 2 ^ wd.toNat:=ho
  rw [show ib (Opd.word i).v=false from rfl,if_neg Bool.false_ne_true,show (Opd.word i).v=.int i from rfl]
  simp_arith [ij]
  rw [if_pos trivial,if_pos (by simpa using ho'.1)]
  have e:decide (i < 1 * 2 ^ wd.toNat)=true:=by simpa using ho'.2
  rw [e];exact q
theorem mf{p:Addr}{xs:List V}{H:Hp}{Q:VK}(hp:SqT K H p xs)(h:Q (.bl true) H):cf K [.ref p,.ty "tuple"] H Q:=⟨_,_,_,rfl,by decide +kernel,.tup hp,h⟩
theorem sg{p:Addr}{xs:List V}{H:Hp}{Q:VK}(hp:SqL K H p xs)(h:Q (.bl true) H):cf K [.ref p,.ty "list"] H Q:=⟨_,_,_,rfl,by decide +kernel,.lst hp,h⟩
theorem iT{n:Str}{Q:VK}(h:Q (.bl true) H):cf K [.str n,.ty "str"] H Q:=⟨_,_,_,rfl,by decide +kernel,.str,h⟩
theorem tS(d:Deed):∃f x l,d.vs=.str f :: x :: l:=by
 cases d with
 | tell a=>exact ⟨_,_,_,rfl⟩
 | copy n a=>exact ⟨_,_,_,rfl⟩
 | op f n a c=>exact ⟨_,_,_,rfl⟩
theorem tT{ns:List Str}{wd:Int}{d:Deed}(h:Deed.good ns wd d):(∃o,d=.tell o)\/∃(f n:Str)(os:List Opd),d.vs=.str f :: .str n :: os.map Opd.v/\¬f="tell"/\n∈ns/\(∀o∈os,Opd.good ns wd o)/\((f="copy"/\os.length=1)\/(¬f="copy"/\f∈opsL/\os.length=2)):=by
 cases d with
 | tell a=>exact .inl ⟨a,rfl⟩
 | copy n a=>exact .inr ⟨_,n,[a],rfl,by decide +kernel,h.1,fun o ho=>by rw [List.mem_singleton.mp ho];exact h.2,.inl ⟨rfl,rfl⟩⟩
 | op f n a c=>
  obtain ⟨h1,h2,h3,h4⟩:=h
  have hne:¬f="tell"/\¬f="copy":=by
   refine ⟨?_,?_⟩ <;> (rintro rfl;revert h1;decide +kernel)
  refine .inr ⟨f,n,[a,c],rfl,hne.1,h2,fun o ho=>?_,.inr ⟨hne.2,h1,rfl⟩⟩
  rcases List.mem_cons.mp ho with z | z
  ·rw [z];exact h3
  ·rw [List.mem_singleton.mp z];exact h4
theorem vO(T:Txt K mg t):FnOk P w K mg base CX0 3 t.f__law_fine_deed t.e__law_fine_deed ["_law_found","_law_names_here","_law_top"] (pJ K):=by
 have G__law_fine_operand:=Bf (P:=P) (w:=w) (base:=base) T
 refine T.d__law_fine_deed.F.ok sc__law_fine_deed (fun vs H Q E h=>by obtain ⟨_,_,_,rfl,_⟩:=h;rfl) (fun cdv A outer s H vs Q E hr h=>?_)
 obtain ⟨p,a,top,rfl,ns,wd,d,rfl,ha,hp,hf,hd,q⟩:=h
 refine ⟨_,
   (XSs.h
   (bj
    (aD (bG (bH (bu (b8 (aq bD gl T.z_isinstance boot_isinstance (aa (yqv 0 vl) (aa (bI (v:=.ty "tuple") gl T.z_tuple boot_tuple rfl) ac))))) (bH (ap fW (aq au gl T.z_len PySem.boot_len (aa (yqv 0 vl) ac)) ad (ax _)) (bT (bu (b8 (aq bD gl T.z_isinstance boot_isinstance (aa (aj aw (yqv 0 vl) ad (fun _ _=>rfl)) (aa (bI (v:=.ty "str") gl T.z_str boot_str rfl) ac)))))))))
     (ag
      (ao bL))
     ay)
   (af
    (aD (ap aV (aj aw (yqv 0 vl) ad (fun _ _=>rfl)) aC (ax _))
     (ag
      (ao (cq (aY aV (aq au gl T.z_len PySem.boot_len (aa (yqv 0 vl) ac)) ad (ax _)) (cM (am T.d__law_fine_operand G__law_fine_operand (hr.mono (by first | decide | omega)) (aa (aj aw (yqv 0 vl) ad (fun _ _=>rfl)) (aa (yqv 1 vc) (aa (yqv 2 vc) ac))) gl)))))
     ay)
   (bj
    (aD (ap aV (aj aw (yqv 0 vl) ad (fun _ _=>rfl)) aC (ax _))
     (ag
      (aD (ap jq (aq au gl T.z_len PySem.boot_len (aa (yqv 0 vl) ac)) ad (ax _))
       (ag
        (ao bL))
       ay))
     (ag
      (aD (bG (bH (ap cG (aj aw (yqv 0 vl) ad (fun _ _=>rfl)) (aI (c5 (by rfl))) rfl) (bT (ap jq (aq au gl T.z_len PySem.boot_len (aa (yqv 0 vl) ac)) ad (ax _)))))
       (ag
        (ao bL))
       ay)))
   (af
    (ce (i:=3) sc__law_fine_deed.nd rfl ll rfl (by kernel_rfl) (tns:=["_law_operand_here"]) (cns:=["_law_names_here","_law_top"]) (ci:=[1,2]) rfl (CompSc.of (by kernel_rfl)) (iX (bi kr (yqv 0 vl) (bd ad) bW)) (fun _=>(aA (i:=1) (show List.Nodup [(".0":Str),("_law_operand_here":Str),("_law_names_here":Str),("_law_top":Str)] by decide +kernel) rfl ll (Or.inr (by kernel_rfl)))) (fun _=>(da (bu (b8 (am T.d__law_fine_operand G__law_fine_operand (hr.mono (by first | decide | omega)) (aa (yqv 1 vl) (aa (yqv 2 vc) (aa (yqv 3 vc) ac))) gl))))) (fun _=>(yqv 1 vl)))
   (ag
    (ao (cq (aq bD gl T.z_isinstance boot_isinstance (aa (aj aw (yqv 0 vl) ad (fun _ _=>rfl)) (aa (bI (v:=.ty "str") gl T.z_str boot_str rfl) ac))) (cq (aY bY (aj aw (yqv 0 vl) ad (fun _ _=>rfl)) (yqv 1 vc) rfl) (cM (aY aV (aq au gl T.z_len PySem.boot_len (aa (yqv 3 vl) ac)) ad (ax _)))))))))))),?_⟩
 rw [show aG _ [V.ref p,V.ref a,V.int (1 * 2 ^ wd.toNat)]=[some (.ref p),some (.ref a),some (.int (1 * 2 ^ wd.toNat)),none] from rfl]
 simp_arith []
 refine ⟨fun σ H'=>H'=H/\σ=[some (.ref p),some (.ref a),some (.int (1 * 2 ^ wd.toNat)),none],?_,?_⟩
 ·obtain ⟨f,x,l,hd⟩:=tS d
  rw [hd] at hp
  refine mf hp ⟨_,rfl,?_⟩
  rw [if_neg (by decide)]
  refine ⟨_,.inr hp,?_⟩
  rw [if_neg (by simp;omega)]
  refine ⟨_,_,hp,bc (j:=0) rfl,iT ⟨_,rfl,?_⟩⟩
  rw [if_neg (by decide)]
  exact ⟨rfl,rfl⟩
 rintro σ H1 ⟨rfl,rfl⟩
 simp_arith [oH]
 rcases tT hd with ⟨o,rfl⟩ | ⟨f,n,os,ed,f1,hn,hos,hk⟩
 ·refine ⟨_,_,hp,rfl,?_⟩
  simp_arith [oH]
  rw [if_pos (by decide)]
  refine ⟨_,.inr hp,?_⟩
  rw [if_pos (by rfl)]
  refine ⟨_,_,hp,rfl,?_⟩
  rw [oH]
  exact ⟨ns,wd,rfl,ha,hd,q _ (Same.refl _)⟩
 ·rw [ed] at hp
  refine ⟨_,_,hp,bc (j:=0) rfl,?_⟩
  simp_arith [oH]
  rw [if_neg (by simpa using f1)]
  refine ⟨fun σ H'=>Same H1 H'/\σ=[some (.ref p),some (.ref a),some (.int (1 * 2 ^ wd.toNat)),none],?_,?_⟩
  ·refine ⟨_,_,hp,bc (j:=0) rfl,?_⟩
   simp_arith []
   rcases hk with ⟨k1,k2⟩ | ⟨k1,k2,k3⟩
   ·rw [if_pos (by simpa using k1)]
    refine ⟨_,.inr hp,?_⟩
    rw [if_neg (by simp [k2])]
    exact Same.refl _
   ·rw [if_neg (by simpa using k1)]
    refine ⟨_,_,hp,bc (j:=0) rfl,fun p1 hp1=>?_⟩
    have t1:=Same.upd (o:=.lst [V.str "plus",V.str "less",V.str "and",V.str "or",V.str "xor",V.str "below",V.str "same"]) hp1
    refine ⟨_,.inl (SqL.of ae),rfl,rfl,?_⟩
    have hi:inV (.str f) [V.str "plus",V.str "less",V.str "and",V.str "or",V.str "xor",V.str "below",V.str "same"]=true:=gf (ns:=opsL) k2
    rw [hi,if_neg (by decide)]
    refine ⟨_,.inr (t1.seqT hp),?_⟩
    rw [if_neg (by simp [k3])]
    exact t1
  rintro σ H2 ⟨s2,rfl⟩
  simp_arith []
  have l2:1<=os.length/\os.length<=2:=by rcases hk with ⟨_,k⟩ | ⟨_,_,k⟩ <;> omega
  have hc:cR (V.str f :: V.str n :: os.map Opd.v) (some 2) none=os.map Opd.v:=by rw [dg (by decide)];rfl
  refine ⟨_,s2.seqT hp,by simp [HT.sIx],fun p1 hp1=>?_⟩
  rw [hc]
  have t1:=Same.upd (o:=.tup (os.map Opd.v)) hp1
  have s3:=s2.trans t1
  refine ⟨⟨_,SqT.of ae⟩,fun acc hacc bk=>?_⟩
  refine j5 (fun _=>false) id (by rw [sizeLine_eq,List.length_map];omega) (SqT.of ae) hacc (fun x hm H4 Q' s4 h=>?_) (fun _ _ _ _ _ z=>by cases z) ?_
  ·obtain ⟨o,ho,rfl⟩:=List.mem_map.mp hm
   simp_arith [oH]
   exact ⟨ns,wd,rfl,(s3.trans s4).seq ha,hos o ho,_,rfl,h⟩
  ·rw [show List.map id (List.filter (fun _:V=>false) (os.map Opd.v))=[] by simp]
   have t5:=Same.upd (o:=.lst []) hacc
   have s5:=s3.trans t5
   refine ⟨_,_,s5.seqT hp,bc (j:=1) rfl,iT ⟨_,rfl,?_⟩⟩
   rw [if_pos rfl]
   refine ⟨_,_,s5.seqT hp,bc (j:=1) rfl,?_⟩
   refine ⟨_,.inl (s5.seq ha),rfl,by simp [bz],?_⟩
   have hi:inV (.str n) (ns.map V.str)=true:=gf hn
   rw [hi,if_pos rfl]
   exact ⟨_,.inl (SqL.of ae),q _ s5⟩
theorem z6(T:Txt K mg t):FnOk P w K mg base CX0 2 t.f__law_fine_ending t.e__law_fine_ending ["_law_found","_law_names_here","_law_many_here"] (sU K):=by
 have G__law_whole:=oq (P:=P) (w:=w) (base:=base) T
 refine T.d__law_fine_ending.F.ok ft (fun vs H Q E h=>by obtain ⟨_,_,_,rfl,_⟩:=h;rfl) (fun cdv A outer s H vs Q E hr h=>?_)
 obtain ⟨p,a,m,rfl,ns,n,e,rfl,ha,hp,ht,hn,q⟩:=h
 refine ⟨_,
   (XSs.h
   (bj
    (aD (bG (bH (bu (b8 (aq bD gl T.z_isinstance boot_isinstance (aa (yqv 0 vl) (aa (bI (v:=.ty "tuple") gl T.z_tuple boot_tuple rfl) ac))))) (bH (ap aV (aq au gl T.z_len PySem.boot_len (aa (yqv 0 vl) ac)) ad (ax _)) (bT (bu (b8 (aq bD gl T.z_isinstance boot_isinstance (aa (aj aw (yqv 0 vl) ad (fun _ _=>rfl)) (aa (bI (v:=.ty "str") gl T.z_str boot_str rfl) ac)))))))))
     (ag
      (ao bL))
     ay)
   (af
    (aD (ap aV (aj aw (yqv 0 vl) ad (fun _ _=>rfl)) aC (ax _))
     (ag
      (ao (aY aV (aq au gl T.z_len PySem.boot_len (aa (yqv 0 vl) ac)) ad (ax _))))
     ay)
   (af
    (aD (ap aV (aj aw (yqv 0 vl) ad (fun _ _=>rfl)) aC (ax _))
     (ag
      (ao (cq (aY aV (aq au gl T.z_len PySem.boot_len (aa (yqv 0 vl) ac)) ad (ax _)) (cq (am T.d__law_whole G__law_whole (hr.mono (by first | decide | omega)) (aa (aj aw (yqv 0 vl) ad (fun _ _=>rfl)) ac) gl) (cq (aY yx ad (aj aw (yqv 0 vl) ad (fun _ _=>rfl)) (ax _)) (cM (aY fW (aj aw (yqv 0 vl) ad (fun _ _=>rfl)) (yqv 2 vc) (ax _))))))))
     ay)
   (af
    (aD (bG (bH (ap jq (aj aw (yqv 0 vl) ad (fun _ _=>rfl)) aC (ax _)) (bH (ap jq (aq au gl T.z_len PySem.boot_len (aa (yqv 0 vl) ac)) ad (ax _)) (bH (bu (b8 (aq bD gl T.z_isinstance boot_isinstance (aa (aj aw (yqv 0 vl) ad (fun _ _=>rfl)) (aa (bI (v:=.ty "str") gl T.z_str boot_str rfl) ac))))) (bT (ap cG (aj aw (yqv 0 vl) ad (fun _ _=>rfl)) (yqv 1 vl) rfl))))))
     (ag
      (ao bL))
     ay)
   (ag
    (ao (aY aV (aq au gl T.z_len PySem.boot_len (aa (b7 (tns:=["_law_k"]) (cns:=["_law_many_here"]) (ci:=[2]) rfl (CompSc.of (by kernel_rfl)) (iX (bi kr (yqv 0 vl) (bd ad) bW)) (fun _=>(aA (i:=1) (show List.Nodup [(".0":Str),("_law_k":Str),("_law_many_here":Str)] by decide +kernel) rfl ll (Or.inr (by kernel_rfl)))) (fun _=>(da (bG (bH (bu (b8 (am T.d__law_whole G__law_whole (hr.mono (by first | decide | omega)) (aa (yqv 1 vl) ac) gl))) (bH (ap fW (yqv 1 vl) ad (ax _)) (bT (ap yw (yqv 1 vl) (yqv 2 vc) (ax _)))))))) (fun _=>(yqv 1 vl))) ac)) ad (ax _))))))))),?_⟩
 rw [show aG _ [V.ref p,V.ref a,V.int n]=[some (.ref p),some (.ref a),some (.int n)] from rfl]
 simp_arith []
 refine ⟨fun σ H'=>H'=H/\σ=[some (.ref p),some (.ref a),some (.int n)],?_,?_⟩
 ·obtain ⟨f,l,hd⟩:∃f l,d4 e=.str f :: l:=by cases e <;> exact ⟨_,_,rfl⟩
  rw [hd] at hp
  refine mf hp ⟨_,rfl,?_⟩
  rw [if_neg (by decide)]
  refine ⟨_,.inr hp,?_⟩
  rw [if_neg (by simp;omega)]
  refine ⟨_,_,hp,bc (j:=0) rfl,iT ⟨_,rfl,?_⟩⟩
  rw [if_neg (by decide)]
  exact ⟨rfl,rfl⟩
 rintro σ H1 ⟨rfl,rfl⟩
 simp_arith []
 cases e with
 | stop=>
  refine ⟨_,_,hp,rfl,?_⟩
  simp_arith []
  rw [if_pos (by decide)]
  exact ⟨_,.inr hp,q _ (Same.refl _)⟩
 | go i=>
  have hi:i < n:=ht i (by simp [FZ.Ed.tg])
  refine ⟨_,_,hp,rfl,?_⟩
  simp_arith []
  rw [if_neg (by decide +kernel)]
  refine ⟨_,_,hp,rfl,?_⟩
  simp_arith []
  rw [if_pos (by decide)]
  refine ⟨_,.inr hp,?_⟩
  rw [if_pos (by rfl)]
  refine ⟨_,_,hp,rfl,?_⟩
  simp_arith [ij]
  rw [if_pos trivial]
  refine ⟨_,_,hp,rfl,?_⟩
  simp_arith []
  rw [if_pos (by simp)]
  refine ⟨_,_,hp,rfl,?_⟩
  simp_arith []
  have e:decide ((i:Int) < n)=true:=by simpa using hi
  rw [e]
  exact q _ (Same.refl _)
 | choose m i j=>
  have hi:i < n:=ht i (by simp [FZ.Ed.tg])
  have hj:j < n:=ht j (by simp [FZ.Ed.tg])
  have hm:=hn m i j rfl
  refine ⟨_,_,hp,rfl,?_⟩
  simp_arith []
  rw [if_neg (by decide +kernel)]
  refine ⟨_,_,hp,rfl,?_⟩
  simp_arith []
  rw [if_neg (by decide +kernel)]
  refine ⟨_,_,hp,rfl,?_⟩
  simp_arith []
  rw [if_neg (by decide)]
  refine ⟨_,.inr hp,?_⟩
  rw [if_neg (by simp [d4])]
  refine ⟨_,_,hp,rfl,iT ⟨_,rfl,?_⟩⟩
  rw [if_neg (by decide)]
  refine ⟨_,_,hp,rfl,_,.inl ha,rfl,by simp [bz],?_⟩
  have hi2:inV (.str m) (ns.map V.str)=true:=gf hm
  rw [hi2,if_neg (by decide)]
  have hc:cR (d4 (.choose m i j)) (some 2) none=[.int i,.int j]:=by rw [dg (by decide)];rfl
  refine ⟨_,hp,by simp [HT.sIx,d4],fun p1 hp1=>?_⟩
  rw [hc]
  have t1:=Same.upd (o:=.tup [V.int i,V.int j]) hp1
  refine ⟨⟨_,SqT.of ae⟩,fun acc hacc bk=>?_⟩
  refine j5 (fun _=>false) id (by rw [sizeLine_eq];simp) (SqT.of ae) hacc (fun x hx H4 Q' s4 h=>?_) (fun _ _ _ _ _ z=>by cases z) ?_
  ·obtain ⟨k,hk,rfl⟩:∃k:Nat,k < n/\x=.int k:=by
    rcases List.mem_cons.mp hx with z | z
    ·exact ⟨i,hi,z⟩
    ·exact ⟨j,hj,List.mem_singleton.mp z⟩
   simp_arith [ij]
   rw [if_neg (by simp),decide_eq_false (by omega)]
   exact h
  ·rw [show List.map id (List.filter (fun _:V=>false) [V.int i,V.int j])=[] by simp]
   have t5:=Same.upd (o:=.lst []) hacc
   exact ⟨_,.inl (SqL.of ae),q _ (t1.trans t5)⟩
end
structure DrN(K:PySem.W.Frag)(H:Hp)(q:Addr)(wd:Int)(ins oth:List Str)(pr:Addr):Prop where
 ex:∃pi po,SqT K H q [.int wd,.ref pi,.ref po,.ref pr]/\H pi=some (.lst (ins.map V.str))/\H po=some (.lst (oth.map V.str))
 few:(ins ++ oth).length<=8
 w1:1<=wd
 w8:wd<=8
def rB(K:PySem.W.Frag)(bl:Addr)(q:Addr)(H:Hp)(Q:VK):Prop:=∃(N:Addr->Prop)(xs:List V)(B:List FZ.Blk)(wd:Int)(ins oth:List Str)(pr:Addr),H bl=some (.lst xs)/\Paired (BlkV K N H bl) xs B/\FZ.fX (ins ++ oth) wd B.length B/\0 < B.length/\B.length<=5000/\DrN K H q wd ins oth pr/\∀H',Same H H'->Q (.bl true) H'
def sW(K:PySem.W.Frag):Sp:=fun vs H Q _=>∃(bl:Addr)(q:Addr),vs=[.ref bl,.ref q]/\rB K bl q H Q
section
variable {P:Program} {w:World} {K:PySem.W.Frag} {mg:Str->Option Value} {base:Heap} {t:Ad}
theorem BT{bl q:Addr}{H:Hp}{Q:VK}{E:XK}:sW K [.ref bl,.ref q] H Q E=rB K bl q H Q:=propext ⟨by rintro ⟨_,_,e,q⟩;cases e;exact q,fun q=>⟨_,_,rfl,q⟩⟩
theorem z7(T:Txt K mg t):FnOk P w K mg base CX0 4 t.f__law_fine t.e__law_fine ["_law_found","_law_drawn_here"] (sW K):=by
 have G__law_fine_deed:=vO (P:=P) (w:=w) (base:=base) T
 have G__law_fine_ending:=z6 (P:=P) (w:=w) (base:=base) T
 refine T.d__law_fine.F.ok sc__law_fine (fun vs H Q E h=>by obtain ⟨_,_,rfl,_⟩:=h;rfl) (fun cdv A outer s H vs Q E hr h=>?_)
 obtain ⟨bl,p,rfl,N,xs,B,wd,ins,oth,pr,hbl,hxs,hG,b0,b1,hD,q⟩:=h
 refine ⟨_,
   (XSs.h
   (af
    (ar (i:=2) sc__law_fine.nd rfl ll (ak fU (aj aw (yqv 1 vl) ad (fun _ _=>rfl)) (aj aw (yqv 1 vl) ad (fun _ _=>rfl))))
   (bj
    (aD (bG (bH (bu (b8 (aq bD gl T.z_isinstance boot_isinstance (aa (yqv 0 vl) (aa (bI (v:=.ty "list") gl T.z_list boot_list rfl) ac))))) (bT (ap aV (aq au gl T.z_len PySem.boot_len (aa (yqv 0 vl) ac)) ad (ax _)))))
     (ag
      (ao bL))
     ay)
   (af
    (bB PassesOwn.never rfl (aO (yqv 0 vl)) (aA (i:=3) sc__law_fine.nd rfl ll)
     (bj
      (aD (bG (bH (bu (b8 (aq bD gl T.z_isinstance boot_isinstance (aa (yqv 3 vl) (aa (bI (v:=.ty "tuple") gl T.z_tuple boot_tuple rfl) ac))))) (bH (ap jq (aq au gl T.z_len PySem.boot_len (aa (yqv 3 vl) ac)) ad (ax _)) (bT (bu (b8 (aq bD gl T.z_isinstance boot_isinstance (aa (aj aw (yqv 3 vl) ad (fun _ _=>rfl)) (aa (bI (v:=.ty "list") gl T.z_list boot_list rfl) ac)))))))))
       (ag
        (ao bL))
       ay)
     (bj
      (bB PassesOwn.never rfl (aO (aj aw (yqv 3 vl) ad (fun _ _=>rfl))) (aA (i:=4) sc__law_fine.nd rfl ll)
       (ag
        (aD (bu (b8 (am T.d__law_fine_deed G__law_fine_deed (hr.mono (by first | decide | omega)) (aa (yqv 4 vl) (aa (yqv 2 vl) (aa (ak iY ad (aj aw (yqv 1 vl) ad (fun _ _=>rfl))) ac))) gl)))
         (ag
          (ao bL))
         ay)))
     (ag
      (aD (bu (b8 (am T.d__law_fine_ending G__law_fine_ending (hr.mono (by first | decide | omega)) (aa (aj aw (yqv 3 vl) ad (fun _ _=>rfl)) (aa (yqv 2 vl) (aa (aq au gl T.z_len PySem.boot_len (aa (yqv 0 vl) ac)) ac))) gl)))
       (ag
        (ao bL))
       ay)))))
   (ag
    (ao bL)))))),?_⟩
 rw [show aG _ [V.ref bl,V.ref p]=[some (.ref bl),some (.ref p),none,none,none] from rfl]
 simp_arith []
 obtain ⟨pi,po,hq,hi,ho⟩:=hD.ex
 have hfew:=hD.few
 rw [List.length_append] at hfew
 refine ⟨_,_,hq,rfl,_,_,hq,rfl,pi,po,_,_,rfl,rfl,hi,ho,by rw [List.length_map,List.length_map,sizeLine_eq];omega,fun pn hpn=>?_⟩
 have t1:=Same.upd (o:=.lst (ins.map V.str ++ oth.map V.str)) hpn
 have en:upd H pn (.lst (ins.map V.str ++ oth.map V.str)) pn=some (.lst ((ins ++ oth).map V.str)):=by rw [ae,List.map_append]
 generalize upd H pn _=H1 at t1 en ⊢
 have lx:=hxs.length
 refine ⟨fun σ H'=>H'=H1/\σ=[some (.ref bl),some (.ref p),some (.ref pn),none,none],?_,?_⟩
 ·refine sg (SqL.of (t1 _ _ hbl)) ⟨_,rfl,?_⟩
  rw [if_neg (by decide)]
  refine ⟨_,.inl (SqL.of (t1 _ _ hbl)),?_⟩
  rw [if_neg (by simp;intro z;rw [z] at lx;simp at lx;omega)]
  exact ⟨rfl,rfl⟩
 rintro σ H2 ⟨rfl,rfl⟩
 simp_arith []
 refine ⟨⟨_,SqL.of (t1 _ _ hbl)⟩,?_⟩
 refine cv (xs:=xs) (fun i σ H'=>Same H2 H'/\∃o3 o4,σ=[some (.ref bl),some (.ref p),some (.ref pn),o3,o4]) ⟨Same.refl _,_,_,rfl⟩ (fun i σ H' _ h=>SqL.of (h.1 _ _ (t1 _ _ hbl))) ?_ ?_
 ·rintro i x σ H3 hx ⟨s3,o3,o4,rfl⟩
  obtain ⟨b,hb,hbv⟩:=Paired.get hxs hx
  have s03:=t1.trans s3
  have hg:=hG b (List.mem_of_getElem? hb)
  obtain ⟨qb,ab,eb,vs,rfl,v1,v2,v3,v4,v5,v6⟩:=hbv.same s03
  simp_arith []
  refine ⟨fun σ H'=>H'=H3/\σ=[some (.ref bl),some (.ref p),some (.ref pn),some (.ref qb),o4],?_,?_⟩
  ·refine mf (SqT.of v1) ⟨_,rfl,?_⟩
   rw [if_neg (by decide)]
   refine ⟨_,.inr (SqT.of v1),?_⟩
   rw [if_neg (by simp)]
   refine ⟨_,_,SqT.of v1,rfl,sg (SqL.of v2) ⟨_,rfl,?_⟩⟩
   rw [if_neg (by decide)]
   exact ⟨rfl,rfl⟩
  rintro σ H4 ⟨rfl,rfl⟩
  simp_arith []
  refine ⟨fun σ H'=>Same H4 H'/\∃o4,σ=[some (.ref bl),some (.ref p),some (.ref pn),some (.ref qb),o4],?_,?_⟩
  ·refine ⟨_,_,SqT.of v1,rfl,_,rfl,⟨_,SqL.of v2⟩,?_⟩
   refine cv (xs:=vs) (fun i σ H'=>Same H4 H'/\∃o4,σ=[some (.ref bl),some (.ref p),some (.ref pn),some (.ref qb),o4]) ⟨Same.refl _,_,rfl⟩ (fun i σ H' _ h=>SqL.of (h.1 _ _ v2)) ?_ ?_
   ·rintro j y σ H5 hy ⟨s5,o4,rfl⟩
    obtain ⟨d,hd,q0,rfl,hq0,hf⟩:=Paired.get v3 hy
    have s05:=s03.trans s5
    simp_arith [sJ]
    refine ⟨_,_,s05.seqT hq,rfl,?_⟩
    have hw1:=hD.w1
    have hw8:=hD.w8
    simp_arith [sJ]
    refine ⟨⟨by omega,by omega,by decide⟩,?_⟩
    refine ⟨ins ++ oth,wd,d,rfl,SqL.of (s5 _ _ (s3 _ _ en)),s5.seqT hq0,hf,hg.gd d (List.mem_of_getElem? hd),fun H6 s6=>⟨_,rfl,?_⟩⟩
    rw [if_neg (by decide)]
    exact ⟨s5.trans s6,_,rfl⟩
   ·rintro σ H5 ⟨s5,o4,rfl⟩
    exact ⟨s5,_,rfl⟩
  rintro σ H5 ⟨s5,o4,rfl⟩
  have s05:=s03.trans s5
  simp_arith [wW]
  refine ⟨_,_,SqT.of (s5 _ _ v1),rfl,xs,.inl (SqL.of (s05 _ _ hbl)),?_⟩
  rw [wW]
  refine ⟨ins ++ oth,B.length,b.ed,by rw [lx],SqL.of (s5 _ _ (s3 _ _ en)),SqT.of (s5 _ _ v4),hg.tg,hg.nm,fun H6 s6=>⟨_,rfl,?_⟩⟩
  rw [if_neg (by decide)]
  exact ⟨s3.trans (s5.trans s6),_,_,rfl⟩
 ·rintro σ H3 ⟨s3,o3,o4,rfl⟩
  simp_arith []
  exact q _ (t1.trans s3)
end
section
variable {K:PySem.W.Frag} {te:TE} {ci:List Nat} {σ:L2.St} {acc:Addr} {Q:Hp->Prop} {H1:Hp} {a:Addr} {xs:List V}
theorem rM(fs:List V)(hz:xs.length<=sizeLine)(hlen:xs.length=fs.length)(hl:SqT K H1 a xs)(hacc:H1 acc=none)
  (hf:∀(i:Nat)x y,xs[i]?=some x->fs[i]?=some y->∀H Q',Same H1 H->(∀H',Same H H'->Q' y H')->te (az [some x] ci σ) H Q')
  (q:∀H,Same H1 H->H acc=some (.lst fs)->Q H):bC (Itt K a) (aQ 1) fu te 1 ci σ acc Q (upd H1 acc (.lst [])):=by
 refine vf (fun i ys H=>ys=fs.take i/\Same H1 H/\H acc=some (.lst ys)) ⟨by simp,Same.upd hacc,ae⟩ (fun i ys H _ h=>h.2.1.seqT hl) ?_ ?_
 ·rintro i x ys H os hi ho ⟨rfl,sm,ha⟩
  have hi':i < fs.length:=by have:=(List.getElem?_eq_some_iff.mp hi).1;omega
  have e:(az os ci σ).set 1 (some x)=az [some x] ci σ:=by
   match os,ho with
   | [o],_=>rfl
  show (∃os',os'.length=1/\(az os ci σ).set 1 (some x)=az os' ci σ)/\fu ((az os ci σ).set 1 (some x)) H _
  rw [e]
  refine ⟨⟨[some x],rfl,rfl⟩,?_⟩
  unfold fu
  dsimp only
  rw [if_pos rfl]
  refine hf i x fs[i] hi (List.getElem?_eq_getElem hi') _ _ sm fun H3 s3=>⟨s3 _ _ ha,by rw [List.length_take];omega,(List.take_succ_eq_append_getElem hi').symm,(sm.trans s3).updM hacc,ae⟩
 ·rintro ys H ⟨rfl,sm,ha⟩
  rw [hlen,List.take_length] at ha
  exact q H sm ha
end
def ni(K:PySem.W.Frag)(d:Nat)(a:Addr)(H:Hp)(Q:VK):Prop:=∃(xs:List V)(ss:List Stm)(f:List Addr),H a=some (.lst xs)/\StmsV K H xs ss f/\bo ss < d/\∀H',Same H H'->Q (.int (aK ss)) H'
def gY(K:PySem.W.Frag)(d:Nat):Sp:=fun vs H Q _=>∃a:Addr,vs=[.ref a]/\ni K d a H Q
section
variable {P:Program} {w:World} {K:PySem.W.Frag} {mg:Str->Option Value} {base:Heap} {t:Ad}
theorem cI{d:Nat}{a:Addr}{H:Hp}{Q:VK}{E:XK}:gY K d [.ref a] H Q E=ni K d a H Q:=propext ⟨by rintro ⟨_,e,q⟩;cases e;exact q,fun q=>⟨_,rfl,q⟩⟩
theorem qD(T:Txt K mg t)(d:Nat)(G__law_many:FnOk P w K mg base CX0 (d+1) t.f__law_many t.e__law_many ["_law_rows"] (gY K d)):FnOk P w K mg base CX0 (d+2) t.f__law_many t.e__law_many ["_law_rows"] (gY K (d+1)):=by
 refine T.d__law_many.F.ok sc__law_many (fun vs H Q E h=>by obtain ⟨_,rfl,_⟩:=h;rfl) (fun cdv A outer s H vs Q E hr h=>?_)
 obtain ⟨a,rfl,xs,ss,f,ha,hx,hd,q⟩:=h
 refine ⟨_,
   (XSs.h
   (af
    (ar (i:=1) sc__law_many.nd rfl ll ad)
   (af
    (bB PassesOwn.never rfl (aO (yqv 0 vl)) (aA (i:=2) sc__law_many.nd rfl ll)
     (af
      (ar (i:=1) sc__law_many.nd rfl ll (ak aZ (yqv 1 vl) ad))
     (ag
      (aD (bG (bH (ap aV (aj aw (yqv 2 vl) ad (fun _ _=>rfl)) aC (ax _)) (bT (ap aV (aj aw (yqv 2 vl) ad (fun _ _=>rfl)) aC (ax _)))))
       (ag
        (ar (i:=1) sc__law_many.nd rfl ll (ak aZ (yqv 1 vl) (aq (va rfl) gl T.z_sum boot_sum (aa (b7 (tns:=["_law_part"]) (cns:=[]) (ci:=[]) rfl (CompSc.of (by kernel_rfl)) (iX (bi kr (yqv 2 vl) (bd ad) bW)) (fun _=>(aA (i:=1) (show List.Nodup [(".0":Str),("_law_part":Str)] by decide +kernel) rfl ll (Or.inr (by kernel_rfl)))) (fun _=>bN) (fun _=>(am T.d__law_many G__law_many (hr.mono (by first | decide | omega)) (aa (yqv 1 vl) ac) gl))) ac)))))
       ay))))
   (ag
    (ao (yqv 1 vl)))))),?_⟩
 rw [show aG _ [V.ref a]=[some (.ref a),none,none] from rfl]
 simp_arith [cI]
 have lx:=hx.length
 refine ⟨⟨_,SqL.of ha⟩,?_⟩
 refine cv (xs:=xs) (fun i σ H'=>Same H H'/\∃o2,σ=[some (.ref a),some (.int (aK (ss.take i))),o2]) ⟨Same.refl _,_,rfl⟩ (fun i σ H' _ h=>SqL.of (h.1 _ _ ha)) ?_ ?_
 ·rintro i x σ H1 hxi ⟨s1,o2,rfl⟩
  obtain ⟨st,f',hs,hsv,_⟩:=hx.get hxi
  have hi:i < ss.length:=(List.getElem?_eq_some_iff.mp hs).1
  have hse:ss[i]=st:=(List.getElem?_eq_some_iff.mp hs).2
  have hds:=eS (List.mem_of_getElem? hs)
  have em:(aK (ss.take (i+1)):Int)=aK (ss.take i)+st.many:=by
   rw [List.take_succ_eq_append_getElem hi,hse,cF,aK,aK];omega
  have hsv1:=hsv.same s1
  simp_arith [cI]
  cases hsv1 with
  | @deed q0 dd hf hq=>
   simp_arith []
   refine iz hf hq (by decide +kernel) (by decide +kernel) (by decide +kernel) ⟨_,rfl,?_⟩
   rw [if_neg Bool.false_ne_true]
   refine iz hf hq (by decide +kernel) (by decide +kernel) (by decide +kernel) ⟨_,rfl,?_⟩
   rw [if_neg Bool.false_ne_true]
   rw [em,Stm.many]
   exact ⟨s1,_,rfl⟩
  | @ifs q0 a1 c1 n xs1 ys1 ones others f1 g1 hq ha1 hc1 h1 h2=>
   simp only [Stm.deep,Stm.many] at hds em
   simp_arith []
   refine ⟨_,_,hq,rfl,?_⟩
   simp_arith []
   refine aH (fun _=>?_) (fun z=>absurd trivial z)
   rw [if_pos trivial]
   refine ⟨_,hq,by simp [HT.sIx],fun p1 hp1=>?_⟩
   rw [show cR [V.str "if",V.str n,V.ref a1,V.ref c1] (some 2) none=[V.ref a1,V.ref c1] by rw [dg (by decide)];rfl]
   have t1:=Same.upd (o:=.tup [V.ref a1,V.ref c1]) hp1
   refine ⟨⟨_,SqT.of ae⟩,fun acc hacc bk=>?_⟩
   refine rM (xs:=[V.ref a1,V.ref c1]) [.int (aK ones),.int (aK others)] (by rw [sizeLine_eq];simp) rfl (SqT.of ae) hacc (fun j x y hxj hyj H4 Q' s4 h=>?_) (fun H5 s5 e5=>?_)
   ·have s14:=t1.trans s4
    match j,hxj,hyj with
    | 0,hxj,hyj=>
     cases hxj;cases hyj
     simp_arith [cI]
     exact ⟨xs1,ones,f1,s14 _ _ ha1,h1.same s14,by omega,h⟩
    | 1,hxj,hyj=>
     cases hxj;cases hyj
     simp_arith [cI]
     exact ⟨ys1,others,g1,s14 _ _ hc1,h2.same s14,by omega,h⟩
    | k+2,hxj,hyj=>cases hxj
   ·refine ⟨_,[aK ones,aK others],rfl,SqL.of e5,(s1.trans t1).trans s5,some (.ref q0),?_⟩
    rw [em]
    simp only [List.sum_cons,List.sum_nil]
    congr 4
    omega
  | @whl q0 a1 n xs1 rows f1 hq ha1 h1=>
   simp only [Stm.deep,Stm.many] at hds em
   simp_arith []
   refine ⟨_,_,hq,rfl,?_⟩
   simp_arith []
   refine aH (fun z=>absurd z (by decide +kernel)) (fun _=>⟨_,_,hq,rfl,?_⟩)
   simp_arith []
   refine aH (fun _=>?_) (fun z=>absurd trivial z)
   refine ⟨_,hq,by simp [HT.sIx],fun p1 hp1=>?_⟩
   rw [show cR [V.str "while",V.str n,V.ref a1] (some 2) none=[V.ref a1] by rw [dg (by decide)];rfl]
   have t1:=Same.upd (o:=.tup [V.ref a1]) hp1
   refine ⟨⟨_,SqT.of ae⟩,fun acc hacc bk=>?_⟩
   refine rM (xs:=[V.ref a1]) [.int (aK rows)] (by rw [sizeLine_eq];simp) rfl (SqT.of ae) hacc (fun j x y hxj hyj H4 Q' s4 h=>?_) (fun H5 s5 e5=>?_)
   ·have s14:=t1.trans s4
    match j,hxj,hyj with
    | 0,hxj,hyj=>
     cases hxj;cases hyj
     simp_arith [cI]
     exact ⟨xs1,rows,f1,s14 _ _ ha1,h1.same s14,by omega,h⟩
    | k+1,hxj,hyj=>cases hxj
   ·refine ⟨_,[aK rows],rfl,SqL.of e5,(s1.trans t1).trans s5,some (.ref q0),?_⟩
    rw [em]
    simp only [List.sum_cons,List.sum_nil]
    congr 4
    omega
 ·rintro σ H1 ⟨s1,o2,rfl⟩
  simp_arith []
  rw [lx,List.take_length]
  exact q _ s1
theorem om(T:Txt K mg t):∀d,FnOk P w K mg base CX0 (d+1) t.f__law_many t.e__law_many ["_law_rows"] (gY K d)
 | 0=>⟨fun vs H Q E h=>by obtain ⟨_,_,_,_,_,_,_,h,_⟩:=h;omega,fun _ _ _ _ _ _ _ _ _ _ _ _ _ h=>by obtain ⟨_,_,_,_,_,_,_,h,_⟩:=h;omega⟩
 | d+1=>qD T d (om T d)
end
def rF(K:PySem.W.Frag)(d:Nat)(a:Addr)(H:Hp)(Q:VK):Prop:=∃(xs:List V)(ss:List Stm)(f:List Addr),H a=some (.lst xs)/\StmsV K H xs ss f/\bo ss < d/\aK ss<=1000/\
 ∀p ys g H',Same H H'->H' p=some (.lst ys)->StmsV K H' ys ss g->(p :: g).Nodup->(∀c∈p :: g,H c=none)->Q (.ref p) H'
def iW(K:PySem.W.Frag)(d:Nat):Sp:=fun vs H Q _=>∃a:Addr,vs=[.ref a]/\rF K d a H Q
section
variable {P:Program} {w:World} {K:PySem.W.Frag} {mg:Str->Option Value} {base:Heap} {t:Ad}
theorem ii{d:Nat}{a:Addr}{H:Hp}{Q:VK}{E:XK}:iW K d [.ref a] H Q E=rF K d a H Q:=propext ⟨by rintro ⟨_,e,q⟩;cases e;exact q,fun q=>⟨_,rfl,q⟩⟩
theorem uf(T:Txt K mg t)(d:Nat)(G__law_copied:FnOk P w K mg base CX0 (d+1) t.f__law_copied t.e__law_copied ["_law_rows"] (iW K d)):FnOk P w K mg base CX0 (d+2) t.f__law_copied t.e__law_copied ["_law_rows"] (iW K (d+1)):=by
 refine T.d__law_copied.F.ok sc__law_copied (fun vs H Q E h=>by obtain ⟨_,rfl,_⟩:=h;rfl) (fun cdv A outer s H vs Q E hr h=>?_)
 obtain ⟨a,rfl,xs,ss,f,ha,hx,hd,hm,q⟩:=h
 refine ⟨_,
   (XSs.h
   (af
    (ar (i:=1) sc__law_copied.nd rfl ll (aI ac))
   (af
    (bB PassesOwn.never rfl (aO (yqv 0 vl)) (aA (i:=2) sc__law_copied.nd rfl ll)
     (bj
      (aD (ap aV (aj aw (yqv 2 vl) ad (fun _ _=>rfl)) aC (ax _))
       (ag
        (ar (i:=2) sc__law_copied.nd rfl ll (aE (aa aC (aa (aj aw (yqv 2 vl) ad (fun _ _=>rfl)) (aa (am T.d__law_copied G__law_copied (hr.mono (by first | decide | omega)) (aa (aj aw (yqv 2 vl) ad (fun _ _=>rfl)) ac) gl) (aa (am T.d__law_copied G__law_copied (hr.mono (by first | decide | omega)) (aa (aj aw (yqv 2 vl) ad (fun _ _=>rfl)) ac) gl) ac)))))))
       (ag
        (aD (ap aV (aj aw (yqv 2 vl) ad (fun _ _=>rfl)) aC (ax _))
         (ag
          (ar (i:=2) sc__law_copied.nd rfl ll (aE (aa aC (aa (aj aw (yqv 2 vl) ad (fun _ _=>rfl)) (aa (am T.d__law_copied G__law_copied (hr.mono (by first | decide | omega)) (aa (aj aw (yqv 2 vl) ad (fun _ _=>rfl)) ac) gl) ac))))))
         ay)))
     (ag
      (bg (bM PySem.F.plainAttrs_list PySem.F.slot_list_append PySem.F.type_list_append aP (yqv 1 vl) (aa (yqv 2 vl) ac))))))
   (ag
    (ao (yqv 1 vl)))))),?_⟩
 rw [show aG _ [V.ref a]=[some (.ref a),none,none] from rfl]
 simp_arith [ii]
 have lx:=hx.length
 have lm:=gj ss
 intro acc hacc
 refine ⟨⟨_,SqL.of (Same.upd hacc _ _ ha)⟩,?_⟩
 refine cv (xs:=xs) (fun i σ H'=>Same H H'/\∃ys g o2,H' acc=some (.lst ys)/\ys.length=i/\StmsV K H' ys (ss.take i) g/\(acc :: g).Nodup/\(∀c∈acc :: g,H c=none)/\σ=[some (.ref a),some (.ref acc),o2])
  ⟨Same.upd hacc,[],[],_,ae,rfl,.nil,by simp,fun c hc=>by rw [List.mem_singleton.mp hc];exact hacc,rfl⟩ (fun i σ H' _ h=>SqL.of (h.1 _ _ ha)) ?_ ?_
 ·rintro i x σ H1 hxi ⟨s1,ys,g,o2,hacc1,ly,hg,nd,fr,rfl⟩
  obtain ⟨st,f',hs,hsv,_⟩:=hx.get hxi
  have hi:i < ss.length:=(List.getElem?_eq_some_iff.mp hs).1
  have hse:ss[i]=st:=(List.getElem?_eq_some_iff.mp hs).2
  have hds:=eS (List.mem_of_getElem? hs)
  have hmy:=nX (List.mem_of_getElem? hs)
  have hsv1:=hsv.same s1
  simp_arith [ii]
  refine ⟨fun σ H'=>∃y g2,Same H1 H'/\StmV K H' y st g2/\g2.Nodup/\(∀c∈g2,H1 c=none)/\σ=[some (.ref a),some (.ref acc),some y],?_,?_⟩
  ·cases hsv1 with
   | @deed q0 dd hf hq=>
    simp_arith []
    refine iz hf hq (by decide +kernel) (by decide +kernel) (by decide +kernel) ⟨_,rfl,?_⟩
    rw [if_neg Bool.false_ne_true]
    refine iz hf hq (by decide +kernel) (by decide +kernel) (by decide +kernel) ⟨_,rfl,?_⟩
    rw [if_neg Bool.false_ne_true]
    exact ⟨_,[],Same.refl _,.deed hf hq,by simp,(fun c hc=>by cases hc),rfl⟩
   | @ifs q0 a1 c1 n xs1 ys1 ones others f1 g1 hq ha1 hc1 h1 h2=>
    simp only [Stm.deep,Stm.many] at hds hmy
    simp_arith []
    refine ⟨_,_,hq,rfl,?_⟩
    simp_arith []
    refine aH (fun _=>⟨_,_,hq,rfl,_,_,hq,rfl,?_⟩) (fun z=>absurd trivial z)
    simp_arith [ii]
    refine ⟨xs1,ones,f1,ha1,h1,by omega,by omega,fun p1 zs1 g1' H2 s2 e1 k1 nd1 fr1=>⟨_,_,s2.seqT hq,rfl,?_⟩⟩
    simp_arith [ii]
    refine ⟨ys1,others,g1,s2 _ _ hc1,h2.same s2,by omega,by omega,fun p2 zs2 g2 H3 s3 e2 k2 nd2 fr2 p3 hp3=>?_⟩
    have s4:=Same.upd (o:=.tup [V.str "if",V.str n,V.ref p1,V.ref p2]) hp3
    have s23:=s2.trans s3
    refine ⟨_,p1 :: p2 :: (g1' ++ g2),s23.trans s4,.ifs (SqT.of ae) (s4 _ _ (s3 _ _ e1)) (s4 _ _ e2) ((k1.same s3).same s4) (k2.same s4),?_,(fun c hc=>?_),rfl⟩
    ·have dj:∀c∈p1 :: g1',c∉p2 :: g2:=fun c h1 h2=>by
      have ex:∃u,H2 c=some u:=by
       rcases List.mem_cons.mp h1 with z | z
       ·exact ⟨_,by rw [z];exact e1⟩
       ·obtain ⟨u,hu⟩:=k1.tracked c z;exact ⟨_,hu⟩
      obtain ⟨u,hu⟩:=ex
      rw [fr2 c h2] at hu;cases hu
     have n5:=eY nd1 nd2 dj
     refine (List.Perm.nodup_iff ?_).mp n5
     rw [List.cons_append]
     exact .cons _ List.perm_middle
    ·rcases List.mem_cons.mp hc with z | z
     ·rw [z];exact fr1 p1 (by simp)
     rcases List.mem_cons.mp z with z | z
     ·rw [z];exact s2.free (fr2 p2 (by simp))
     rcases List.mem_append.mp z with z | z
     ·exact fr1 c (List.mem_cons_of_mem _ z)
     ·exact s2.free (fr2 c (List.mem_cons_of_mem _ z))
   | @whl q0 a1 n xs1 rows f1 hq ha1 h1=>
    simp only [Stm.deep,Stm.many] at hds hmy
    simp_arith []
    refine ⟨_,_,hq,rfl,?_⟩
    simp_arith []
    refine aH (fun z=>absurd z (by decide +kernel)) (fun _=>⟨_,_,hq,rfl,?_⟩)
    simp_arith []
    refine aH (fun _=>⟨_,_,hq,rfl,_,_,hq,rfl,?_⟩) (fun z=>absurd trivial z)
    simp_arith [ii]
    refine ⟨xs1,rows,f1,ha1,h1,by omega,by omega,fun p1 zs1 g1' H2 s2 e1 k1 nd1 fr1 p3 hp3=>?_⟩
    have s4:=Same.upd (o:=.tup [V.str "while",V.str n,V.ref p1]) hp3
    exact ⟨_,p1 :: g1',s2.trans s4,.whl (SqT.of ae) (s4 _ _ e1) (k1.same s4),nd1,fr1,rfl⟩
  rintro σ H2 ⟨y,g2,s2,hy,nd2,fr2,rfl⟩
  simp_arith []
  have na:acc∉g:=(List.nodup_cons.mp nd).1
  have na2:acc∉g2:=fun z=>by rw [fr2 acc z] at hacc1;cases hacc1
  have hacc2:=s2 _ _ hacc1
  have tt:TSame H2 (upd H2 acc (.lst (ys ++ [y]))):=TSame.updL hacc2
  refine ⟨.inl ⟨rfl,_,SqL.of hacc2⟩,_,hacc2,by rw [sizeLine_eq];omega,(s1.trans s2).updM hacc,ys ++ [y],g ++ g2,_,ae,by simp [ly],?_,?_,(fun c hc=>?_),rfl⟩
  ·rw [List.take_succ_eq_append_getElem hi,hse]
   exact ((hg.same s2).keep tt (Kept.upd na)).snoc (hy.keep tt (Kept.upd na2))
  ·refine List.nodup_cons.mpr ⟨fun z=>(List.mem_append.mp z).elim na na2,eY (List.nodup_cons.mp nd).2 nd2 fun c h1 h2=>?_⟩
   obtain ⟨zs,hz⟩:=hg.tracked c h1
   rw [fr2 c h2] at hz;cases hz
  ·rcases List.mem_cons.mp hc with z | z
   ·rw [z];exact hacc
   ·rcases List.mem_append.mp z with z | z
    ·exact fr c (List.mem_cons_of_mem _ z)
    ·exact s1.free (fr2 c z)
 ·rintro σ H1 ⟨s1,ys,g,o2,hacc1,ly,hg,nd,fr,rfl⟩
  rw [lx,List.take_length] at hg
  simp_arith []
  exact q acc ys g H1 s1 hacc1 hg nd fr
theorem su(T:Txt K mg t):∀d,FnOk P w K mg base CX0 (d+1) t.f__law_copied t.e__law_copied ["_law_rows"] (iW K d)
 | 0=>⟨fun vs H Q E h=>by obtain ⟨_,_,_,_,_,_,_,h,_⟩:=h;omega,fun _ _ _ _ _ _ _ _ _ _ _ _ _ h=>by obtain ⟨_,_,_,_,_,_,_,h,_⟩:=h;omega⟩
 | d+1=>uf T d (su T d)
end
end K50
variable {H:Hp}
namespace K50
open PySem L2 PyProof.Rows FD FB FS FO FR
section
variable {P:Program} {w:World} {K:PySem.W.Frag} {mg:Str->Option Value} {base:Heap} {t:Ad}
theorem rW{o:FB.Opd}:List.map id (List.filter ib [o.v])=o.reads.map V.str:=by cases o <;> rfl
theorem vi{o p:FB.Opd}:List.map id (List.filter ib [o.v,p.v])=(o.reads ++ p.reads).map V.str:=by cases o <;> cases p <;> rfl
theorem qI{f:Str}(h:f∈FB.opsL):¬f="tell":=by
 rintro rfl
 revert h
 decide +kernel
theorem ix0{d:FB.Deed}{H:Hp}{a:Addr}{Z:V->Hp->Prop}(f:d.fine)(hS:SqT K H a d.vs)(h:Z (.bl d.tells) H):∃xs v,SqT K H a xs/\atI xs 0=some v/\rEq v (.str "tell") H Z:=by
 cases d with
 | tell o=>exact ⟨_,_,hS,rfl,rfl,h⟩
 | copy n o=>exact ⟨_,_,hS,rfl,rfl,h⟩
 | op g n o p=>
  refine ⟨_,_,hS,rfl,rfl,?_⟩
  have e:decide (V.str g=V.str "tell")=false:=decide_eq_false (fun z=>qI f (V.str.inj z))
  rw [e];exact h
theorem D7{d:FB.Deed}{H:Hp}{a:Addr}{Z:V->Hp->Prop}(f:d.fine)(hS:SqT K H a d.vs)(h:Z (.bl (!d.tells)) H):∃xs v,SqT K H a xs/\atI xs 0=some v/\rNe v (.str "tell") H Z:=by
 obtain ⟨xs,v,h1,h2,h3,h4⟩:=ix0 (Z:=fun x H'=>∃b,x=.bl b/\Z (.bl (!b)) H') f hS ⟨_,rfl,h⟩
 obtain ⟨b,e,h4⟩:=h4
 cases e
 exact ⟨xs,v,h1,h2,h3,h4⟩
def wr(d:FB.Deed):Str:=d.writes.headD ""
theorem ix1{d:FB.Deed}{H:Hp}{a:Addr}{Z:V->Prop}(f:d.tells=false)(hS:SqT K H a d.vs)(h:Z (.str (wr d))):∃xs v,SqT K H a xs/\atI xs 1=some v/\Z v:=by
 cases d with
 | tell o=>cases f
 | copy n o=>exact ⟨_,_,hS,rfl,h⟩
 | op g n o p=>exact ⟨_,_,hS,rfl,h⟩
theorem CZ{d:FB.Deed}(f:d.tells=true):d.writes=[]:=by
 cases d with
 | tell o=>rfl
 | copy n o=>cases f
 | op g n o p=>cases f
end
def w5:FB.Deed->List FB.Opd
 | .tell a=>[a]
 | .copy _ a=>[a]
 | .op _ _ a b=>[a,b]
def wrV(d:FB.Deed):V:=match d.writes with | []=>.non | n :: _=>.str n
def tu(K:PySem.W.Frag):Sp:=fun vs H Q _=>∃(a:Addr)(d:FB.Deed),vs=[.ref a]/\SqT K H a d.vs/\d.fine/\∀p,H p=none->Q (.ref p) (upd H p (.tup ((w5 d).map FB.Opd.v)))
def kx(K:PySem.W.Frag):Sp:=fun vs H Q _=>∃(a:Addr)(d:FB.Deed),vs=[.ref a]/\SqT K H a d.vs/\d.fine/\Q (wrV d) H
theorem w6{d:FB.Deed}:(w5 d).length<=2:=by cases d <;> simp [w5]
section
variable {P:Program} {w:World} {K:PySem.W.Frag} {mg:Str->Option Value} {base:Heap} {t:Ad}
theorem zb(T:Txt K mg t):FnOk P w K mg base CX0 1 t.f_operands_of t.e_operands_of ["deed"] (tu K):=by
 refine T.d_operands_of.F.ok ko (fun vs H Q E h=>by obtain ⟨_,_,rfl,_⟩:=h;rfl) (fun cdv A outer s H vs Q E hr h=>?_)
 obtain ⟨a,d,rfl,hS,hf,q⟩:=h
 refine ⟨_,
   (XSs.h
   (ag
    (ao (iq (ap aV (aj aw (yqv 0 vl) ad (fun _ _=>rfl)) aC (ax _)) (bi kr (yqv 0 vl) (bd ad) bW) (bi kr (yqv 0 vl) (bd ad) bW))))),?_⟩
 rw [show aG _ [V.ref a]=[some (.ref a)] from rfl]
 simp_arith []
 refine ix0 hf hS ⟨_,rfl,?_⟩
 cases d with
 | tell o=>exact ⟨_,hS,jk (k:=1) (show ¬HT.sIx 2 0 (some 1)=0 by decide),q⟩
 | copy n o=>exact ⟨_,hS,jk (k:=2) (show ¬HT.sIx 3 0 (some 2)=0 by decide),q⟩
 | op f n o o2=>exact ⟨_,hS,jk (k:=2) (show ¬HT.sIx 4 0 (some 2)=0 by decide),q⟩
theorem BW{a:Addr}{H:Hp}{Q:VK}{E:XK}:tu K [.ref a] H Q E=∃d:FB.Deed,SqT K H a d.vs/\d.fine/\∀p,H p=none->Q (.ref p) (upd H p (.tup ((w5 d).map FB.Opd.v))):=propext ⟨by rintro ⟨_,d,e,q⟩;cases e;exact ⟨d,q⟩,by rintro ⟨d,q⟩;exact ⟨a,d,rfl,q⟩⟩
theorem jn(T:Txt K mg t):FnOk P w K mg base CX0 1 t.f_box_written t.e_box_written ["deed"] (kx K):=by
 refine T.d_box_written.F.ok kn (fun vs H Q E h=>by obtain ⟨_,_,rfl,_⟩:=h;rfl) (fun cdv A outer s H vs Q E hr h=>?_)
 obtain ⟨a,d,rfl,hS,hf,q⟩:=h
 refine ⟨_,
   (XSs.h
   (ag
    (ao (iq (ap aV (aj aw (yqv 0 vl) ad (fun _ _=>rfl)) aC (ax _)) fh (aj aw (yqv 0 vl) ad (fun _ _=>rfl)))))),?_⟩
 rw [show aG _ [V.ref a]=[some (.ref a)] from rfl]
 simp_arith []
 refine ix0 hf hS ⟨_,rfl,?_⟩
 cases d with
 | tell o=>exact q
 | copy n o=>exact ⟨_,_,hS,rfl,q⟩
 | op f n o o2=>exact ⟨_,_,hS,rfl,q⟩
theorem f7{a:Addr}{H:Hp}{Q:VK}{E:XK}:kx K [.ref a] H Q E=∃d:FB.Deed,SqT K H a d.vs/\d.fine/\Q (wrV d) H:=propext ⟨by rintro ⟨_,d,e,q⟩;cases e;exact ⟨d,q⟩,by rintro ⟨d,q⟩;exact ⟨a,d,rfl,q⟩⟩
end
def aF(ds:List FB.Deed)(j k:Nat):Option Int:=match ds[j]?,ds[k]? with
 | some d,some e=>FB.nS d e
 | _,_=>none
def xG(K:PySem.W.Frag):Sp:=fun vs H Q _=>∃(a:Addr)(xs:List V)(ds:List FB.Deed)(j k:Nat)(d e:FB.Deed),vs=[.ref a,.int j,.int k]/\SqL K H a xs/\DeedsV K H xs ds/\j < k/\ds[j]?=some d/\ds[k]?=some e/\∀H',Same H H'->Q (FB.mq (FB.nS d e)) H'
def tw(K:PySem.W.Frag):Sp:=fun vs H Q _=>∃(a:Addr)(d:FB.Deed),vs=[.ref a]/\SqT K H a d.vs/\d.fine/\∀p H',Same H H'->H p=none->H' p=some (.lst (d.reads.map V.str))->Q (.ref p) H'
section
variable {P:Program} {w:World} {K:PySem.W.Frag} {mg:Str->Option Value} {base:Heap} {t:Ad}
theorem qJ{d:FB.Deed}:List.map id (List.filter ib ((w5 d).map FB.Opd.v))=d.reads.map V.str:=by
 cases d with
 | tell o=>exact rW
 | copy n o=>exact rW
 | op f n o o2=>exact vi
theorem zc(T:Txt K mg t):FnOk P w K mg base CX0 2 t.f_boxes_read t.e_boxes_read ["deed"] (tw K):=by
 have G_operands_of:=zb (P:=P) (w:=w) (base:=base) T
 refine T.d_boxes_read.F.ok kM (fun vs H Q E h=>by obtain ⟨_,_,rfl,_⟩:=h;rfl) (fun cdv A outer s H vs Q E hr h=>?_)
 obtain ⟨a,d,rfl,hS,hf,q⟩:=h
 refine ⟨_,
   (XSs.h
   (ag
    (ao (b7 (tns:=["part"]) (cns:=[]) (ci:=[]) rfl (CompSc.of (by kernel_rfl)) (iX (am T.d_operands_of G_operands_of (hr.mono (by first | decide | omega)) (aa (yqv 0 vl) ac) gl)) (fun _=>(aA (i:=1) (show List.Nodup [(".0":Str),("part":Str)] by decide +kernel) rfl ll (Or.inr (by kernel_rfl)))) (fun _=>(da (b8 (aq bD gl T.z_isinstance boot_isinstance (aa (yqv 1 vl) (aa (bI (v:=.ty "str") gl T.z_str boot_str rfl) ac)))))) (fun _=>(yqv 1 vl)))))),?_⟩
 rw [show aG _ [V.ref a]=[some (.ref a)] from rfl]
 simp_arith [BW]
 refine ⟨d,hS,hf,fun p hp=>⟨⟨_,SqT.of ae⟩,fun acc hacc bk=>?_⟩⟩
 refine j5 ib id (by rw [sizeLine_eq,List.length_map];have:=w6 (d:=d);omega) (SqT.of ae) hacc (fun x hm H3 Q' s3 h=>?_) (fun x hm H3 Q' s3 _ h=>?_) ?_
 ·obtain ⟨o,_,rfl⟩:=List.mem_map.mp hm
  simp_arith []
  exact sh ⟨_,rfl,h⟩
 ·simp_arith []
  exact h
 ·rw [qJ]
  exact q acc _ ((Same.upd hp).trans (Same.upd hacc)) ((Same.upd hp).free hacc) ae
theorem xo{a:Addr}{H:Hp}{Q:VK}{E:XK}:tw K [.ref a] H Q E=∃d:FB.Deed,SqT K H a d.vs/\d.fine/\∀p H',Same H H'->H p=none->H' p=some (.lst (d.reads.map V.str))->Q (.ref p) H':=propext ⟨by rintro ⟨_,d,e,q⟩;cases e;exact ⟨d,q⟩,by rintro ⟨d,q⟩;exact ⟨a,d,rfl,q⟩⟩
theorem vy{d:FB.Deed}{ns:List Str}:inV (wrV d) (ns.map V.str)=decide (∃n∈d.writes,n∈ns):=by
 have hn:∀ns:List Str,inV .non (ns.map V.str)=false:=fun ns=>by
  induction ns with
  | nil=>rfl
  | cons m ns ih=>unfold inV at ih ⊢;rw [List.map_cons,List.any_cons,ih];rfl
 cases d with
 | tell o=>show inV .non _=_;rw [hn];simp [FB.Deed.writes]
 | copy n o=>show inV (.str n) _=_;rw [eV];simp [FB.Deed.writes]
 | op f n o o2=>show inV (.str n) _=_;rw [eV];simp [FB.Deed.writes]
theorem Bg(T:Txt K mg t):FnOk P w K mg base CX0 10 t.f_gap t.e_gap ["deeds","j","k"] (xG K):=by
 have G_boxes_read:=zc (P:=P) (w:=w) (base:=base) T
 have G_box_written:=jn (P:=P) (w:=w) (base:=base) T
 refine T.d_gap.F.ok sc_gap (fun vs H Q E h=>by obtain ⟨_,_,_,_,_,_,_,rfl,_⟩:=h;rfl) (fun cdv A outer s H vs Q E hr h=>?_)
 obtain ⟨a,xs,ds,j,k,d,e,rfl,hS,hds,hjk,hd,he,q⟩:=h
 refine ⟨_,
   (XSs.h
   (af
    (ar (i:=3) sc_gap.nd rfl ll (aj aR (yqv 0 vl) (yqv 1 vl) (fun _ _=>rfl)))
   (af
    (ar (i:=4) sc_gap.nd rfl ll (aj aR (yqv 0 vl) (yqv 2 vl) (fun _ _=>rfl)))
   (af
    (aD (bG (fi (ap aV (aj aw (yqv 3 vl) ad (fun _ _=>rfl)) aC (ax _)) (dE (ap aV (aj aw (yqv 4 vl) ad (fun _ _=>rfl)) aC (ax _)))))
     (ag
      (ao ad))
     ay)
   (af
    (ar (i:=5) sc_gap.nd rfl ll (am T.d_box_written G_box_written (hr.mono (by first | decide | omega)) (aa (yqv 3 vl) ac) gl))
   (af
    (aD (bG (fi (ap iU (yqv 5 vl) fh (ax _)) (dE (bG (bH (ap bY (yqv 5 vl) (am T.d_boxes_read G_boxes_read (hr.mono (by first | decide | omega)) (aa (yqv 4 vl) ac) gl) rfl) (bT (ap aV (yqv 5 vl) (am T.d_box_written G_box_written (hr.mono (by first | decide | omega)) (aa (yqv 4 vl) ac) gl) (ax _))))))))
     (ag
      (ao ad))
     ay)
   (ag
    (ao (iq (ap bY (am T.d_box_written G_box_written (hr.mono (by first | decide | omega)) (aa (yqv 4 vl) ac) gl) (am T.d_boxes_read G_boxes_read (hr.mono (by first | decide | omega)) (aa (yqv 3 vl) ac) gl) rfl) ad fh))))))))),?_⟩
 rw [show aG _ [V.ref a,V.int j,V.int k]=[some (.ref a),some (.int j),some (.int k),none,none,none] from rfl]
 simp_arith [xo,f7]
 obtain ⟨x,hx,fd,qx,rfl,hqx⟩:=Paired.getR hds hd
 obtain ⟨y,hy,fe,qy,rfl,hqy⟩:=Paired.getR hds he
 refine ⟨_,_,hS,bc hx,_,_,hS,bc hy,?_⟩
 simp_arith [xo,f7]
 have fl:∀d:FB.Deed,bz (wrV d)=true:=fun d=>by cases d <;> rfl
 have nw:∀d:FB.Deed,(!decide (wrV d=V.non))=!d.tells:=fun d=>by cases d <;> rfl
 have last:∀H1,Same H H1->¬(d.tells=true/\e.tells=true)->¬(∃n∈d.writes,n∈e.reads\/n∈e.writes)->∃d0:FB.Deed,SqT K H1 qy d0.vs/\d0.fine/\∃d1:FB.Deed,SqT K H1 qx d1.vs/\d1.fine/\
   ∀p H2,Same H1 H2->H1 p=none->H2 p=some (.lst (d1.reads.map V.str))->∃xs,(SqL K H2 p xs\/SqT K H2 p xs)/\bz (wrV d0)=true/\xs.all bz=true/\if inV (wrV d0) xs=true then Q (.int 0) H2 else Q .non H2:=by
  intro H1 s1 h1 h2
  refine ⟨e,s1.seqT hqy,fe,d,s1.seqT hqx,fd,fun p H2 s2 hp hl=>⟨_,.inl (SqL.of hl),fl e,i6,?_⟩⟩
  rw [vy]
  unfold FB.nS at q
  rw [if_neg h1,if_neg h2] at q
  refine aH (fun h=>?_) (fun h=>?_)
  ·rw [if_pos h] at q;exact q _ (s1.trans s2)
  ·rw [if_neg h] at q;exact q _ (s1.trans s2)
 have wrm:∀(d e:FB.Deed),d.tells=false->(wrV d=wrV e↔∃n∈d.writes,n∈e.writes):=fun d e h=>by cases d <;> cases e <;> simp [wrV,FB.Deed.writes,FB.Deed.tells] at h ⊢
 refine ix0 fd hqx ⟨_,rfl,dh (fun e1=>ix0 fe hqy ⟨_,rfl,dh (fun e2=>?_) (fun e2=>?_)⟩) (fun e1=>?_)⟩
 ·unfold FB.nS at q
  rw [if_pos ⟨e1,e2⟩] at q
  exact q H (Same.refl H)
 ·have nt:¬(d.tells=true/\e.tells=true):=fun z=>by rw [e2] at z;exact Bool.false_ne_true z.2
  refine ⟨d,hqx,fd,?_⟩
  rw [nw,e1]
  refine last H (Same.refl H) nt ?_
  rw [CZ e1];simp
 ·have nt:¬(d.tells=true/\e.tells=true):=fun z=>by rw [e1] at z;exact Bool.false_ne_true z.1
  refine ⟨d,hqx,fd,?_⟩
  rw [nw,e1]
  refine ⟨e,hqy,fe,fun p H2 s2 hp hl=>⟨_,.inl (SqL.of hl),fl d,i6,?_⟩⟩
  rw [vy]
  refine aH (fun h=>?_) (fun h=>⟨e,s2.seqT hqy,fe,?_⟩)
  ·unfold FB.nS at q
   obtain ⟨n,h1,h2⟩:=h
   rw [if_neg nt,if_pos ⟨n,h1,.inl h2⟩] at q
   exact q _ s2
  refine ⟨by cases d <;> cases e <;> rfl,_,rfl,aH (fun h2=>?_) (fun h2=>?_)⟩
  ·unfold FB.nS at q
   obtain ⟨n,h3,h4⟩:=(wrm d e e1).mp h2
   rw [if_neg nt,if_pos ⟨n,h3,.inr h4⟩] at q
   exact q _ s2
  ·refine last H2 s2 nt ?_
   rintro ⟨n,h3,h4 | h4⟩
   ·exact h ⟨n,h3,h4⟩
   ·exact h2 ((wrm d e e1).mpr ⟨n,h3,h4⟩)
end
def cn:FB.Deed->Nat
 | .op f _ _ _=>if f∈(["plus","less"]:List Str) then 0 else if f∈(["below","same"]:List Str) then 1 else if f∈(["and","or","xor"]:List Str) then 2 else 3
 | _=>3
def tD(K:PySem.W.Frag):Sp:=fun vs H Q _=>∃(a:Addr)(d:FB.Deed),vs=[.ref a]/\SqT K H a d.vs/\∀H',Same H H'->Q (.int (cn d)) H'
section
variable {P:Program} {w:World} {K:PySem.W.Frag} {mg:Str->Option Value} {base:Heap} {t:Ad}
theorem ze(T:Txt K mg t):FnOk P w K mg base CX0 1 t.f__law_sort t.e__law_sort ["_law_deed_here"] (tD K):=by
 refine T.d__law_sort.F.ok mx (fun vs H Q E h=>by obtain ⟨_,_,rfl,_⟩:=h;rfl) (fun cdv A outer s H vs Q E hr h=>?_)
 obtain ⟨a,d,rfl,hS,q⟩:=h
 refine ⟨_,
   (XSs.h
   (af
    (aD (ap bY (aj aw (yqv 0 vl) ad (fun _ _=>rfl)) (aI (c5 (by rfl))) rfl)
     (ag
      (ao ad))
     ay)
   (af
    (aD (ap bY (aj aw (yqv 0 vl) ad (fun _ _=>rfl)) (aI (c5 (by rfl))) rfl)
     (ag
      (ao ad))
     ay)
   (af
    (aD (ap bY (aj aw (yqv 0 vl) ad (fun _ _=>rfl)) (aI (c5 (by rfl))) rfl)
     (ag
      (ao ad))
     ay)
   (ag
    (ao ad)))))),?_⟩
 rw [show aG _ [V.ref a]=[some (.ref a)] from rfl]
 obtain ⟨f,hf,he⟩:∃f:Str,atI d.vs 0=some (.str f)/\cn d=if f∈(["plus","less"]:List Str) then 0 else if f∈(["below","same"]:List Str) then 1 else if f∈(["and","or","xor"]:List Str) then 2 else 3:=by
  cases d with
  | tell o=>exact ⟨"tell",rfl,by rw [if_neg (by decide +kernel),if_neg (by decide +kernel),if_neg (by decide +kernel)];rfl⟩
  | copy n o=>exact ⟨"copy",rfl,by rw [if_neg (by decide +kernel),if_neg (by decide +kernel),if_neg (by decide +kernel)];rfl⟩
  | op f n o o2=>exact ⟨f,rfl,rfl⟩
 rw [he] at q
 simp_arith []
 refine ⟨_,_,hS,hf,fun p hp=>⟨_,.inl (SqL.of ae),rfl,rfl,?_⟩⟩
 rw [show inV (.str f) [V.str "plus",V.str "less"]=decide (f∈(["plus","less"]:List Str)) from eV (ns:=["plus","less"])]
 refine aH (fun h=>by rw [if_pos h] at q;exact q _ (Same.upd hp)) (fun h=>?_)
 rw [if_neg h] at q
 refine ⟨_,_,(Same.upd hp).seqT hS,hf,fun p2 hp2=>⟨_,.inl (SqL.of ae),rfl,rfl,?_⟩⟩
 rw [show inV (.str f) [V.str "below",V.str "same"]=decide (f∈(["below","same"]:List Str)) from eV (ns:=["below","same"])]
 have s2:=(Same.upd hp).trans (Same.upd (o:=.lst [V.str "below",V.str "same"]) hp2)
 refine aH (fun h=>by rw [if_pos h] at q;exact q _ s2) (fun h=>?_)
 rw [if_neg h] at q
 refine ⟨_,_,s2.seqT hS,hf,fun p3 hp3=>⟨_,.inl (SqL.of ae),rfl,rfl,?_⟩⟩
 rw [show inV (.str f) [V.str "and",V.str "or",V.str "xor"]=decide (f∈(["and","or","xor"]:List Str)) from eV (ns:=["and","or","xor"])]
 have s3:=s2.trans (Same.upd (o:=.lst [V.str "and",V.str "or",V.str "xor"]) hp3)
 exact aH (fun h=>by rw [if_pos h] at q;exact q _ s3) (fun h=>by rw [if_neg h] at q;exact q _ s3)
theorem qO{a:Addr}{H:Hp}{Q:VK}{E:XK}:tD K [.ref a] H Q E=∃d:FB.Deed,SqT K H a d.vs/\∀H',Same H H'->Q (.int (cn d)) H':=propext ⟨by rintro ⟨_,d,e,q⟩;cases e;exact ⟨d,q⟩,by rintro ⟨d,q⟩;exact ⟨a,d,rfl,q⟩⟩
end
def sV(d:FB.Deed):V:=if cn d < 3 then .int (cn d) else .non
def Cn(ds:List FB.Deed)(p:Int):FB.Deed:=ds.getD p.toNat (.tell (.word 0))
theorem xE{d:FB.Deed}(h:d.fine):∃f:Str,atI d.vs 0=some (.str f)/\(d5 kvs_SORTS (.inr f)).getD .non=sV d:=by
 cases d with
 | tell o=>exact ⟨"tell",rfl,by kernel_rfl⟩
 | copy n o=>exact ⟨"copy",rfl,by kernel_rfl⟩
 | op f n o o2=>
  refine ⟨f,rfl,?_⟩
  have h:f∈FB.opsL:=h
  simp only [FB.opsL,List.mem_cons,List.not_mem_nil,or_false] at h
  rcases h with rfl | rfl | rfl | rfl | rfl | rfl | rfl <;> kernel_rfl
theorem Co{d:FB.Deed}{s:Nat}(h:s < 3):eqV (sV d) (.int s)=decide (cn d=s):=by
 unfold sV
 split
 ·rw [FL.rV,Bool.eq_iff_iff,decide_eq_true_iff,decide_eq_true_iff];omega
 ·rw [decide_eq_false (by omega)];rfl
def lM(K:PySem.W.Frag):Sp:=fun vs H Q _=>∃(a:Addr)(d:FB.Deed),vs=[.ref a]/\SqT K H a d.vs/\d.fine/\Q (sV d) H
section
variable {P:Program} {w:World} {K:PySem.W.Frag} {mg:Str->Option Value} {base:Heap} {t:Ad}
theorem ul(T:Txt K mg t)(hw:t.pr=w.params):FnOk P w K mg base CX0 1 t.f_sort_of t.e_sort_of ["deed"] (lM K):=by
 refine T.d_sort_of.F.ok qR (fun vs H Q E h=>by obtain ⟨_,_,rfl,_⟩:=h;rfl) (fun cdv A outer s H vs Q E hr h=>?_)
 obtain ⟨a,d,rfl,hS,hf,q⟩:=h
 refine ⟨_,
   (XSs.h
   (ag
    (ao (uV hw T.k_SORTS T.g_SORTS gl (aj aw (yqv 0 vl) ad (fun _ _=>rfl)) ⟨rfl,rfl,rfl,rfl⟩)))),?_⟩
 rw [show aG _ [V.ref a]=[some (.ref a)] from rfl]
 simp_arith []
 obtain ⟨f,hf0,hv⟩:=xE hf
 refine ⟨_,_,hS,hf0,.inr f,rfl,?_⟩
 rw [hv]
 exact q
theorem kd{a:Addr}{H:Hp}{Q:VK}{E:XK}:lM K [.ref a] H Q E=∃d:FB.Deed,SqT K H a d.vs/\d.fine/\Q (sV d) H:=propext ⟨by rintro ⟨_,d,e,q⟩;cases e;exact ⟨d,q⟩,by rintro ⟨d,q⟩;exact ⟨a,d,rfl,q⟩⟩
end
end K50
variable {H:Hp} {Q:VK}
namespace K50
open PySem L2 PyProof.Rows FD FB FS FO FR
def nl(ps:List Nat):List V:=ps.map fun p:Nat=>V.int p
def soN(ds:List FB.Deed)(p:Nat):Nat:=cn (ds.getD p (.tell (.word 0)))
def uN(us:List Int)(s:Nat):Int:=us.getD s 0
theorem jf{j:Nat}:∀{ps:List Nat},inV (.int j) (nl ps)=decide (j∈ps)
 | []=>rfl
 | p :: ps=>by
  have ih:=jf (j:=j) (ps:=ps)
  unfold inV nl at ih ⊢
  rw [List.map_cons,List.any_cons,ih,FL.rV,Bool.eq_iff_iff]
  simp only [Bool.or_eq_true,decide_eq_true_eq,List.mem_cons]
  exact ⟨fun h=>h.imp (fun e=>by omega) id,fun h=>h.imp (fun e=>by omega) id⟩
theorem eU:∀{ps:List Nat},(nl ps).all bz=true
 | []=>rfl
 | p :: ps=>by
  have ih:=eU (ps:=ps)
  unfold nl at ih ⊢
  rw [List.map_cons,List.all_cons,ih]
  rfl
theorem Cv{ps:List Nat}{i p:Nat}(h:ps[i]?=some p):(nl ps)[i]?=some (V.int p):=by
 unfold nl;rw [List.getElem?_map,h];rfl
theorem dJ{ps:List Nat}:(nl ps).length=ps.length:=by unfold nl;rw [List.length_map]
theorem xB{ds:List FB.Deed}{p:Nat}(h:p < ds.length):(ds.map sV)[p]?=some (sV (ds.getD p (.tell (.word 0)))):=by
 rw [List.getElem?_map,List.getElem?_eq_getElem h,List.getD_eq_getElem?_getD,List.getElem?_eq_getElem h];rfl
theorem AV{ds:List FB.Deed}{bt:List Nat}{s:Nat}(h:s < 3):yF (.int s) (bt.map fun p=>sV (ds.getD p (.tell (.word 0))))=GD.dW (soN ds) bt s:=by
 unfold yF GD.dW
 rw [List.countP_map]
 apply List.countP_congr
 intro p _
 show eqV (sV (ds.getD p (.tell (.word 0)))) (.int s)=true↔_
 rw [Co h]
 rfl
theorem yK{d:FB.Deed}:bz (sV d)=true:=by unfold sV;split <;> rfl
def Cs(b so gp:Addr):List (Str×V):=[("units",.ref b),("sorts",.ref so),("gaps",.ref gp)]
structure LayerH(K:PySem.W.Frag)(C:Addr)(H:Hp)(p:Addr)(ds:List FB.Deed)(us:List Int):Prop where
 ob:∃(dx b so gp:Addr)(qs:List Addr),H p=some (.ins C dx (Cs b so gp))/\SqT K H b (us.map V.int)/\H so=some (.lst (ds.map sV))/\H gp=some (.lst (qs.map V.ref))/\qs.length=ds.length/\∀(k:Nat)q,qs[k]?=some q->H q=some (.lst ((List.range k).map fun j=>FB.mq (aF ds j k)))
 h8:ds.length<=8
 h3:us.length=3
 hp:∀u∈us,0 < u/\u<=3
theorem LayerH.same{K:PySem.W.Frag}{C p:Addr}{H H':Hp}{ds:List FB.Deed}{us:List Int}(s:Same H H')(h:LayerH K C H p ds us):LayerH K C H' p ds us:=
 ⟨let ⟨dx,b,so,gp,qs,e1,e2,e3,e4,e5,e6⟩:=h.ob;⟨dx,b,so,gp,qs,s _ _ e1,s.seqT e2,s _ _ e3,s _ _ e4,e5,fun k q hk=>s _ _ (e6 k q hk)⟩,h.h8,h.h3,h.hp⟩
theorem LayerH.pos{K:PySem.W.Frag}{C p:Addr}{H:Hp}{ds:List FB.Deed}{us:List Int}(h:LayerH K C H p ds us):∀s,s < 3->0 < uN us s:=fun s hs=>by
 have hl:=h.h3
 unfold uN
 rw [List.getD_eq_getElem?_getD,List.getElem?_eq_getElem (by omega)]
 exact (h.hp _ (List.getElem_mem _)).1
def rC(K:PySem.W.Frag)(C:Addr)(p d b:Addr)(i:Int)(H:Hp)(Q:VK):Prop:=∃(ds:List FB.Deed)(us:List Int)(dn bt:List Nat)(pl:Nat),i=pl/\LayerH K C H p ds us/\SqT K H d (nl dn)/\SqL K H b (nl bt)/\pl < ds.length/\(∀q∈bt,q < ds.length)/\bt.length<=8/\∀H',Same H H'->Q (.bl (GD.bv (aF ds) (soN ds) (uN us) dn bt pl)) H'
def sX(K:PySem.W.Frag)(C:Addr):Sp:=fun vs H Q _=>∃(p d b:Addr)(i:Int),vs=[.ref p,.ref d,.ref b,.int i]/\rC K C p d b i H Q
section
variable {P:Program} {w:World} {K:PySem.W.Frag} {mg:Str->Option Value} {base:Heap} {t:Ad}
theorem jE{C p d b:Addr}{i:Int}{E:XK}:sX K C [.ref p,.ref d,.ref b,.int i] H Q E=rC K C p d b i H Q:=propext ⟨by rintro ⟨_,_,_,_,e,q⟩;cases e;exact q,fun q=>⟨p,d,b,i,rfl,q⟩⟩
theorem jI{a:Addr}{i j:Int}{E:XK}:xG K [.ref a,.int i,.int j] H Q E=∃(xs:List V)(ds:List FB.Deed)(m k:Nat),i=m/\j=k/\SqL K H a xs/\DeedsV K H xs ds/\m < k/\k < ds.length/\∀H',Same H H'->Q (FB.mq (aF ds m k)) H':=propext ⟨by
  rintro ⟨_,xs,ds,m,k,d,e,ev,h1,h2,h3,h4,h5,q⟩
  cases ev
  refine ⟨xs,ds,m,k,rfl,rfl,h1,h2,h3,(List.getElem?_eq_some_iff.mp h5).1,?_⟩
  unfold aF
  rw [h4,h5]
  exact q,by
  rintro ⟨xs,ds,m,k,rfl,rfl,h1,h2,h3,h4,q⟩
  obtain ⟨d,hd⟩:∃d,ds[m]?=some d:=⟨_,List.getElem?_eq_getElem (by omega)⟩
  obtain ⟨e,he⟩:∃e,ds[k]?=some e:=⟨_,List.getElem?_eq_getElem h4⟩
  refine ⟨a,xs,ds,m,k,d,e,rfl,h1,h2,h3,hd,he,?_⟩
  unfold aF at q
  rw [hd,he] at q
  exact q⟩
theorem ixL{a:Addr}{xs:List V}{i:Nat}{v:V}{H:Hp}{Q:VK}(h:SqL K H a xs)(hv:xs[i]?=some v)(q:Q v H):BQ K (.ref a) (.int i) H Q:=by
 simp_arith [];exact ⟨_,_,h,bc hv,q⟩
theorem ixT{a:Addr}{xs:List V}{i:Nat}{v:V}{H:Hp}{Q:VK}(h:SqT K H a xs)(hv:xs[i]?=some v)(q:Q v H):BR K (.ref a) (.int i) H Q:=by
 simp_arith [];exact ⟨_,_,h,bc hv,q⟩
theorem sq(T:Txt K mg t):FnOk P w K mg base CX0 1 t.f_Layer_fits t.e_Layer_fits ["self","done","beat","place"] (sX K t.C_Layer):=by
 refine T.d_Layer_fits.F.ok sc_Layer_fits (fun vs H Q E h=>by obtain ⟨_,_,_,_,rfl,_⟩:=h;rfl) (fun cdv A outer s H vs Q E hr h=>?_)
 obtain ⟨p,d,b,i,rfl,ds,us,dn,bt,pl,rfl,L,hD,hB,hpl,hbt,hlb,q⟩:=h
 obtain ⟨dx,ub,sb,gb,qs,hob,hU,hSo,hGp,hql,hq⟩:=L.ob
 have h3:=L.h3
 refine ⟨_,
   (XSs.h
   (af
    (ar (i:=4) sc_Layer_fits.nd rfl ll (aj aR (bS (yqv 0 vc) rfl) (yqv 3 vl) (fun _ _=>rfl)))
   (bj
    (aD (bG (fi (ap iU (yqv 4 vl) fh (ax _)) (dE (ap aV (bM PySem.F.plainAttrs_list PySem.F.slot_list_count PySem.F.type_list_count vI (b7 (tns:=["other"]) (cns:=["self"]) (ci:=[0]) rfl (CompSc.of (by kernel_rfl)) (aO (yqv 2 vl)) (fun _=>(aA (i:=1) (show List.Nodup [(".0":Str),("other":Str),("self":Str)] by decide +kernel) rfl ll (Or.inr (by kernel_rfl)))) (fun _=>bN) (fun _=>(aj aR (bS (yqv 2 vc) rfl) (yqv 1 vl) (fun _ _=>rfl)))) (aa (yqv 4 vl) ac)) (aj aw (bS (yqv 0 vc) rfl) (yqv 4 vl) (fun _ _=>rfl)) (ax _)))))
     (ag
      (ao bL))
     ay)
   (af
    (bB PassesOwn.never rfl (yh T.z_enumerate (aa (aj aR (bS (yqv 0 vc) rfl) (yqv 3 vl) (fun _ _=>rfl)) ac) gl) (mM rfl (cP (aA (i:=5) sc_Layer_fits.nd rfl ll) (cP (aA (i:=6) sc_Layer_fits.nd rfl ll) kC)))
     (af
      (ar (i:=7) sc_Layer_fits.nd rfl ll (yg (aY bY (yqv 5 vl) (yqv 1 vl) rfl) (cM (cq (aY aV (yqv 6 vl) ad (ax _)) (cM (aY bY (yqv 5 vl) (yqv 2 vl) rfl))))))
     (ag
      (aD (bG (fi (ap iU (yqv 6 vl) fh (ax _)) (dE (bu (b8 (yqv 7 vl))))))
       (ag
        (ao bL))
       ay))))
   (ag
    (ao bL)))))),?_⟩
 rw [show aG _ [V.ref p,V.ref d,V.ref b,V.int pl]=[some (.ref p),some (.ref d),some (.ref b),some (.int pl),none,none,none,none] from rfl]
 simp_arith! []
 refine ga hob T.c_Layer.cl T.n_Layer_sorts rfl (ixL (SqL.of hSo) (xB hpl) ?_)
 refine later ?_
 simp_arith! []
 refine ⟨fun σ H'=>Same H H'/\(soN ds pl < 3->(GD.dW (soN ds) bt (soN ds pl):Int)≠uN us (soN ds pl))/\σ=[some (.ref p),some (.ref d),some (.ref b),some (.int pl),some (sV (ds.getD pl (.tell (.word 0)))),none,none,none],?_,?_⟩
 ·by_cases hs:soN ds pl < 3
  ·have e:sV (ds.getD pl (.tell (.word 0)))=.int (soN ds pl):=if_pos hs
   rw [e]
   simp_arith []
   refine ⟨⟨_,hB⟩,fun acc hacc bk=>?_⟩
   refine nC (fun _=>true) (fun x=>sV (Cn ds (match x with | .int i=>i | _=>0))) (by rw [dJ,sizeLine_eq];omega) hB hacc (fun x _ H2 Q' s2 h=>h H2 (Same.refl _)) (fun x hx H2 Q' s2 _ h=>?_) fun H2 s2 hacc2=>?_
   ·obtain ⟨qp,hqm,rfl⟩:=List.mem_map.mp hx
    simp_arith []
    exact ga (s2 _ _ hob) T.c_Layer.cl T.n_Layer_sorts rfl (ixL (SqL.of (s2 _ _ hSo)) (xB (hbt qp hqm)) (h H2 (Same.refl _)))
   ·rw [dH] at hacc2
    have el:List.map (fun x=>sV (Cn ds (match x with | .int i=>i | _=>0))) (nl bt)=bt.map fun p=>sV (ds.getD p (.tell (.word 0))):=by unfold nl;rw [List.map_map];rfl
    rw [el] at hacc2
    have hu:(us.map V.int)[soN ds pl]?=some (V.int (uN us (soN ds pl))):=by
     unfold uN
     rw [List.getElem?_map,List.getElem?_eq_getElem (by omega),List.getD_eq_getElem?_getD,List.getElem?_eq_getElem (by omega)];rfl
    refine ⟨.inl ⟨rfl,_,SqL.of hacc2⟩,_,SqL.of hacc2,rfl,?_,?_⟩
    ·rw [List.all_map,List.all_eq_true]
     exact fun x _=>yK
    refine ga (s2 _ _ hob) T.c_Layer.cl T.n_Layer_units rfl (ixT (s2.seqT hU) hu ?_)
    rw [AV hs]
    simp_arith []
    refine aH (fun z=>?_) (fun z=>⟨s2,fun _=>z⟩)
    have hf:GD.bv (aF ds) (soN ds) (uN us) dn bt pl=false:=by
     cases hf:GD.bv (aF ds) (soN ds) (uN us) dn bt pl with
     | false=>rfl
     | true=>exact absurd z ((GD.fits_iff.mp hf).1 hs)
    rw [hf] at q
    exact q H2 s2
  ·have e:sV (ds.getD pl (.tell (.word 0)))=.non:=if_neg hs
   rw [e]
   simp_arith []
   exact ⟨Same.refl H,fun z=>absurd z hs⟩
 ·rintro σ H1 ⟨s1,hc,rfl⟩
  refine later ?_
  obtain ⟨gq,hgq⟩:∃gq,qs[pl]?=some gq:=⟨_,List.getElem?_eq_getElem (by omega)⟩
  have hG:=hq pl gq hgq
  simp_arith []
  refine ga (s1 _ _ hob) T.c_Layer.cl T.n_Layer_gaps rfl (ixL (SqL.of (s1 _ _ hGp)) (v:=.ref gq) (by rw [List.getElem?_map,hgq];rfl) ⟨gq,rfl,⟨_,SqL.of (s1 _ _ hG)⟩,?_⟩)
  refine yL (xs:=(List.range pl).map fun j=>FB.mq (aF ds j pl)) (fun i σ H'=>Same H H'/\(∀j,j < i->GD.cj (aF ds) dn bt pl j=true)/\∃o5 o6 o7,σ=[some (.ref p),some (.ref d),some (.ref b),some (.int pl),some (sV (ds.getD pl (.tell (.word 0)))),o5,o6,o7]) ⟨s1,fun j hj=>absurd hj (by omega),_,_,_,rfl⟩ (fun i σ H' _ h=>SqL.of (h.1 _ _ hG)) ?_ ?_
  ·rintro i x σ H2 pp hx hpp ⟨s2,hah,o5,o6,o7,rfl⟩
   have hi:i < pl:=by have:=(List.getElem?_eq_some_iff.mp hx).1;rwa [List.length_map,List.length_range] at this
   rw [List.getElem?_map,List.getElem?_range hi] at hx
   cases hx
   have s3:Same H (upd H2 pp (.tup [.int i,FB.mq (aF ds i pl)])):=s2.updN hpp
   simp_arith []
   refine ⟨_,SqT.of ae,rfl,?_⟩
   have ih:GD.cj (aF ds) dn bt pl i=true->∀j,j < i+1->GD.cj (aF ds) dn bt pl j=true:=fun h j hj=>by
    by_cases e:j=i
    ·rw [e];exact h
    ·exact hah j (by omega)
   have no:GD.cj (aF ds) dn bt pl i=false->GD.bv (aF ds) (soN ds) (uN us) dn bt pl=false:=fun h=>by
    cases hf:GD.bv (aF ds) (soN ds) (uN us) dn bt pl with
    | false=>rfl
    | true=>have z:=(GD.fits_iff.mp hf).2 i hi;rw [h] at z;cases z
   unfold GD.cj at ih no
   cases hg:aF ds i pl with
   | none=>
    rw [hg] at ih s3
    simp only [yk,wX,ym,wY,yn,wZ,yo,x0,yp,x2,yq,x3,yr,x4,yt,x5,yu,x6,yv,x8,qe,oJ,AC,Ah,AD,Ai,AE,Aj,AF,Ak,AG,Al,AH,Am,AI,An,AJ,Ao,AK,Ap,AL,Aq,AM,Ar,AN,As,AO,At,r_c,xl,xu,yj,y_I,y_U,oC,oE,Ag,oT,oU,jD,gx,kf,r_B,oy,xn,oW,jt,oX,k7,x9,k6,xq,Af,wO,jz,oY,xp,sL,oA,wK,oV,jx,jw,ph,oS,CS,CT,wR,jy,xt,eK,k8,jF,gy,Au,oO,xk,xj,jP,jQ,jR,jS,jT,xb,xc,jU,jV,xf,sO,sP,oI,gz,gA,jL,gB,gC,jA,jB,wT,oF,wN,Ae,oQ,oP,oR,oB,oZ,ee,Aw,wV,jC,jN,xa,jH,true_and,and_true,forall_const,Int.reduceLT,gs,du,pk,fD,ez,fE,eC,dO,eA,gD,fz,gE,fB,eh,fA,fH,eG,fI,eJ,dQ,eI,fF,eD,fG,eF,dP,eE,p9,oM,eL,ja,kB,nu,ju,jv,List.map_cons,List.map_nil,List.getElem?_cons_zero,List.getElem?_cons_succ,Option.join_some,wL,jO,gG,sH,wS,wU,jG,List.set_cons_zero,List.set_cons_succ,xh,kc,jJ,jZ,jY,jK,lC,jX,sR,sG,lD,gF,oK,eN,Ac,oz,oN,gu,sQ,lE,oG,j1,lF,dq,k9,eg,gv,eO,jM,ka,jW,FB.mq] at s3 ⊢
    have ih':=ih rfl
    refine ⟨_,.inr (s3.seqT hD),rfl,eU,?_⟩
    split
    ·split <;> exact ⟨s3,ih',_,_,_,rfl⟩
    ·refine ⟨rfl,_,rfl,?_⟩
     rw [show decide (V.non=V.int 0)=false from rfl]
     simp only [decide_true,Bool.not_true,Bool.false_eq_true,if_false]
     exact ⟨s3,ih',_,_,_,rfl⟩
   | some l=>
    rw [hg] at ih no s3
    simp only [yk,wX,ym,wY,yn,wZ,yo,x0,yp,x2,yq,x3,yr,x4,yt,x5,yu,x6,yv,x8,qe,oJ,AC,Ah,AD,Ai,AE,Aj,AF,Ak,AG,Al,AH,Am,AI,An,AJ,Ao,AK,Ap,AL,Aq,AM,Ar,AN,As,AO,At,r_c,xl,xu,yj,y_I,y_U,oC,oE,Ag,oT,oU,jD,gx,kf,r_B,oy,xn,oW,jt,oX,k7,x9,k6,xq,Af,wO,jz,oY,xp,sL,oA,wK,oV,jx,jw,ph,oS,CS,CT,wR,jy,xt,eK,k8,jF,gy,Au,oO,xk,xj,jP,jQ,jR,jS,jT,xb,xc,jU,jV,xf,sO,sP,oI,gz,gA,jL,gB,gC,jA,jB,wT,oF,wN,Ae,oQ,oP,oR,oB,oZ,ee,Aw,wV,jC,jN,xa,jH,true_and,and_true,forall_const,Int.reduceLT,gs,du,pk,fD,ez,fE,eC,dO,eA,gD,fz,gE,fB,eh,fA,fH,eG,fI,eJ,dQ,eI,fF,eD,fG,eF,dP,eE,p9,oM,eL,ja,kB,nu,ju,jv,List.map_cons,List.map_nil,List.getElem?_cons_zero,List.getElem?_cons_succ,Option.join_some,wL,jO,gG,sH,wS,wU,jG,List.set_cons_zero,List.set_cons_succ,xh,kc,jJ,jZ,jY,jK,lC,jX,sR,sG,lD,gF,oK,eN,Ac,oz,oN,gu,sQ,lE,oG,j1,lF,dq,k9,eg,gv,eO,jM,ka,jW,FB.mq] at s3 ⊢
    dsimp only at ih no
    refine ⟨_,.inr (s3.seqT hD),rfl,eU,?_⟩
    rw [jf,show decide (V.int l=V.non)=false from rfl]
    by_cases h1:i∈dn
    ·rw [if_pos (decide_eq_true h1)]
     split <;> exact ⟨s3,ih (by simp [h1]),_,_,_,rfl⟩
    ·rw [if_neg (by simp [h1])]
     by_cases h2:l=0
     ·rw [if_pos (decide_eq_true h2)]
      refine ⟨_,.inl (s3.seq hB),rfl,eU,?_⟩
      rw [jf]
      by_cases h3':i∈bt
      ·simp only [h3',decide_true,Bool.not_true,Bool.not_false,Bool.false_eq_true,if_false,if_true]
       exact ⟨s3,ih (by simp [h2,h3']),_,_,_,rfl⟩
      ·simp only [h3',decide_false,Bool.not_true,Bool.not_false,Bool.false_eq_true,if_false,if_true]
       rw [no (by simp [h1,h3'])] at q
       exact q _ s3
     ·rw [if_neg (by simp [h2])]
      simp only [Bool.not_true,Bool.not_false,Bool.false_eq_true,if_false,if_true]
      rw [no (by simp [h1,h2])] at q
      exact q _ s3
  ·rintro σ H2 ⟨s2,hah,o5,o6,o7,rfl⟩
   rw [List.length_map,List.length_range] at hah
   have hf:GD.bv (aF ds) (soN ds) (uN us) dn bt pl=true:=GD.fits_iff.mpr ⟨hc,hah⟩
   rw [hf] at q
   simp_arith []
   exact q H2 s2
end
def lU(K:PySem.W.Frag)(H:Hp)(a b:Addr)(ds:List FB.Deed)(us:List Int):Prop:=∃xs,SqL K H a xs/\DeedsV K H xs ds/\ds.length<=8/\SqT K H b (us.map V.int)/\us.length=3/\∀u∈us,0 < u/\u<=3
end K50
variable {H:Hp}
namespace K50
open PySem L2 PyProof.Rows FD FB FS FO FR
def LLN(H:Hp)(c:Addr)(bts:List (List Nat)):Prop:=∃ps:List Addr,H c=some (.lst (ps.map V.ref))/\Paired (fun p (b:List Nat)=>H p=some (.lst (nl b))) ps bts
theorem LLN.same{H H':Hp}{c:Addr}{bts:List (List Nat)}(s:Same H H')(h:LLN H c bts):LLN H' c bts:=
 let ⟨ps,e,r⟩:=h;⟨ps,s _ _ e,Paired.mapP r fun _ _ z=>s _ _ z⟩
theorem Be{H:Hp}{mo r:Addr}{rs:List Addr}{b:List Nat}(h1:H mo=some (.lst (rs.map V.ref)))(h2:H r=some (.lst (nl b)))(hr:r∈rs):r≠mo:=by
 rintro rfl
 rw [h1] at h2
 have e:rs.map V.ref=nl b:=HO.lst.inj (Option.some.inj h2)
 cases rs with
 | nil=>cases hr
 | cons x xs=>
  cases b with
  | nil=>cases e
  | cons y ys=>
   unfold nl at e
   rw [List.map_cons,List.map_cons] at e
   cases (List.cons.inj e).1
theorem sB{H:Hp}{mo:Addr}{rs:List Addr}{o:HO}(h:H mo=some (.lst (rs.map V.ref))):∀{rs':List Addr} {bs:List (List Nat)},Paired (fun r (b:List Nat)=>H r=some (.lst (nl b))) rs' bs->(∀r∈rs',r∈rs)->Paired (fun r (b:List Nat)=>upd H mo o r=some (.lst (nl b))) rs' bs
 | _,_,.nil,_=>.nil
 | _,_,.cons z t,hm=>.cons (by rw [al (Be h z (hm _ (by simp)))];exact z) (sB h t fun r hr=>hm r (List.mem_cons_of_mem _ hr))
theorem wz{H:Hp}{mo:Addr}{rs:List Addr}{bs:List (List Nat)}{r:Addr}{b:List Nat}(h:H mo=some (.lst (rs.map V.ref)))(hp:Paired (fun r (b:List Nat)=>H r=some (.lst (nl b))) rs bs)(hr:H r=some (.lst (nl b)))(ne:r≠mo):
  Paired (fun q (b:List Nat)=>upd H mo (.lst (rs.map V.ref ++ [.ref r])) q=some (.lst (nl b))) (rs ++ [r]) (bs ++ [b]):=Paired.snoc (sB h hp fun _ h=>h) (by rw [al ne];exact hr)
theorem yY{bt:List Nat}{p:Nat}:nl bt ++ [V.int p]=nl (bt ++ [p]):=by unfold nl;rw [List.map_append];rfl
def rH(K:PySem.W.Frag)(C:Addr)(p d b m:Addr)(H:Hp)(Q:VK):Prop:=∃(ds:List FB.Deed)(us:List Int)(dn bt ms:List Nat),LayerH K C H p ds us/\SqT K H d (nl dn)/\SqL K H b (nl bt)/\SqL K H m (nl ms)/\(∀q∈bt,q < ds.length)/\bt.length<=8/\(∀q∈ms,q < ds.length)/\ms.length<=8/\∀H',Same H H'->Q (.bl (GD.roomB (aF ds) (soN ds) (uN us) dn bt ms)) H'
def tz(K:PySem.W.Frag)(C:Addr):Sp:=fun vs H Q _=>∃(p d b m:Addr),vs=[.ref p,.ref d,.ref b,.ref m]/\rH K C p d b m H Q
def n9(K:PySem.W.Frag)(C:Addr)(p d c:Addr)(i:Int)(H:Hp)(Q:VK):Prop:=∃(ds:List FB.Deed)(us:List Int)(dn:List Nat)(bts:List (List Nat)) (pl:Nat),i=pl/\LayerH K C H p ds us/\SqT K H d (nl dn)/\LLN H c bts/\pl < ds.length/\(∀b∈bts,(∀q∈b,q < ds.length)/\b.length<=7)/\bts.length<=1000/\
 ∀c' H',Same H H'->LLN H' c' (GD.bn (aF ds) (soN ds) (uN us) dn bts pl)->Q (.ref c') H'
def pL(K:PySem.W.Frag)(C:Addr):Sp:=fun vs H Q _=>∃(p d c:Addr)(i:Int),vs=[.ref p,.ref d,.ref c,.int i]/\n9 K C p d c i H Q
section
variable {P:Program} {w:World} {K:PySem.W.Frag} {mg:Str->Option Value} {base:Heap} {t:Ad}
theorem qN{C p d b m:Addr}{Q:VK}{E:XK}:tz K C [.ref p,.ref d,.ref b,.ref m] H Q E=rH K C p d b m H Q:=propext ⟨by rintro ⟨_,_,_,_,e,q⟩;cases e;exact q,fun q=>⟨p,d,b,m,rfl,q⟩⟩
theorem sK{C p d c:Addr}{i:Int}{Q:VK}{E:XK}:pL K C [.ref p,.ref d,.ref c,.int i] H Q E=n9 K C p d c i H Q:=propext ⟨by rintro ⟨_,_,_,_,e,q⟩;cases e;exact q,fun q=>⟨p,d,c,i,rfl,q⟩⟩
def fRm(f:Nat->Bool):V->V
 | .int i=>.bl (f i.toNat)
 | _=>.non
theorem zd(T:Txt K mg t):FnOk P w K mg base CX0 2 t.f_Layer_has_room t.e_Layer_has_room ["self","done","beat","missing"] (tz K t.C_Layer):=by
 have G_Layer_fits:=sq (P:=P) (w:=w) (base:=base) T
 refine T.d_Layer_has_room.F.ok gT (fun vs H Q E h=>by obtain ⟨_,_,_,_,rfl,_⟩:=h;rfl) (fun cdv A outer s H vs Q E hr h=>?_)
 obtain ⟨p,d,b,m,rfl,ds,us,dn,bt,ms,L,hD,hB,hM,hbt,hlb,hms,hlm,q⟩:=h
 refine ⟨_,
   (XSs.h
   (ag
    (ao (aq (ny rfl) gl T.z_any boot_any (aa (b7 (tns:=["place"]) (cns:=["self","done","beat"]) (ci:=[0,1,2]) rfl (CompSc.of (by kernel_rfl)) (aO (yqv 3 vl)) (fun _=>(aA (i:=1) (show List.Nodup [(".0":Str),("place":Str),("self":Str),("done":Str),("beat":Str)] by decide +kernel) rfl ll (Or.inr (by kernel_rfl)))) (fun _=>bN) (fun _=>(cq (aY cG (yqv 1 vl) (yqv 4 vc) rfl) (cM (aM T.c_Layer.cl T.d_Layer_fits G_Layer_fits (hr.mono (by first | decide | omega)) (yqv 2 vc) (aa (yqv 3 vc) (aa (yqv 4 vc) (aa (yqv 1 vl) ac)))))))) ac))))),?_⟩
 rw [show aG _ [V.ref p,V.ref d,V.ref b,V.ref m]=[some (.ref p),some (.ref d),some (.ref b),some (.ref m)] from rfl]
 simp_arith [jE]
 refine ⟨⟨_,hM⟩,fun acc hacc bk=>?_⟩
 refine nC (fun _=>true) (fRm fun q=>!decide (q∈bt) && GD.bv (aF ds) (soN ds) (uN us) dn bt q) (by rw [dJ,sizeLine_eq];omega) hM hacc (fun x _ H2 Q' s2 h=>h H2 (Same.refl _)) (fun x hx H2 Q' s2 _ h=>?_) fun H2 s2 hacc2=>?_
 ·obtain ⟨qp,hqm,rfl⟩:=List.mem_map.mp hx
  simp_arith [jE]
  refine ⟨_,.inl (s2.seq hB),rfl,eU,?_⟩
  rw [jf]
  have h':∀H',Same H2 H'->Q' (.bl (!decide (qp∈bt) && GD.bv (aF ds) (soN ds) (uN us) dn bt qp)) H':=h
  obtain ⟨dx,ub,sb,gb,qs,hob,_⟩:=(L.same s2).ob
  refine vz (fun hn=>?_) (fun hn=>?_)
  ·rw [decide_eq_false hn,Bool.not_false,Bool.true_and] at h'
   exact bw hob rfl ⟨ds,us,dn,bt,qp,rfl,L.same s2,s2.seqT hD,s2.seq hB,hms qp hqm,hbt,hlb,h'⟩
  ·rw [decide_eq_true hn,Bool.not_true,Bool.false_and] at h'
   exact h' H2 (Same.refl _)
 rw [dH] at hacc2
 refine ⟨ms.map fun q=>!decide (q∈bt) && GD.bv (aF ds) (soN ds) (uN us) dn bt q,SqL.of ?_,?_⟩
 ·rw [hacc2]
  unfold nl
  rw [List.map_map,List.map_map]
  rfl
 ·have z:=q H2 s2
  unfold GD.roomB at z
  rw [List.any_map]
  exact z
theorem vQ(T:Txt K mg t):FnOk P w K mg base CX0 2 t.f_Layer_grown t.e_Layer_grown ["self","done","beats","place"] (pL K t.C_Layer):=by
 have G_Layer_fits:=sq (P:=P) (w:=w) (base:=base) T
 refine T.d_Layer_grown.F.ok sc_Layer_grown (fun vs H Q E h=>by obtain ⟨_,_,_,_,rfl,_⟩:=h;rfl) (fun cdv A outer s H vs Q E hr h=>?_)
 obtain ⟨p,d,c,i,rfl,ds,us,dn,bts,pl,rfl,L,hD,hC,hpl,hb,hl,q⟩:=h
 obtain ⟨ps,hc,hps⟩:=hC
 have lps:=hps.length
 refine ⟨_,
   (XSs.h
   (af
    (ar (i:=4) sc_Layer_grown.nd rfl ll (aI ac))
   (af
    (bB PassesOwn.never rfl (aO (yqv 2 vl)) (aA (i:=5) sc_Layer_grown.nd rfl ll)
     (af
      (ar (i:=6) sc_Layer_grown.nd rfl ll (aM T.c_Layer.cl T.d_Layer_fits G_Layer_fits (hr.mono (by first | decide | omega)) (yqv 0 vl) (aa (yqv 1 vl) (aa (yqv 5 vl) (aa (yqv 3 vl) ac)))))
     (bj
      (aD (b8 (yqv 6 vl))
       (ag
        (bg (bM PySem.F.plainAttrs_list PySem.F.slot_list_append PySem.F.type_list_append aP (yqv 4 vl) (aa (ak fU (yqv 5 vl) (aI (aa (yqv 3 vl) ac))) ac))))
       ay)
     (ag
      (aD (bG (bH (bu (b8 (yqv 6 vl))) (bT (ap iU (aj aR (bS (yqv 0 vl) rfl) (yqv 3 vl) (fun _ _=>rfl)) fh (ax _)))))
       (ag
        (bg (bM PySem.F.plainAttrs_list PySem.F.slot_list_append PySem.F.type_list_append aP (yqv 4 vl) (aa (yqv 5 vl) ac))))
       ay)))))
   (ag
    (ao (yqv 4 vl)))))),?_⟩
 rw [show aG _ [V.ref p,V.ref d,V.ref c,V.int pl]=[some (.ref p),some (.ref d),some (.ref c),some (.int pl),none,none,none] from rfl]
 simp_arith [jE]
 intro mo hmo
 refine ⟨⟨_,SqL.of (Same.upd hmo _ _ hc)⟩,?_⟩
 refine cv (xs:=ps.map V.ref) (fun i σ H'=>Same H H'/\∃(rs:List Addr)(o5 o6:Option V),σ=[some (.ref p),some (.ref d),some (.ref c),some (.int pl),some (.ref mo),o5,o6]/\H' mo=some (.lst (rs.map V.ref))/\Paired (fun p (b:List Nat)=>H' p=some (.lst (nl b))) rs (GD.bn (aF ds) (soN ds) (uN us) dn (bts.take i) pl)) ⟨Same.upd hmo,[],none,none,rfl,ae,.nil⟩ (fun i σ H' _ h=>SqL.of (h.1 _ _ hc)) ?_ ?_
 ·rintro i x σ H1 hx ⟨s1,rs,o5,o6,rfl,hm1,hrs⟩
  rw [List.getElem?_map] at hx
  obtain ⟨bp,hbp,rfl⟩:=Option.map_eq_some_iff.mp hx
  obtain ⟨bt,hbt,hpb⟩:=Paired.get hps hbp
  obtain ⟨hi,ei⟩:=List.getElem?_eq_some_iff.mp hbt
  obtain ⟨b1,b2⟩:=hb bt (List.mem_of_getElem? hbt)
  simp_arith only [jE]
  obtain ⟨dx,ub,sb,gb,qs,hob,hU,hSo,hGp,hql,hq⟩:=(L.same s1).ob
  refine bw hob rfl ⟨ds,us,dn,bt,pl,rfl,L.same s1,s1.seqT hD,SqL.of (s1 _ _ hpb),hpl,b1,by omega,fun H2 s2=>?_⟩
  refine later ?_
  simp_arith! [jE]
  have s3:=s1.trans s2
  have hr2:Paired (fun p (b:List Nat)=>H2 p=some (.lst (nl b))) rs (GD.bn (aF ds) (soN ds) (uN us) dn (bts.take i) pl):=Paired.mapP hrs fun _ _ z=>s2 _ _ z
  have e4:GD.bn (aF ds) (soN ds) (uN us) dn (bts.take (i+1)) pl=GD.bn (aF ds) (soN ds) (uN us) dn (bts.take i) pl ++ GD.fw (aF ds) (soN ds) (uN us) dn bt pl:=by
   unfold GD.bn
   rw [List.take_succ_eq_append_getElem hi,ei,List.flatMap_append,List.flatMap_singleton]
  rw [e4]
  have lr:=hrs.length
  have lg:=GD.i9 (G:=aF ds) (so:=soN ds) (U:=uN us) (dn:=dn) (bts.take i) pl
  rw [List.length_take] at lg
  refine ⟨fun σ H'=>Same H H'/\∃rs:List Addr,σ=[some (.ref p),some (.ref d),some (.ref c),some (.int pl),some (.ref mo),some (.ref bp),some (.bl (GD.bv (aF ds) (soN ds) (uN us) dn bt pl))]/\H' mo=some (.lst (rs.map V.ref))/\Paired (fun p (b:List Nat)=>H' p=some (.lst (nl b))) rs (GD.bn (aF ds) (soN ds) (uN us) dn (bts.take i) pl ++ (if GD.bv (aF ds) (soN ds) (uN us) dn bt pl=true then [bt ++ [pl]] else [])),?_,?_⟩
  ·cases hf:GD.bv (aF ds) (soN ds) (uN us) dn bt pl with
   | true=>
    simp_arith [if_true]
    refine ⟨.inl ⟨rfl,_,SqL.of (s2 _ _ hm1)⟩,fun p3 hp3=>⟨nl bt,[V.int pl],Same.upd hp3 _ _ (s2 _ _ (s1 _ _ hpb)),ae,by rw [dJ,sizeLine_eq,List.length_singleton];omega,fun p4 hp4=>?_⟩⟩
    have s5:=(Same.upd (o:=.lst [V.int pl]) hp3).trans (Same.upd (o:=.lst (nl bt ++ [V.int pl])) hp4)
    have m5:=s5 _ _ (s2 _ _ hm1)
    refine ⟨rs.map V.ref,m5,by rw [List.length_map,sizeLine_eq];omega,(s3.trans s5).updM hmo,rs ++ [p4],by rw [ae,List.map_append];rfl,?_⟩
    exact wz m5 (Paired.mapP hr2 fun _ _ z=>s5 _ _ z) (by rw [ae,yY]) (ai (Same.upd hp3 _ _ (s2 _ _ hm1)) hp4).symm
   | false=>
    simp_arith [Bool.false_eq_true,if_false,List.append_nil]
    exact ⟨s3,rs,s2 _ _ hm1,hr2⟩
  ·rintro σ H3 ⟨s4,rs2,rfl,hm3,hr3⟩
   refine later ?_
   have lr3:=hr3.length
   rw [List.length_append] at lr3
   have l1:(if GD.bv (aF ds) (soN ds) (uN us) dn bt pl=true then [bt ++ [pl]] else []).length<=1:=by split <;> simp
   have app:∀v6:V,(GD.bv (aF ds) (soN ds) (uN us) dn bt pl=false\/soN ds pl < 3)->tyV K "list" (V.ref mo) H3/\∃xs,H3 mo=some (.lst xs)/\xs.length < sizeLine/\Same H (upd H3 mo (.lst (xs ++ [V.ref bp])))/\∃(rs:List Addr)(o5 o6:Option V),
     [some (V.ref p),some (V.ref d),some (V.ref c),some (V.int ↑pl),some (V.ref mo),some (V.ref bp),some v6]=[some (V.ref p),some (V.ref d),some (V.ref c),some (V.int ↑pl),some (V.ref mo),o5,o6]/\upd H3 mo (.lst (xs ++ [V.ref bp])) mo=some (.lst (rs.map V.ref))/\
      Paired (fun p (b:List Nat)=>upd H3 mo (.lst (xs ++ [V.ref bp])) p=some (.lst (nl b))) rs (GD.bn (aF ds) (soN ds) (uN us) dn (bts.take i) pl ++ GD.fw (aF ds) (soN ds) (uN us) dn bt pl):=fun v6 hor=>by
    refine ⟨.inl ⟨rfl,_,SqL.of hm3⟩,_,hm3,by rw [List.length_map,sizeLine_eq];omega,s4.updM hmo,rs2 ++ [bp],_,_,rfl,by rw [ae,List.map_append];rfl,?_⟩
    unfold GD.fw
    rw [if_pos hor,<- List.append_assoc]
    exact wz hm3 hr3 (s4 _ _ hpb) (ai hpb hmo)
   simp_arith []
   cases hf:GD.bv (aF ds) (soN ds) (uN us) dn bt pl with
   | false=>
    simp only [Bool.not_false,if_true]
    exact app _ (.inl hf)
   | true=>
    simp only [Bool.not_true,Bool.false_eq_true,if_false]
    obtain ⟨dx,ub,sb,gb,qs,hob,hU,hSo,hGp,hql,hq⟩:=(L.same s4).ob
    refine ga hob T.c_Layer.cl T.n_Layer_sorts rfl (ixL (SqL.of hSo) (xB hpl) ?_)
    by_cases hs:soN ds pl < 3
    ·rw [show sV (ds.getD pl (.tell (.word 0)))=.int (soN ds pl) from if_pos hs,show decide (V.int (soN ds pl)=V.non)=false from rfl]
     simp only [Bool.not_false,if_true]
     exact app _ (.inr hs)
    ·rw [show sV (ds.getD pl (.tell (.word 0)))=.non from if_neg hs]
     simp only [decide_true,Bool.not_true,Bool.false_eq_true,if_false]
     refine ⟨s4,rs2,_,_,rfl,hm3,?_⟩
     unfold GD.fw
     rw [if_neg (show ¬(GD.bv (aF ds) (soN ds) (uN us) dn bt pl=false\/soN ds pl < 3) by rw [hf];simp [hs]),List.append_nil]
     exact hr3
 ·rintro σ H1 ⟨s1,rs,o5,o6,rfl,hm1,hrs⟩
  simp_arith []
  rw [List.length_map,lps,List.take_length] at hrs
  exact q mo H1 s1 ⟨rs,hm1,hrs⟩
end
def rD(K:PySem.W.Frag)(C:Addr)(p d:Addr)(H:Hp)(Q:VK):Prop:=∃(ds:List FB.Deed)(us:List Int)(dn:List Nat),LayerH K C H p ds us/\SqT K H d (nl dn)/\∀c H',Same H H'->LLN H' c (GD.bE (aF ds) (soN ds) (uN us) ds.length dn)->Q (.ref c) H'
def sY(K:PySem.W.Frag)(C:Addr):Sp:=fun vs H Q _=>∃(p d:Addr),vs=[.ref p,.ref d]/\rD K C p d H Q
def nh(K:PySem.W.Frag)(C:Addr)(p a b:Addr)(H:Hp)(Q:VK):Prop:=∃(H0:Hp)(dx:Addr)(ds:List FB.Deed)(us:List Int),Same H0 H/\H0 p=none/\H p=some (.ins C dx [])/\lU K H0 a b ds us/\∀H',Same H0 H'->LayerH K C H' p ds us->Q .non H'
def pN(K:PySem.W.Frag)(C:Addr):Sp:=fun vs H Q _=>∃(p a b:Addr),vs=[.ref p,.ref a,.ref b]/\nh K C p a b H Q
section
variable {P:Program} {w:World} {K:PySem.W.Frag} {mg:Str->Option Value} {base:Heap} {t:Ad}
theorem qM{C p d:Addr}{H:Hp}{Q:VK}{E:XK}:sY K C [.ref p,.ref d] H Q E=rD K C p d H Q:=propext ⟨by rintro ⟨_,_,e,q⟩;cases e;exact q,fun q=>⟨p,d,rfl,q⟩⟩
theorem zG{C p a b:Addr}{H:Hp}{Q:VK}{E:XK}:pN K C [.ref p,.ref a,.ref b] H Q E=nh K C p a b H Q:=propext ⟨by rintro ⟨_,_,_,e,q⟩;cases e;exact q,fun q=>⟨p,a,b,rfl,q⟩⟩
theorem eZ{f:Str}{v:V}:∀{fs:List (Str×V)},(fs.map (·.1)).contains f=false->cH f v fs=fs ++ [(f,v)]
 | [],_=>rfl
 | (g,x) :: r,h=>by
  rw [List.map_cons,List.contains_cons,Bool.or_eq_false_iff] at h
  have n:¬g=f:=fun z=>by subst z;simp at h
  rw [show cH f v ((g,x) :: r)=(if g=f then (g,v) :: r else (g,x) :: cH f v r) from rfl,if_neg n,eZ h.2];rfl
theorem rZ{ds:List FB.Deed}{us:List Int}{dn:List Nat}:∀(ms:List Nat)(bts:List (List Nat)) (m:Nat),(∀q∈ms,q < ds.length)->(∀b∈bts,(∀q∈b,q < ds.length)/\b.length<=m)->∀b∈ms.foldl (GD.bn (aF ds) (soN ds) (uN us) dn) bts,(∀q∈b,q < ds.length)/\b.length<=m+ms.length
 | [],_,_,_,h=>h
 | p :: ms,bts,m,h1,h2=>fun b hb=>by
  have z:=rZ ms (GD.bn (aF ds) (soN ds) (uN us) dn bts p) (m+1) (fun q hq=>h1 q (List.mem_cons_of_mem _ hq)) (fun c hc=>by
   obtain ⟨b',hb',hc⟩:=List.mem_flatMap.mp hc
   obtain ⟨g1,g2⟩:=h2 b' hb'
   rcases GD.nY hc with ⟨_,rfl⟩ | rfl
   ·refine ⟨fun q hq=>?_,by rw [List.length_append,List.length_singleton];omega⟩
    rcases List.mem_append.mp hq with hq | hq
    ·exact g1 q hq
    ·rw [List.mem_singleton.mp hq];exact h1 p (by simp)
   ·exact ⟨g1,by omega⟩) b hb
  exact ⟨z.1,by rw [List.length_cons];omega⟩
theorem nZ{n:Nat}{dn:List Nat}:(GD.bP n dn).length<=n:=by
 have:=List.length_filter_le (fun p=>!decide (p∈dn)) (List.range n)
 rwa [List.length_range] at this
theorem z8(T:Txt K mg t):FnOk P w K mg base CX0 3 t.f_Layer_full_beats t.e_Layer_full_beats ["self","done"] (sY K t.C_Layer):=by
 have G_Layer_has_room:=zd (P:=P) (w:=w) (base:=base) T
 have G_Layer_grown:=vQ (P:=P) (w:=w) (base:=base) T
 refine T.d_Layer_full_beats.F.ok sc_Layer_full_beats (fun vs H Q E h=>by obtain ⟨_,_,rfl,_⟩:=h;rfl) (fun cdv A outer s H vs Q E hr h=>?_)
 obtain ⟨p,d,rfl,ds,us,dn,L,hD,q⟩:=h
 have h8:=L.h8
 obtain ⟨dx,ub,sb,gb,qs,hob,hU,hSo,hGp,hql,hq⟩:=L.ob
 refine ⟨_,
   (XSs.h
   (af
    (ar (i:=3) sc_Layer_full_beats.nd rfl lc (b7 (tns:=["place"]) (cns:=["done"]) (ci:=[1]) rfl (CompSc.of (by kernel_rfl)) (bV gl T.z_range (aa (aq au gl T.z_len PySem.boot_len (aa (bS (yqv 0 vc) rfl) ac)) ac)) (fun _=>(aA (i:=1) (show List.Nodup [(".0":Str),("place":Str),("done":Str)] by decide +kernel) rfl ll (Or.inr (by kernel_rfl)))) (fun _=>(da (ap cG (yqv 1 vl) (yqv 2 vc) rfl))) (fun _=>(yqv 1 vl))))
   (af
    (ar (i:=4) sc_Layer_full_beats.nd rfl ll (aI (aa (aI ac) ac)))
   (af
    (bB PassesOwn.never rfl (aO (yqv 3 vc)) (aA (i:=2) sc_Layer_full_beats.nd rfl ll)
     (ag
      (ar (i:=4) sc_Layer_full_beats.nd rfl ll (aM T.c_Layer.cl T.d_Layer_grown G_Layer_grown (hr.mono (by first | decide | omega)) (yqv 0 vc) (aa (yqv 1 vc) (aa (yqv 4 vl) (aa (yqv 2 vl) ac)))))))
   (ag
    (ao (b7 (tns:=["beat"]) (cns:=["self","done","missing"]) (ci:=[0,1,3]) rfl (CompSc.of (by kernel_rfl)) (aO (yqv 4 vl)) (fun _=>(aA (i:=1) (show List.Nodup [(".0":Str),("beat":Str),("self":Str),("done":Str),("missing":Str)] by decide +kernel) rfl ll (Or.inr (by kernel_rfl)))) (fun _=>(da (bu (b8 (aM T.c_Layer.cl T.d_Layer_has_room G_Layer_has_room (hr.mono (by first | decide | omega)) (yqv 2 vc) (aa (yqv 3 vc) (aa (yqv 1 vl) (aa (yqv 4 vc) ac)))))))) (fun _=>(yqv 1 vl))))))))),?_⟩
 rw [show aG _ [V.ref p,V.ref d]=[some (.ref p),some (.ref d),none,none,none] from rfl]
 simp_arith [qN,sK]
 refine ga hob T.c_Layer.cl T.n_Layer_sorts rfl ?_
 refine ⟨sb,_,rfl,.inl (SqL.of hSo),by rw [List.length_map];omega,by rw [List.length_map];omega,fun acc hacc bk=>?_⟩
 rw [List.length_map,Int.toNat_natCast]
 refine j8 (fun q=>!decide (q∈dn)) (fun q=>V.int q) (by rw [sizeLine_eq];omega) hacc (fun i hi H2 Q' s2 h=>?_) (fun i hi H2 Q' s2 _ h=>?_) fun H2 s2 hm=>?_
 ·simp_arith []
  refine ⟨_,.inr (s2.seqT hD),rfl,eU,?_⟩
  rw [jf]
  exact h H2 (Same.refl _)
 ·simp_arith []
  exact h H2 (Same.refl _)
 replace hm:H2 acc=some (.lst (nl (GD.bP ds.length dn))):=hm
 have hml:=nZ (n:=ds.length) (dn:=dn)
 have hmm:∀q∈GD.bP ds.length dn,q < ds.length:=fun q hq=>(GD.miss_iff.mp hq).1
 have hfull:GD.bE (aF ds) (soN ds) (uN us) ds.length dn=((GD.bP ds.length dn).foldl (GD.bn (aF ds) (soN ds) (uN us) dn) [[]]).filter fun b=>!GD.roomB (aF ds) (soN ds) (uN us) dn b (GD.bP ds.length dn):=rfl
 rw [hfull] at q
 generalize GD.bP ds.length dn=ms at hm hml hmm q
 have hbs:∀i,i<=ms.length->∀b∈(ms.take i).foldl (GD.bn (aF ds) (soN ds) (uN us) dn) [[]],(∀q∈b,q < ds.length)/\b.length<=i:=fun i hi b hb=>by
  have z:=rZ (us:=us) (dn:=dn) (ms.take i) [[]] 0 (fun q hq=>hmm q (List.mem_of_mem_take hq)) (fun b hb=>by rw [List.mem_singleton.mp hb];exact ⟨fun q hq=>(by cases hq),Nat.le_refl _⟩) b hb
  rw [List.length_take] at z
  exact ⟨z.1,by omega⟩
 have hbl:∀i,i<=ms.length->((ms.take i).foldl (GD.bn (aF ds) (soN ds) (uN us) dn) [[]]).length<=256:=fun i hi=>by
  have z:=GD.je (G:=aF ds) (so:=soN ds) (U:=uN us) (dn:=dn) (ms.take i) [[]]
  rw [List.length_take,List.length_singleton,Nat.mul_one] at z
  exact Nat.le_trans z (Nat.le_trans (Nat.pow_le_pow_right (by decide) (show min i ms.length<=8 by omega)) (by decide))
 intro p2 hp2 p3 hp3
 have s3:=(Same.upd (o:=.lst []) hp2).trans (Same.upd (o:=.lst [V.ref p2]) hp3)
 refine ⟨⟨_,SqL.of (s3 _ _ hm)⟩,?_⟩
 refine cv (xs:=nl ms) (fun i σ H'=>Same H H'/\H' acc=some (.lst (nl ms))/\∃(o2:Option V)(c:Addr),σ=[some (.ref p),some (.ref d),o2,some (.ref acc),some (.ref c)]/\LLN H' c ((ms.take i).foldl (GD.bn (aF ds) (soN ds) (uN us) dn) [[]])) ⟨s2.trans s3,s3 _ _ hm,_,p3,rfl,[p2],ae,.cons ?_ .nil⟩ (fun i σ H' _ h=>SqL.of h.2.1) ?_ ?_
 ·rw [al (ai ae hp3)];exact ae
 ·rintro i x σ H3 hx ⟨s4,hm3,o2,c,rfl,hl⟩
  unfold nl at hx
  rw [List.getElem?_map] at hx
  obtain ⟨pl,hpl,rfl⟩:=Option.map_eq_some_iff.mp hx
  obtain ⟨hi,ei⟩:=List.getElem?_eq_some_iff.mp hpl
  simp_arith [sK]
  refine bw (s4 _ _ hob) rfl ⟨ds,us,dn,_,pl,rfl,L.same s4,s4.seqT hD,hl,hmm pl (List.mem_of_getElem? hpl),fun b hb=>⟨(hbs i (by omega) b hb).1,by have:=(hbs i (by omega) b hb).2;omega⟩,by have:=hbl i (by omega);omega,fun c' H4 s5 hl4=>⟨s4.trans s5,s5 _ _ hm3,_,c',rfl,?_⟩⟩
  rw [List.take_succ_eq_append_getElem hi,ei,List.foldl_append]
  exact hl4
 ·rintro σ H3 ⟨s4,hm3,o2,c,rfl,ps,hc,hps⟩
  rw [dJ] at hps
  have hbs':=hbs ms.length (Nat.le_refl _)
  have hbl':=hbl ms.length (Nat.le_refl _)
  rw [List.take_length] at hps hbs' hbl'
  generalize ms.foldl (GD.bn (aF ds) (soN ds) (uN us) dn) [[]]=bts at hps hbs' hbl' q
  have lps:=hps.length
  simp_arith [qN]
  refine ⟨⟨_,SqL.of hc⟩,fun acc2 hacc2 bk2=>?_⟩
  refine cD (xs:=ps.map V.ref) (fun i ys H'=>Same H3 H'/\∃rs:List Addr,ys=rs.map V.ref/\H' acc2=some (.lst ys)/\rs.length<=i/\Paired (fun r (b:List Nat)=>H3 r=some (.lst (nl b))) rs ((bts.take i).filter fun b=>!GD.roomB (aF ds) (soN ds) (uN us) dn b ms)) ⟨Same.upd hacc2,[],rfl,ae,Nat.le_refl _,.nil⟩ (fun i ys H' _ h=>SqL.of (h.1 _ _ hc)) ?_ ?_
  ·rintro i x ys H' os hx ho ⟨sm,rs,rfl,e1,lrs,hrs⟩
   rw [List.getElem?_map] at hx
   obtain ⟨bp,hbp,rfl⟩:=Option.map_eq_some_iff.mp hx
   obtain ⟨bt,hbt,hpb⟩:=Paired.get hps hbp
   obtain ⟨hi,ei⟩:=List.getElem?_eq_some_iff.mp hbt
   obtain ⟨b1,b2⟩:=hbs' bt (List.mem_of_getElem? hbt)
   match os,ho with
   | [o],_=>
    simp_arith [qN]
    have s5:=s4.trans sm
    refine ⟨⟨[some (.ref bp)],rfl,rfl⟩,bw (s5 _ _ hob) rfl ⟨ds,us,dn,bt,ms,L.same s5,s5.seqT hD,SqL.of (sm _ _ hpb),SqL.of (sm _ _ hm3),b1,by omega,hmm,by omega,fun H5 s6=>⟨_,rfl,?_⟩⟩⟩
    have s7:=sm.trans s6
    rw [List.take_succ_eq_append_getElem hi,ei,List.filter_append]
    cases hroom:GD.roomB (aF ds) (soN ds) (uN us) dn bt ms with
    | false=>
     simp only [Bool.not_false,if_true]
     refine ⟨s6 _ _ e1,by rw [List.length_map,sizeLine_eq];omega,s7.updM hacc2,rs ++ [bp],by rw [List.map_append];rfl,ae,by rw [List.length_append,List.length_singleton];omega,?_⟩
     rw [List.filter_cons_of_pos (by rw [hroom];rfl),List.filter_nil]
     exact Paired.snoc hrs hpb
    | true=>
     simp only [Bool.not_true,Bool.false_eq_true,if_false]
     refine ⟨s7,rs,rfl,s6 _ _ e1,by omega,?_⟩
     rw [List.filter_cons_of_neg (by rw [hroom];simp),List.filter_nil,List.append_nil]
     exact hrs
  ·rintro ys H' ⟨sm,rs,rfl,e1,lrs,hrs⟩
   rw [List.length_map,lps,List.take_length] at hrs
   exact q acc2 H' (s4.trans sm) ⟨rs,e1,Paired.mapP hrs fun _ _ z=>sm _ _ z⟩
theorem vS(T:Txt K mg t)(hw:t.pr=w.params):FnOk P w K mg base CX0 11 t.f_Layer___init__ t.e_Layer___init__ ["self","deeds","units"] (pN K t.C_Layer):=by
 have G_sort_of:=ul (P:=P) (base:=base) T hw
 have G_gap:=Bg (P:=P) (w:=w) (base:=base) T
 refine T.d_Layer___init__.F.ok gS (fun vs H Q E h=>by obtain ⟨_,_,_,rfl,_⟩:=h;rfl) (fun cdv A outer s H vs Q E hr h=>?_)
 obtain ⟨p,a,b,rfl,H0,dx,ds,us,s0,hp0,hp,hI,q⟩:=h
 obtain ⟨xs,hS,hds,h8,hU,h3,hpos⟩:=hI
 have lx:=hds.length
 refine ⟨_,
   (XSs.h
   (af
    (db (yqv 0 vl) (yqv 2 vl) rfl)
   (af
    (db (yqv 0 vl) (b7 (tns:=["deed"]) (cns:=[]) (ci:=[]) rfl (CompSc.of (by kernel_rfl)) (aO (yqv 1 vc)) (fun _=>(aA (i:=1) (show List.Nodup [(".0":Str),("deed":Str)] by decide +kernel) rfl ll (Or.inr (by kernel_rfl)))) (fun _=>bN) (fun _=>(am T.d_sort_of G_sort_of (hr.mono (by first | decide | omega)) (aa (yqv 1 vl) ac) gl))) rfl)
   (ag
    (db (yqv 0 vl) (uT (z0:="k") (tns:=["k"]) (cns:=["deeds"]) (ci:=[1]) rfl (CompScZ.of (by kernel_rfl) (fun _ _=>rfl) (fun _=>rfl)) (bV gl T.z_range (aa (aq au gl T.z_len PySem.boot_len (aa (yqv 1 vc) ac)) ac)) (fun _=>(aA (i:=1) (show List.Nodup [(".0":Str),("k":Str),("deeds":Str)] by decide +kernel) rfl lc (Or.inl rfl))) (fun _=>bN) (fun _=>(b7 (tns:=["j"]) (cns:=["k","deeds"]) (ci:=[1,2]) rfl (CompSc.of (by kernel_rfl)) (bV gl T.z_range (aa (yqv 1 vc) ac)) (fun _=>(aA (i:=1) (show List.Nodup [(".0":Str),("j":Str),("k":Str),("deeds":Str)] by decide +kernel) rfl ll (Or.inr (by kernel_rfl)))) (fun _=>bN) (fun _=>(am T.d_gap G_gap (hr.mono (by first | decide | omega)) (aa (yqv 3 vc) (aa (yqv 1 vl) (aa (yqv 2 vc) ac))) gl))))) rfl))))),?_⟩
 rw [show aG _ [V.ref p,V.ref a,V.ref b]=[some (.ref p),some (.ref a),some (.ref b)] from rfl]
 simp_arith! [kd,jI]
 refine nQ hp T.c_Layer.cl T.n_Layer_units (by simp) ?_
 rw [eZ (by rfl),List.nil_append]
 have s1:=s0.updM (o:=.ins t.C_Layer dx [("units",V.ref b)]) hp0
 have e1:upd H p (.ins t.C_Layer dx [("units",V.ref b)]) p=some (.ins t.C_Layer dx [("units",V.ref b)]):=ae
 generalize upd H p (.ins t.C_Layer dx [("units",V.ref b)])=H1 at s1 e1 ⊢
 refine later ?_
 simp_arith! [kd,jI]
 refine ⟨⟨_,s1.seq hS⟩,fun acc hacc bk=>?_⟩
 refine cD (xs:=xs) (fun i ys H'=>Same H1 H'/\H' acc=some (.lst ys)/\ys=(ds.take i).map sV) ⟨Same.upd hacc,ae,by simp⟩ (fun i ys H' _ h=>(s1.trans h.1).seq hS) ?_ ?_
 ·rintro i x ys H' os hx ho ⟨sm,e2,rfl⟩
  obtain ⟨d,hd,fd,qx,rfl,hqx⟩:=Paired.get (hds.ts (s1.trans sm).ts) hx
  obtain ⟨hi,ei⟩:=List.getElem?_eq_some_iff.mp hd
  match os,ho with
  | [o],_=>
   simp_arith [kd]
   refine ⟨⟨[some (.ref qx)],rfl,rfl⟩,d,hqx,fd,e2,by rw [List.length_map,List.length_take,sizeLine_eq];omega,sm.updM hacc,ae,?_⟩
   rw [List.take_succ_eq_append_getElem hi,ei,List.map_append]
   rfl
 ·rintro ys H2 ⟨s2,e2,rfl⟩
  rw [lx,List.take_length] at e2
  have fa:=s1.free hacc
  refine nQ (s2 _ _ e1) T.c_Layer.cl T.n_Layer_sorts (by simp) ?_
  rw [eZ (by kernel_rfl)]
  have npa:acc≠p:=(ai e1 hacc).symm
  have s3:=(s1.trans s2).updM (o:=.ins t.C_Layer dx ([(("units":Str),V.ref b)] ++ [(("sorts":Str),V.ref acc)])) hp0
  have e3:upd H2 p (.ins t.C_Layer dx ([(("units":Str),V.ref b)] ++ [(("sorts":Str),V.ref acc)])) p=some (.ins t.C_Layer dx ([(("units":Str),V.ref b)] ++ [(("sorts":Str),V.ref acc)])):=ae
  have g3:upd H2 p (.ins t.C_Layer dx ([(("units":Str),V.ref b)] ++ [(("sorts":Str),V.ref acc)])) acc=some (.lst (ds.map sV)):=by rw [al npa];exact e2
  generalize upd H2 p (.ins t.C_Layer dx ([(("units":Str),V.ref b)] ++ [(("sorts":Str),V.ref acc)]))=H3 at s3 e3 g3 ⊢
  refine later ?_
  simp_arith! [jI]
  refine ⟨xs,.inl (s3.seq hS),by omega,by omega,fun ac2 hac2 bk2=>?_⟩
  rw [Int.toNat_natCast,lx]
  refine j7 (fun k ys H'=>Same H3 H'/\∃qs:List Addr,ys=qs.map V.ref/\H' ac2=some (.lst ys)/\qs.length=k/\∀(j:Nat)q,qs[j]?=some q->q≠ac2/\H' q=some (.lst ((List.range j).map fun i=>FB.mq (aF ds i j)))) ⟨Same.upd hac2,[],rfl,ae,rfl,fun j q h=>by simp at h⟩ ?_ ?_
  ·rintro k ys H' os hk ho ⟨sm,qs,rfl,e4,lq,hqs⟩
   rw [show (0:Int)+(k:Int)=(k:Int) by omega]
   match os,ho with
   | [o],_=>
    simp_arith [jI]
    refine ⟨⟨[some (.int k)],rfl,rfl⟩,by omega,by omega,fun ac3 hac3 bk3=>?_⟩
    rw [Int.toNat_natCast]
    refine j8 (fun _=>true) (fun j=>FB.mq (aF ds j k)) (by rw [sizeLine_eq];omega) hac3 (fun j hj H4 Q' s4 h=>h H4 (Same.refl _)) (fun j hj H4 Q' s4 _ h=>?_) fun H4 s4 e5=>?_
    ·simp_arith [jI]
     have s5:=(s3.trans sm).trans s4
     exact ⟨xs,ds,j,k,rfl,rfl,s5.seq hS,hds.ts s5.ts,hj,by omega,h⟩
    ·rw [List.filter_eq_self.mpr (fun _ _=>rfl)] at e5
     refine ⟨s4 _ _ e4,by rw [List.length_map,sizeLine_eq];omega,(sm.trans s4).updM hac2,qs ++ [ac3],by rw [List.map_append];rfl,ae,by rw [List.length_append,List.length_singleton];omega,fun j q hj=>?_⟩
     have n3:ac3≠ac2:=(ai e4 hac3).symm
     by_cases hlt:j < qs.length
     ·rw [List.getElem?_append_left hlt] at hj
      obtain ⟨z1,z2⟩:=hqs j q hj
      exact ⟨z1,by rw [al z1];exact s4 _ _ z2⟩
     ·have hjl:=(List.getElem?_eq_some_iff.mp hj).1
      rw [List.length_append,List.length_singleton] at hjl
      obtain rfl:j=qs.length:=by omega
      rw [List.getElem?_append_right (Nat.le_refl _),Nat.sub_self] at hj
      cases hj
      refine ⟨n3,?_⟩
      rw [al n3,lq]
      exact e5
  ·rintro ys H4 ⟨s4,qs,rfl,e4,lq,hqs⟩
   refine nQ (s4 _ _ e3) T.c_Layer.cl T.n_Layer_gaps (by simp) ?_
   rw [eZ (by kernel_rfl)]
   have nac:ac2≠p:=(ai e3 hac2).symm
   have s5:=(s3.trans s4).updM (o:=.ins t.C_Layer dx ([(("units":Str),V.ref b)] ++ [(("sorts":Str),V.ref acc)] ++ [(("gaps":Str),V.ref ac2)])) hp0
   refine q _ s5 ⟨⟨dx,b,acc,ac2,qs,ae,s5.seqT hU,?_,?_,lq,fun k qq hk=>?_⟩,h8,h3,hpos⟩
   ·rw [al npa];exact s4 _ _ g3
   ·rw [al nac];exact e4
   ·obtain ⟨z1,z2⟩:=hqs k qq hk
    rw [al (dl z2 (s4 _ _ e3) (by intro z;cases z))]
    exact z2
end
end K50
variable {H H':Hp}
namespace K50
open PySem L2 PyProof.Rows FD FB FS FO FR
def LSt(H H':Hp):Prop:=∀b xs,H b=some (.lst xs)->H' b=some (.lst xs)
theorem LSt.of{H:Hp}(s:Same H H'):LSt H H':=fun b xs e=>s _ _ e
theorem LSt.trans{H H1 H2:Hp}(a:LSt H H1)(b:LSt H1 H2):LSt H H2:=fun c xs e=>b _ _ (a _ _ e)
theorem LSt.upd{H:Hp}{l:Addr}{o u:HO}(e:H l=some u)(hn:∀xs,u≠.lst xs):LSt H (upd H l o):=fun b xs eb=>by rw [al (dl eb e (fun z=>hn xs z.symm))];exact eb
theorem LLN.lst{H:Hp}{c:Addr}{bts:List (List Nat)}(s:LSt H H')(h:LLN H c bts):LLN H' c bts:=
 let ⟨ps,e,r⟩:=h;⟨ps,s _ _ e,Paired.mapP r fun _ _ z=>s _ _ z⟩
def km(ps:List Nat):List Key:=ps.map fun p:Nat=>(Sum.inl (p:Int):Key)
theorem sk{ps:List Nat}:(km ps).map kV=nl ps:=by unfold km nl;rw [List.map_map];rfl
theorem vC:∀{a b:List Nat},km a=km b->a=b
 | [],[],_=>rfl
 | [],_ :: _,h=>by cases h
 | _ :: _,[],h=>by cases h
 | x :: a,y :: b,h=>by
  unfold km at h
  rw [List.map_cons,List.map_cons,List.cons.injEq] at h
  have e:(x:Int)=(y:Int):=Sum.inl.inj h.1
  rw [vC (a:=a) (b:=b) h.2,show x=y by omega]
def WsV(H:Hp)(kvs:List (List Key×V))(ws:List (List Nat×List (List Nat))):Prop:=Paired (fun (kv:List Key×V) (w:List Nat×List (List Nat))=>kv.1=km w.1/\∃c,kv.2=.ref c/\LLN H c w.2) kvs ws
theorem WsV.lst{H:Hp}{kvs:List (List Key×V)}{ws:List (List Nat×List (List Nat))}(s:LSt H H')(h:WsV H kvs ws):WsV H' kvs ws:=Paired.mapP h fun _ _ ⟨z1,c,z2,z3⟩=>⟨z1,c,z2,z3.lst s⟩
theorem WsV.val{H:Hp}{kvs:List (List Key×V)}{ws:List (List Nat×List (List Nat))}(h:WsV H kvs ws)(k:List Nat):(k∉ws.map (·.1)/\d5 kvs (km k)=none)\/∃w∈ws,w.1=k/\∃c,d5 kvs (km k)=some (.ref c)/\LLN H c w.2:=by
 unfold WsV at h
 induction h with
 | nil=>exact .inl ⟨by simp,rfl⟩
 | @cons kv w kvs ws hd tl ih=>
  obtain ⟨e1,c,e2,hl⟩:=hd
  by_cases e:w.1=k
  ·refine .inr ⟨w,by simp,e,c,?_,hl⟩
   rw [kz (by rw [e1,e]),e2]
  ·have ne:¬kv.1=km k:=fun z=>e (vC (e1.symm.trans z))
   rcases ih with ⟨h1,h2⟩ | ⟨w',hw',h1,c',h2,h3⟩
   ·refine .inl ⟨?_,by rw [i0 ne];exact h2⟩
    rw [List.map_cons,List.mem_cons]
    exact fun z=>z.elim (fun z=>e z.symm) h1
   ·exact .inr ⟨w',List.mem_cons_of_mem _ hw',h1,c',by rw [i0 ne];exact h2,h3⟩
theorem WsV.put{H:Hp}{kvs:List (List Key×V)}{ws:List (List Nat×List (List Nat))}(h:WsV H kvs ws){k:List Nat}{c:Addr}{bss:List (List Nat)}(hc:LLN H c bss):WsV H (kvs ++ [(km k,.ref c)]) (ws ++ [(k,bss)]):=Paired.snoc h ⟨rfl,c,rfl,hc⟩
section
variable {P:Program} {w:World} {K:PySem.W.Frag} {mg:Str->Option Value} {base:Heap} {t:Ad}
structure RoundH(H1 H:Hp)(wa lo:Addr)(o:Obj)(kvs:List (List Key×V))(ws acc:List (List Nat×List (List Nat))):Prop where
 same:Same H1 H
 fr:H1 lo=none
 old:H wa=some (.frz o (.dT kvs))
 wsv:WsV H kvs ws
 now:∃kv2,H lo=some (.dT kv2)/\WsV H kv2 acc
theorem RoundH.mv{H1 H:Hp}{wa lo:Addr}{o:Obj}{kvs:List (List Key×V)}{ws acc:List (List Nat×List (List Nat))}(h:RoundH H1 H wa lo o kvs ws acc)(s:Same H H'):RoundH H1 H' wa lo o kvs ws acc:=
 ⟨h.same.trans s,h.fr,s _ _ h.old,h.wsv.lst (LSt.of s),let ⟨kv2,e,r⟩:=h.now;⟨kv2,s _ _ e,r.lst (LSt.of s)⟩⟩
theorem RoundH.put{H1 H:Hp}{wa lo:Addr}{o:Obj}{kvs kv2:List (List Key×V)}{ws acc:List (List Nat×List (List Nat))}{k:List Nat}{c:Addr}{bss:List (List Nat)}(h:RoundH H1 H wa lo o kvs ws acc)(e:H lo=some (.dT kv2))(r:WsV H kv2 acc)(hk:k∉acc.map (·.1))(hc:LLN H c bss):
  RoundH H1 (upd H lo (.dT (kv2 ++ [(km k,.ref c)]))) wa lo o kvs ws (GD.gW acc k bss):=by
 have ls:LSt H (upd H lo (.dT (kv2 ++ [(km k,.ref c)]))):=LSt.upd e (by intro xs z;cases z)
 refine ⟨h.same.updM h.fr,h.fr,?_,h.wsv.lst ls,kv2 ++ [(km k,.ref c)],ae,?_⟩
 ·rw [al (dl h.old e (by intro z;cases z))];exact h.old
 ·unfold GD.gW
  rw [if_neg hk]
  exact (r.put hc).lst ls
end
def pM(K:PySem.W.Frag):Sp:=fun vs H Q _=>∃(a b:Addr)(ds:List FB.Deed)(us:List Int),vs=[.ref a,.ref b]/\lU K H a b ds us/\∀c r bss H',Same H H'->LLN H' c bss->(List.range ds.length,bss)∈GD.bJ (aF ds) (soN ds) (uN us) ds.length r->(∀k,k < r->List.range ds.length∉(GD.bJ (aF ds) (soN ds) (uN us) ds.length k).map (·.1))->Q (.ref c) H'
section
variable {P:Program} {w:World} {K:PySem.W.Frag} {mg:Str->Option Value} {base:Heap} {t:Ad}
theorem wQ{ty td:TE}{σ:L2.St}{H:Hp}{Q:VK}:mE ty td σ H Q=ty σ H fun y H1=>td σ H1 fun x H2=>∃a o,x=.ref a/\DGet H2 a y o/\Q (.bl (!o.isSome)) H2:=rfl
theorem vR(T:Txt K mg t)(hw:t.pr=w.params):FnOk P w K mg base CX0 14 t.f_laid t.e_laid ["deeds","units"] (pM K):=by
 have G_Layer___init__:=vS (P:=P) (base:=base) T hw
 have G_Layer_full_beats:=z8 (P:=P) (w:=w) (base:=base) T
 refine T.d_laid.F.ok sc_laid (fun vs H Q E h=>by obtain ⟨_,_,_,_,rfl,_⟩:=h;rfl) (fun cdv A outer s H vs Q E hr h=>?_)
 obtain ⟨a,b,ds,us,rfl,hI,q⟩:=h
 have hu:=sd hr
 refine ⟨_,
   (XSs.h
   (af
    (ar (i:=2) sc_laid.nd rfl ll (lT T.c_Layer T.d_Layer___init__ G_Layer___init__ (hr.mono (by first | decide | omega)) (aa (yqv 0 vl) (aa (yqv 1 vl) ac)) gl))
   (af
    (ar (i:=3) sc_laid.nd rfl ll (rf rfl T.z_tuple T.z_range (aa (aq au gl T.z_len PySem.boot_len (aa (yqv 0 vl) ac)) ac) gl gl))
   (af
    (ar (i:=4) sc_laid.nd rfl ll (re hu (aE ac) (aI ac)))
   (af
    (lS PassesOwn.never (A2 (rb hu (yqv 3 vl) (yqv 4 vl)))
     (af
      (ar (i:=5) sc_laid.nd rfl ll uU)
     (af
      (bB PassesOwn.never rfl (rh (yqv 4 vl)) (mM rfl (cP (aA (i:=6) sc_laid.nd rfl ll) (cP (aA (i:=7) sc_laid.nd rfl ll) kC)))
       (ag
        (bB PassesOwn.never rfl (aO (aM T.c_Layer.cl T.d_Layer_full_beats G_Layer_full_beats (hr.mono (by first | decide | omega)) (yqv 2 vl) (aa (yqv 6 vl) ac))) (aA (i:=8) sc_laid.nd rfl ll)
         (ag
          (bg (bM PySem.F.plainAttrs_dict PySem.F.slot_dict_setdefault PySem.F.type_dict_setdefault (kI hu) (yqv 5 vl) (aa (bO kG gl T.z_tuple boot_tuple (aa (aq nA gl T.z_sorted boot_sorted (aa (ak fU (bO bX gl T.z_list boot_list (aa (yqv 6 vl) ac)) (yqv 8 vl)) ac)) ac)) (aa (ak fU (yqv 7 vl) (aI (aa (yqv 8 vl) ac))) ac))))))))
     (ag
      (ar (i:=4) sc_laid.nd rfl ll (yqv 5 vl))))))
   (ag
    (ao (yf hu (yqv 4 vl) (yqv 3 vl) (fun _ _=>rfl))))))))),?_⟩
 rw [show aG _ [V.ref a,V.ref b]=[some (.ref a),some (.ref b),none,none,none,none,none,none,none] from rfl]
 simp_arith! [zG,qM]
 intro ly dx hly hdx hne
 refine ⟨ly,a,b,rfl,H,dx,ds,us,(Same.upd hdx).trans (Same.upd (by rw [al hne.symm];exact hly)),hly,ae,hI,fun H1 s1 L1=>⟨rfl,?_⟩⟩
 obtain ⟨xs,hS,hds,h8,hU,h3,hpos⟩:=hI
 have lx:=hds.length
 refine later ?_
 simp_arith! []
 refine ⟨xs,.inl (s1.seq hS),ds.length,by rw [lx],by omega,fun ev hev=>?_⟩
 have s2:=s1.updN (o:=.tup ((List.range ds.length).map fun i:Nat=>V.int i)) hev
 have L2:=L1.same (Same.upd (o:=.tup ((List.range ds.length).map fun i:Nat=>V.int i)) hev)
 have e2:upd H1 ev (.tup ((List.range ds.length).map fun i:Nat=>V.int i)) ev=some (.tup (nl (List.range ds.length))):=ae
 generalize upd H1 ev (.tup ((List.range ds.length).map fun i:Nat=>V.int i))=H2 at s2 L2 e2 ⊢
 refine later ?_
 simp_arith! []
 intro wa hwa tp htp li hli
 have eW:=((Same.upd (o:=.tup []) htp).trans (Same.upd (o:=.lst []) hli)) wa _ ae
 refine ⟨eW,tp,[],rfl,Same.upd hli _ _ ae,?_⟩
 have s3:Same H2 (upd (upd (upd (upd H2 wa (.dT [])) tp (.tup [])) li (.lst [])) wa (.dT [([],.ref li)])):=((Same.upd hwa).trans ((Same.upd htp).trans (Same.upd hli))).updM hwa
 have e3:upd (upd (upd (upd H2 wa (.dT [])) tp (.tup [])) li (.lst [])) wa (.dT [([],.ref li)]) wa=some (.dT [([],.ref li)]):=ae
 have w3:WsV (upd (upd (upd (upd H2 wa (.dT [])) tp (.tup [])) li (.lst [])) wa (.dT [([],.ref li)])) [([],.ref li)] (GD.bJ (aF ds) (soN ds) (uN us) ds.length 0):=
  .cons ⟨rfl,li,rfl,[],by rw [al (ai (Same.upd htp _ _ ae) hli).symm];exact ae,.nil⟩ .nil
 generalize upd (upd (upd (upd H2 wa (.dT [])) tp (.tup [])) li (.lst [])) wa (.dT [([],.ref li)])=H3 at s3 e3 w3 ⊢
 refine later ?_
 simp_arith! []
 have hpos2:=L2.pos
 obtain ⟨n,hn⟩:∃n,n=ds.length:=⟨_,rfl⟩
 rw [<- hn] at e2 w3 q h8
 obtain ⟨dx2,ub,sb,gb,qs,hob,_⟩:=L2.ob
 refine ⟨fun m σ H'=>∃(r:Nat)(wa:Addr)(kvs:List (List Key×V)) (o5 o6 o7 o8:Option V),m=n - r/\σ=[some (.ref a),some (.ref b),some (.ref ly),some (.ref ev),some (.ref wa),o5,o6,o7,o8]/\Same H2 H'/\H2 wa=none/\H' wa=some (.dT kvs)/\WsV H' kvs (GD.bJ (aF ds) (soN ds) (uN us) n r)/\∀k,k < r->List.range n∉(GD.bJ (aF ds) (soN ds) (uN us) n k).map (·.1),
  ⟨_,0,wa,_,none,none,none,none,rfl,rfl,s3,hwa,e3,w3,fun k hk=>absurd hk (by omega)⟩,?_⟩
 rintro m σ H4 ⟨r,wb,kvs,o5,o6,o7,o8,rfl,rfl,s4,hwb,e4,w4,hno⟩
 simp_arith! [wQ]
 refine ⟨wb,_,rfl,DGet.t (k:=km (List.range n)) e4 (by rw [sk];exact s4 _ _ e2),?_⟩
 rcases w4.val (List.range n) with ⟨hk,hv⟩ | ⟨w',hw',hk',c,hv,hl⟩
 ·rw [hv,if_pos (show (!(none:Option V).isSome)=true from rfl)]
  have hlt:r < n:=GD.zW hpos2 fun k hk2=>by
   by_cases e:k=r
   ·rw [e];exact hk
   ·exact hno k (by omega)
  refine ⟨fun σ H'=>∃(wa:Addr)(kvs:List (List Key×V)) (o5 o6 o7 o8:Option V),σ=[some (.ref a),some (.ref b),some (.ref ly),some (.ref ev),some (.ref wa),o5,o6,o7,o8]/\Same H2 H'/\H2 wa=none/\H' wa=some (.dT kvs)/\WsV H' kvs (GD.bJ (aF ds) (soN ds) (uN us) n (r+1)),?_,?_⟩
  ·rintro σ' H' ⟨wc,kv2,p5,p6,p7,p8,rfl,z1,z2,z3,z4⟩
   refine ⟨n - (r+1),by omega,r+1,wc,kv2,p5,p6,p7,p8,rfl,rfl,z1,z2,z3,z4,fun k hk2=>?_⟩
   by_cases e:k=r
   ·rw [e];exact hk
   ·exact hno k (by omega)
  intro lo hlo
  refine later ?_
  simp_arith! []
  have sl:=Same.upd (o:=.dT []) hlo
  refine ⟨wb,kvs,rfl,sl _ _ e4,fun o=>?_⟩
  have nlw:lo≠wb:=(ai e4 hlo).symm
  have R0:RoundH H2 (upd (upd H4 lo (.dT [])) wb (.frz o (.dT kvs))) wb lo o kvs (GD.bJ (aF ds) (soN ds) (uN us) n r) []:=
   ⟨(s4.trans sl).updM hwb,s4.free hlo,ae,w4.lst ((LSt.of sl).trans (LSt.upd (sl _ _ e4) (by intro xs z;cases z))),[],by rw [al nlw];exact ae,.nil⟩
  generalize upd (upd H4 lo (.dT [])) wb (.frz o (.dT kvs))=H6 at R0 ⊢
  have lw:=w4.length
  have wok:=GD.i3 (G:=aF ds) (so:=soN ds) (U:=uN us) (n:=n) r
  have hstep:GD.bJ (aF ds) (soN ds) (uN us) n (r+1)=(GD.bJ (aF ds) (soN ds) (uN us) n r).foldl (fun acc w=>GD.cZ n acc w (GD.bE (aF ds) (soN ds) (uN us) n w.1)) []:=rfl
  rw [hstep]
  generalize GD.bJ (aF ds) (soN ds) (uN us) n r=ws at lw wok R0 ⊢
  refine vn (fun i σ H'=>RoundH H2 H' wb lo o kvs ws ((ws.take i).foldl (fun acc w=>GD.cZ n acc w (GD.bE (aF ds) (soN ds) (uN us) n w.1)) [])/\∃o6 o7 o8,σ=[some (.ref a),some (.ref b),some (.ref ly),some (.ref ev),some (.ref wb),some (.ref lo),o6,o7,o8]) ⟨R0,_,_,_,rfl⟩ (fun i σ H' _ h=>h.1.old) ?_ ?_
  ·rintro i k v bb σ H7 p hki hb hp ⟨R,o6,o7,o8,rfl⟩
   obtain ⟨w,hwi,ek,c,ev2,hlc⟩:=Paired.get R.wsv hki
   subst ev2
   subst ek
   obtain ⟨hi,ei⟩:=List.getElem?_eq_some_iff.mp hwi
   simp_arith! [qM]
   refine ⟨_,SqT.of ae,rfl,?_⟩
   have sp:=Same.upd (o:=.tup [.ref bb,.ref c]) hp
   have R8:=R.mv sp
   have hb8:=sp _ _ hb
   have hlc8:=hlc.same sp
   generalize upd H7 p (.tup [.ref bb,.ref c])=H8 at R8 hb8 hlc8 ⊢
   rw [sk] at hb8
   simp_arith! [qM]
   refine bw (R8.same _ _ hob) rfl ⟨ds,us,w.1,L2.same R8.same,SqT.of hb8,fun c2 H9 s9 hl9=>?_⟩
   rw [<- hn] at hl9
   obtain ⟨ps,hc2,hps⟩:=hl9
   have lps:=hps.length
   have R9:=R8.mv s9
   have hl:=wok.lay w (List.mem_of_getElem? hwi)
   obtain ⟨acc,hacc⟩:∃acc,acc=(ws.take i).foldl (fun acc w=>GD.cZ n acc w (GD.bE (aF ds) (soN ds) (uN us) n w.1)) []:=⟨_,rfl⟩
   have eacc:(ws.take (i+1)).foldl (fun acc w=>GD.cZ n acc w (GD.bE (aF ds) (soN ds) (uN us) n w.1)) []=GD.cZ n acc w (GD.bE (aF ds) (soN ds) (uN us) n w.1):=by rw [List.take_succ_eq_append_getElem hi,ei,List.foldl_append,hacc];rfl
   have aok:GD.WOk (aF ds) (soN ds) (uN us) n (r+1) acc:=by
    rw [hacc]
    exact GD.WOk.step _ _ (fun x hx=>wok.lay x (List.mem_of_mem_take hx)) ⟨fun x hx=>(by cases hx),by simp⟩
   rw [eacc]
   rw [<- hacc] at R9
   have hfine:∀b∈GD.bE (aF ds) (soN ds) (uN us) n w.1,GD.Fine (aF ds) (soN ds) (uN us) w.1 (GD.bP n w.1) b/\b∈GD.bE (aF ds) (soN ds) (uN us) n w.1:=fun b hb=>⟨GD.i7 hpos2 hb,hb⟩
   generalize hbs:GD.bE (aF ds) (soN ds) (uN us) n w.1=bs at hps hfine lps ⊢
   refine ⟨c2,rfl,⟨_,SqL.of hc2⟩,?_⟩
   refine cv (xs:=ps.map V.ref) (fun j σ H'=>RoundH H2 H' wb lo o kvs ws (GD.cZ n acc w (bs.take j))/\LSt H9 H'/\H' bb=some (.tup (nl w.1))/\∃o8,σ=[some (.ref a),some (.ref b),some (.ref ly),some (.ref ev),some (.ref wb),some (.ref lo),some (.ref bb),some (.ref c),o8]) ⟨by simpa [GD.cZ] using R9,fun _ _ e=>e,s9 _ _ hb8,_,rfl⟩ (fun j σ H' _ h=>SqL.of (h.2.1 _ _ hc2)) ?_ ?_
   ·rintro j x σ H10 hx ⟨R10,ls,hb10,o9,rfl⟩
    rw [List.getElem?_map] at hx
    obtain ⟨bp,hbp,rfl⟩:=Option.map_eq_some_iff.mp hx
    obtain ⟨bt,hbt,hpb⟩:=Paired.get hps hbp
    obtain ⟨hj,ej⟩:=List.getElem?_eq_some_iff.mp hbt
    obtain ⟨hf,hff⟩:=hfine bt (List.mem_of_getElem? hbt)
    simp_arith []
    obtain ⟨kv2,elo,wlo⟩:=R10.now
    have hcan:=hl.1.can
    have hwl:w.1.length<=8:=by have:=hcan.len;omega
    have hbl:bt.length<=8:=by have:=hf.sub.length_le;have:=nZ (n:=n) (dn:=w.1);omega
    have aok':GD.WOk (aF ds) (soN ds) (uN us) n (r+1) (GD.cZ n acc w (bs.take j)):=GD.WOk.add hl.1 hl.2 _ _ (fun b hb=>by rw [hbs];exact (hfine b (List.mem_of_mem_take hb)).2) aok
    have hkl:kv2.length<=256:=by
     rw [wlo.length]
     exact Nat.le_trans aok'.len (Nat.le_trans (Nat.pow_le_pow_right (by decide) h8) (by decide))
    obtain ⟨cs,hcc,hcs⟩:=(hlc8.same s9).lst ls
    have lcs:=hcs.length
    have lr:=hl.2
    refine ⟨.inr (.inr (.inl ⟨rfl,.inr ⟨kv2,elo⟩⟩)),nl w.1,.inr (SqT.of hb10),fun l1 hl1=>⟨nl w.1,nl bt,ae,Same.upd hl1 _ _ (ls _ _ hpb),by rw [dJ,dJ,sizeLine_eq];omega,fun l2 hl2=>?_⟩⟩
    have Sb:=(Same.upd (o:=.lst (nl w.1)) hl1).trans (Same.upd (o:=.lst (nl w.1 ++ nl bt)) hl2)
    have eb:upd (upd H10 l1 (.lst (nl w.1))) l2 (.lst (nl w.1 ++ nl bt)) l2=some (.lst (((w.1 ++ bt).map fun p:Nat=>(p:Int)).map V.int)):=by
     rw [ae,List.map_map,List.map_append];rfl
    generalize upd (upd H10 l1 (.lst (nl w.1))) l2 (.lst (nl w.1 ++ nl bt))=Hb at Sb eb ⊢
    refine ⟨_,SqL.of eb,by rw [List.length_map,List.length_append];omega,fun l3 ns' hl3 hperm hsort=>?_⟩
    have ens:ns'=(GD.cm n w.1 bt).map fun p:Nat=>(p:Int):=List.Perm.eq_of_pairwise (fun x y _ _ h1 h2=>Int.le_antisymm h1 h2) hsort (List.pairwise_map.mpr ((GD.m6 (n:=n) (dn:=w.1) (b:=bt)).sorted.imp fun h=>by omega)) (hperm.trans ((GD.jh hcan hf.sub).map _))
    subst ens
    have Sc:=Sb.trans (Same.upd (o:=.lst (((GD.cm n w.1 bt).map fun p:Nat=>(p:Int)).map V.int)) hl3)
    have ec:upd Hb l3 (.lst (((GD.cm n w.1 bt).map fun p:Nat=>(p:Int)).map V.int)) l3=some (.lst (nl (GD.cm n w.1 bt))):=by rw [ae,List.map_map];rfl
    generalize upd Hb l3 (.lst (((GD.cm n w.1 bt).map fun p:Nat=>(p:Int)).map V.int))=Hc at Sc ec ⊢
    refine ⟨_,.inl ⟨SqL.of ec,fun l4 hl4 l5 hl5=>⟨cs.map V.ref,[.ref bp],((Sc.trans (Same.upd hl4)).trans (Same.upd hl5)) _ _ hcc,ae,by rw [List.length_map,List.length_singleton,sizeLine_eq];omega,fun l6 hl6=>?_⟩⟩⟩
    have Se:=(Same.upd (o:=.lst [V.ref bp]) hl5).trans (Same.upd (o:=.lst (cs.map V.ref ++ [.ref bp])) hl6)
    have Sf:=(Sc.trans (Same.upd (o:=.tup (nl (GD.cm n w.1 bt))) hl4)).trans Se
    have e4':upd (upd (upd Hc l4 (.tup (nl (GD.cm n w.1 bt)))) l5 (.lst [V.ref bp])) l6 (.lst (cs.map V.ref ++ [.ref bp])) l4=some (.tup (nl (GD.cm n w.1 bt))):=Se _ _ ae
    have e6:LLN (upd (upd (upd Hc l4 (.tup (nl (GD.cm n w.1 bt)))) l5 (.lst [V.ref bp])) l6 (.lst (cs.map V.ref ++ [.ref bp]))) l6 (w.2 ++ [bt]):=⟨cs ++ [bp],by rw [ae,List.map_append];rfl,Paired.snoc (Paired.mapP hcs fun _ _ z=>Sf _ _ z) (Sf _ _ (ls _ _ hpb))⟩
    generalize upd (upd (upd Hc l4 (.tup (nl (GD.cm n w.1 bt)))) l5 (.lst [V.ref bp])) l6 (.lst (cs.map V.ref ++ [.ref bp]))=Hf at Sf e4' e6 ⊢
    have eadd:GD.cZ n acc w (bs.take (j+1))=GD.gW (GD.cZ n acc w (bs.take j)) (GD.cm n w.1 bt) (w.2 ++ [bt]):=by
     rw [List.take_succ_eq_append_getElem hj,ej]
     unfold GD.cZ
     rw [List.foldl_append]
     rfl
    rw [eadd]
    have R11:=R10.mv Sf
    have wlo':=wlo.lst (LSt.of Sf)
    refine ⟨kv2,km (GD.cm n w.1 bt),Sf _ _ elo,by rw [sk];exact e4',by rw [sizeLine_eq];omega,fun y hy=>?_,fun hy=>?_⟩
    ·rcases wlo'.val (GD.cm n w.1 bt) with ⟨_,hv2⟩ | ⟨w2,hw2,hk2,_⟩
     ·rw [hy] at hv2;cases hv2
     ·unfold GD.gW
      rw [if_pos (List.mem_map.mpr ⟨w2,hw2,hk2⟩)]
      exact ⟨R11,ls.trans (LSt.of Sf),Sf _ _ hb10,_,rfl⟩
    ·rcases wlo'.val (GD.cm n w.1 bt) with ⟨hk2,_⟩ | ⟨_,_,_,_,hv2,_⟩
     ·refine ⟨R11.put (Sf _ _ elo) wlo' hk2 e6,(ls.trans (LSt.of Sf)).trans (LSt.upd (Sf _ _ elo) (by intro xs z;cases z)),?_,_,rfl⟩
      rw [al (dl (Sf _ _ hb10) (Sf _ _ elo) (by intro z;cases z))]
      exact Sf _ _ hb10
     ·rw [hy] at hv2;cases hv2
   ·rintro σ H10 ⟨R10,ls,hb10,o9,rfl⟩
    rw [List.length_map,lps,List.take_length] at R10
    exact ⟨R10,_,_,_,rfl⟩
  ·rintro σ H7 ⟨R,o6,o7,o8,rfl⟩
   rw [lw,List.take_length] at R
   refine later ?_
   simp_arith []
   obtain ⟨kv2,e7,w7⟩:=R.now
   refine later ?_
   simp_arith []
   exact ⟨lo,kv2,_,_,_,_,rfl,R.same,R.fr,e7,w7⟩
 ·rw [hv]
  rw [if_neg (by simp)]
  refine later ?_
  simp_arith []
  refine ⟨wb,_,rfl,(by have z:=DGet.t (k:=km (List.range n)) e4 (by rw [sk];exact s4 _ _ e2);rw [hv] at z;exact z),?_⟩
  exact q c r w'.2 H4 (s2.trans s4) hl (by rw [<- hk'];exact hw') hno
end
theorem mT{n:Nat}{w x:List Nat×List (List Nat)}:∀(bs:List (List Nat)) (acc:List (List Nat×List (List Nat))),x∈GD.cZ n acc w bs->x∈acc\/∃b∈bs,x=(GD.cm n w.1 b,w.2 ++ [b])
 | [],_,h=>.inl h
 | b :: bs,acc,h=>by
  rcases mT bs _ h with h | ⟨c,hc,e⟩
  ·rcases GD.ik h with h | h
   ·exact .inl h
   ·exact .inr ⟨b,by simp,h⟩
  ·exact .inr ⟨c,List.mem_cons_of_mem _ hc,e⟩
theorem pV{n:Nat}{G:Nat->Nat->Option Int}{so:Nat->Nat}{U:Nat->Int}{x:List Nat×List (List Nat)}:∀(ws acc:List (List Nat×List (List Nat))),x∈ws.foldl (fun acc w=>GD.cZ n acc w (GD.bE G so U n w.1)) acc->x∈acc\/∃w∈ws,∃b∈GD.bE G so U n w.1,x=(GD.cm n w.1 b,w.2 ++ [b])
 | [],_,h=>.inl h
 | w :: ws,acc,h=>by
  rcases pV ws _ h with h | ⟨v,hv,e⟩
  ·rcases mT _ _ h with h | ⟨b,hb,e⟩
   ·exact .inl h
   ·exact .inr ⟨w,by simp,b,hb,e⟩
  ·exact .inr ⟨v,List.mem_cons_of_mem _ hv,e⟩
structure rn(G:Nat->Nat->Option Int)(so:Nat->Nat)(U:Nat->Int)(bss:List (List Nat))(dn:List Nat):Prop where
 ne:∀b∈bss,b≠[]
 srt:∀b∈bss,b.Pairwise (· < ·)
 perm:bss.flatten.Perm dn
 load:∀b∈bss,∀s,s < 3->(GD.dW so b s:Int)<=U s
 lean:∀(i:Nat)b k,bss[i]?=some b->k∈b->∀j,j < k->∀l,G j k=some l->∃(i':Nat)(b':List Nat),bss[i']?=some b'/\j∈b'/\(i':Int)+l<=i
theorem lR{n:Nat}{G:Nat->Nat->Option Int}{so:Nat->Nat}{U:Nat->Int}(hU:∀s,s < 3->0 < U s)(hG:∀j k l,G j k=some l->l<=1):∀r,(∀k,k < r->List.range n∉(GD.bJ G so U n k).map (·.1))->∀w∈GD.bJ G so U n r,rn G so U w.2 w.1
 | 0,_,w,hw=>by
  rw [GD.bJ,List.mem_singleton] at hw
  subst hw
  exact ⟨fun b h=>(by cases h),fun b h=>(by cases h),.refl _,fun b h=>(by cases h),fun i b k h=>by simp at h⟩
 | r+1,hno,w,hw=>by
  rcases pV _ _ hw with h | ⟨v,hv,b,hb,rfl⟩
  ·cases h
  have ih:=lR hU hG r (fun k hk=>hno k (by omega)) v hv
  have hcan:=((GD.i3 r).lay v hv).1.can
  have hne:v.1≠List.range n:=fun e=>hno r (by omega) (List.mem_map.mpr ⟨v,hv,e⟩)
  have fb:=GD.i7 hU hb
  refine ⟨fun c hc=>?_,fun c hc=>?_,?_,fun c hc=>?_,fun i c k hi hk j hj l hl=>?_⟩
  ·rcases List.mem_append.mp hc with hc | hc
   ·exact ih.ne c hc
   ·rw [List.mem_singleton.mp hc];exact GD.rX hU hb (hcan.miss hne)
  ·rcases List.mem_append.mp hc with hc | hc
   ·exact ih.srt c hc
   ·rw [List.mem_singleton.mp hc];exact List.Pairwise.sublist fb.sub GD.dZ
  ·rw [List.flatten_append]
   simp only [List.flatten_cons,List.flatten_nil,List.append_nil]
   exact (ih.perm.append_right b).trans (GD.jh hcan fb.sub)
  ·rcases List.mem_append.mp hc with hc | hc
   ·exact ih.load c hc
   ·rw [List.mem_singleton.mp hc];exact fb.load
  ·by_cases hlt:i < v.2.length
   ·rw [List.getElem?_append_left hlt] at hi
    obtain ⟨i',b',h1,h2,h3⟩:=ih.lean i c k hi hk j hj l hl
    have:=(List.getElem?_eq_some_iff.mp h1).1
    exact ⟨i',b',by rw [List.getElem?_append_left this];exact h1,h2,h3⟩
   ·have hil:=(List.getElem?_eq_some_iff.mp hi).1
    rw [List.length_append,List.length_singleton] at hil
    obtain rfl:i=v.2.length:=by omega
    rw [List.getElem?_append_right (Nat.le_refl _),Nat.sub_self] at hi
    cases hi
    have z:=fb.lean k hk j hj
    unfold GD.cj at z
    rw [hl] at z
    simp only [Bool.or_eq_true,Bool.and_eq_true,decide_eq_true_eq] at z
    rcases z with z | ⟨z1,z2⟩
    ·obtain ⟨b',hb',hjb⟩:=List.mem_flatten.mp (ih.perm.mem_iff.mpr z)
     obtain ⟨i',hi',e⟩:=List.mem_iff_getElem.mp hb'
     refine ⟨i',b',by rw [List.getElem?_append_left hi',List.getElem?_eq_getElem hi',e],hjb,?_⟩
     have:=hG j k l hl
     omega
    ·exact ⟨v.2.length,b,by rw [List.getElem?_append_right (Nat.le_refl _),Nat.sub_self];rfl,z2,by omega⟩
theorem B1{ds:List FB.Deed}{j k:Nat}{l:Int}(h:aF ds j k=some l):0<=l/\l<=1:=by
 unfold aF at h
 split at h
 ·unfold FB.nS at h
  split at h
  ·cases h;decide
  ·split at h
   ·cases h;decide
   ·split at h
    ·cases h;decide
    ·cases h
 ·cases h
end K50
variable {us:List Int}
namespace K50
open PySem L2 PyProof.Rows FD FB FS FO FR
def jb(ds:List FB.Deed)(p:Nat):FB.Deed:=ds.getD p (.tell (.word 0))
def aW(ds:List FB.Deed)(bss:List (List Nat)):List (List FB.Deed):=bss.map fun b=>b.map (jb ds)
def wrB(ds:List FB.Deed)(n:Str):Bool:=ds.any fun d=>decide (wrV d=.str n)
def gh(bs:List (List FB.Deed)):List FB.Deed:=bs.getLastD []
def lh(bs:List (List FB.Deed)):FZ.Ed->Bool
 | .choose n _ _=>wrB (gh bs) n
 | _=>false
def dG(b:FZ.Blk)(bss:List (List Nat)):List (List FB.Deed):=if (aW b.ds bss).isEmpty || lh (aW b.ds bss) b.ed then aW b.ds bss ++ [[]] else aW b.ds bss
def Ct(fs:List Nat):FZ.Ed->FZ.Ed
 | .stop=>.stop
 | .go i=>.go (fs.getD i 0)
 | .choose n i j=>.choose n (fs.getD i 0) (fs.getD j 0)
def dS(l:List (List (List FB.Deed))):Nat:=(l.map List.length).sum
def bq(bbs:List (List (List FB.Deed))):List Nat:=(List.range bbs.length).map fun i=>dS (bbs.take i)
def iE(m:Nat)(bs:List (List FB.Deed))(ed:FZ.Ed):List FZ.Blk:=(bs.dropLast.mapIdx fun j d=>⟨d,.go (m+j+1)⟩) ++ [⟨gh bs,ed⟩]
def qg(fs:List Nat)(acc:List FZ.Blk)(p:FZ.Blk×List (List FB.Deed)):List FZ.Blk:=acc ++ iE acc.length p.2 (Ct fs p.1.ed)
def mJ(B:List FZ.Blk)(bbs:List (List (List FB.Deed))):List FZ.Blk:=(B.zip bbs).foldl (qg (bq bbs)) []
def fY(us:List Int)(b:FZ.Blk)(bs:List (List FB.Deed)):Prop:=∃bss,rn (aF b.ds) (soN b.ds) (uN us) bss (List.range b.ds.length)/\bs=dG b bss
theorem tJ{b:FZ.Blk}{bss:List (List Nat)}:dG b bss≠[]:=by
 unfold dG
 split
 ·simp
 ·next h=>
  intro z
  rw [z] at h
  exact h rfl
theorem yS{bs:List (List FB.Deed)}(h:bs≠[]):bs=bs.dropLast ++ [gh bs]:=by
 unfold gh
 rw [List.getLastD_eq_getLast?,List.getLast?_eq_some_getLast h,Option.getD_some]
 exact (List.dropLast_concat_getLast h).symm
theorem uF{m:Nat}{bs:List (List FB.Deed)}{ed:FZ.Ed}(h:bs≠[]):(iE m bs ed).length=bs.length:=by
 unfold iE
 rw [List.length_append,List.length_mapIdx,List.length_dropLast,List.length_singleton]
 have:=List.length_pos_iff.mpr h
 omega
theorem pw{m:Nat}{bs:List (List FB.Deed)}{ed:FZ.Ed}(h:bs≠[]):∀r∈iE m bs ed,r.ds∈bs:=fun r hr=>by
 unfold iE at hr
 rw [yS h]
 rcases List.mem_append.mp hr with hr | hr
 ·obtain ⟨j,hj,e⟩:=List.mem_mapIdx.mp hr
  rw [<- e]
  exact List.mem_append_left _ (List.getElem_mem _)
 ·rw [List.mem_singleton.mp hr]
  exact List.mem_append_right _ (List.mem_singleton.mpr rfl)
theorem py{m:Nat}{bs:List (List FB.Deed)}{ed:FZ.Ed}(h:bs≠[]):∀r∈iE m bs ed,r.ed=ed\/∃k,r.ed=.go k/\k < m+bs.length:=fun r hr=>by
 unfold iE at hr
 rcases List.mem_append.mp hr with hr | hr
 ·obtain ⟨j,hj,e⟩:=List.mem_mapIdx.mp hr
  rw [<- e]
  rw [List.length_dropLast] at hj
  exact .inr ⟨_,rfl,by omega⟩
 ·rw [List.mem_singleton.mp hr]
  exact .inl rfl
theorem dD{bbs:List (List (List FB.Deed))}{i:Nat}{bs:List (List FB.Deed)}(h:bbs[i]?=some bs):dS (bbs.take (i+1))=dS (bbs.take i)+bs.length:=by
 obtain ⟨hi,e⟩:=List.getElem?_eq_some_iff.mp h
 unfold dS
 rw [List.take_succ_eq_append_getElem hi,e,List.map_append,List.sum_append]
 simp
theorem mD{bbs:List (List (List FB.Deed))}(i:Nat):dS (bbs.take i)<=dS bbs:=by
 unfold dS
 conv=>rhs;rw [<- List.take_append_drop i bbs,List.map_append,List.sum_append]
 exact Nat.le_add_right _ _
theorem kZ{bbs:List (List (List FB.Deed))}(hne:∀bs∈bbs,bs≠[]){i:Nat}(hi:i < bbs.length):(bq bbs).getD i 0=dS (bbs.take i)/\dS (bbs.take i) < dS bbs:=by
 refine ⟨?_,?_⟩
 ·unfold bq
  rw [List.getD_eq_getElem?_getD,List.getElem?_map,List.getElem?_range hi]
  rfl
 ·have h1:=dD (List.getElem?_eq_getElem hi)
  have h2:=mD (bbs:=bbs) (i+1)
  have h3:=List.length_pos_iff.mpr (hne _ (List.getElem_mem hi))
  omega
def io(B:List FZ.Blk)(bbs:List (List (List FB.Deed)))(i:Nat):List FZ.Blk:=((B.zip bbs).take i).foldl (qg (bq bbs)) []
theorem fc{B:List FZ.Blk}{bbs:List (List (List FB.Deed))}{i:Nat}{b:FZ.Blk}{bs:List (List FB.Deed)}(hb:B[i]?=some b)(hs:bbs[i]?=some bs):io B bbs (i+1)=qg (bq bbs) (io B bbs i) (b,bs):=by
 have hz:(B.zip bbs)[i]?=some (b,bs):=by rw [List.getElem?_zip_eq_some];exact ⟨hb,hs⟩
 obtain ⟨hi,e⟩:=List.getElem?_eq_some_iff.mp hz
 unfold io
 rw [List.take_succ_eq_append_getElem hi,e,List.foldl_append]
 rfl
theorem hX{B:List FZ.Blk}{bbs:List (List (List FB.Deed))}(hl:B.length=bbs.length):io B bbs B.length=mJ B bbs:=by
 unfold io mJ
 rw [List.take_of_length_le (by rw [List.length_zip];omega)]
theorem hZ{B:List FZ.Blk}{bbs:List (List (List FB.Deed))}(hl:B.length=bbs.length)(hne:∀bs∈bbs,bs≠[]):∀i,i<=B.length->(io B bbs i).length=dS (bbs.take i)
 | 0,_=>rfl
 | i+1,hi=>by
  have hb:B[i]?=some B[i]:=List.getElem?_eq_getElem (by omega)
  have hs:bbs[i]?=some bbs[i]:=List.getElem?_eq_getElem (by omega)
  rw [fc hb hs,dD hs,qg,List.length_append,hZ hl hne i (by omega),uF (hne _ (List.getElem_mem _))]
theorem y7{ns:List Str}{w:Int}{us:List Int}{B:List FZ.Blk}{bbs:List (List (List FB.Deed))}(hl:B.length=bbs.length)(hne:∀bs∈bbs,bs≠[])(hG:FZ.fX ns w B.length B)(hd:∀(i:Nat)b bs,B[i]?=some b->bbs[i]?=some bs->∀l∈bs,l.length<=8/\∀d∈l,d∈b.ds):
  ∀i,i<=B.length->FZ.fX ns w (dS bbs) (io B bbs i)
 | 0,_=>fun r hr=>by cases hr
 | i+1,hi=>fun r hr=>by
  have hb:B[i]?=some B[i]:=List.getElem?_eq_getElem (by omega)
  have hs:bbs[i]?=some bbs[i]:=List.getElem?_eq_getElem (by omega)
  have hn:=hne _ (List.mem_of_getElem? hs)
  rw [fc hb hs,qg] at hr
  rcases List.mem_append.mp hr with hr | hr
  ·exact y7 (us:=us) hl hne hG hd i (by omega) r hr
  have hbG:=hG _ (List.mem_of_getElem? hb)
  have h1:=hd i _ _ hb hs r.ds (pw hn r hr)
  have ht:∀k,k∈B[i].ed.tg->(bq bbs).getD k 0 < dS bbs:=fun k hk=>by
   have hz:=kZ hne (i:=k) (by have:=hbG.tg k hk;omega)
   rw [hz.1];exact hz.2
  refine ⟨fun d hd2=>hbG.gd d (h1.2 d hd2),h1.1,?_,?_⟩
  ·rcases py hn r hr with e | ⟨k,e,hk⟩
   ·rw [e]
    cases he:B[i].ed with
    | stop=>intro z hz;cases hz
    | go k=>rw [he] at ht;intro z hz;rw [List.mem_singleton.mp hz];exact ht k (by simp [FZ.Ed.tg])
    | choose n k j=>
     rw [he] at ht
     intro z hz
     have hz':z∈[(bq bbs).getD k 0,(bq bbs).getD j 0]:=hz
     rcases List.mem_cons.mp hz' with y | y
     ·rw [y];exact ht k (by simp [FZ.Ed.tg])
     ·rw [List.mem_singleton.mp y];exact ht j (by simp [FZ.Ed.tg])
   ·rw [e]
    intro z hz
    rw [List.mem_singleton.mp hz]
    rw [hZ hl hne i (by omega)] at hk
    have h2:=dD hs
    have h3:=mD (bbs:=bbs) (i+1)
    omega
  ·intro n k j e2
   rcases py hn r hr with e | ⟨k',e,_⟩
   ·rw [e] at e2
    cases he:B[i].ed with
    | stop=>rw [he] at e2;cases e2
    | go k=>rw [he] at e2;cases e2
    | choose n' k' j'=>rw [he] at e2;cases e2;exact hbG.nm n k' j' he
   ·rw [e] at e2;cases e2
theorem tF{B:List FZ.Blk}{bbs:List (List (List FB.Deed))}(hl:B.length=bbs.length)(hne:∀bs∈bbs,bs≠[]){Z:List FB.Deed->Prop}(hz:∀bs∈bbs,∀l∈bs,Z l):∀i,i<=B.length->∀r∈io B bbs i,Z r.ds
 | 0,_=>fun r hr=>by cases hr
 | i+1,hi=>fun r hr=>by
  have hb:B[i]?=some B[i]:=List.getElem?_eq_getElem (by omega)
  have hs:bbs[i]?=some bbs[i]:=List.getElem?_eq_getElem (by omega)
  rw [fc hb hs,qg] at hr
  rcases List.mem_append.mp hr with hr | hr
  ·exact tF hl hne hz i (by omega) r hr
  ·exact hz _ (List.mem_of_getElem? hs) _ (pw (hne _ (List.mem_of_getElem? hs)) r hr)
structure BeatP(us:List Int)(l:List FB.Deed):Prop where
 one:l.Pairwise fun d e=>¬(d.tells=true/\e.tells=true)/\∀n∈d.writes,n∉e.writes
 load:∀s,s < 3->((l.countP fun d=>decide (cn d=s)):Int)<=uN us s
theorem BeatP.nil{us:List Int}(h:∀s,s < 3->0<=uN us s):BeatP us []:=⟨.nil,fun s hs=>h s hs⟩
theorem nO:∀{bss:List (List Nat)} {i i':Nat} {b b':List Nat} {j:Nat},bss.flatten.Nodup->bss[i]?=some b->bss[i']?=some b'->j∈b->j∈b'->i=i'
 | [],i,i',b,b',j,_,h,_,_,_=>by simp at h
 | c :: r,i,i',b,b',j,nd,h,h',m,m'=>by
  rw [List.flatten_cons,List.nodup_append] at nd
  match i,i',h,h' with
  | 0,0,_,_=>rfl
  | 0,k+1,h,h'=>
   cases h
   exact absurd rfl (nd.2.2 j m j (List.mem_flatten.mpr ⟨b',List.mem_of_getElem? h',m'⟩))
  | k+1,0,h,h'=>
   cases h'
   exact absurd rfl (nd.2.2 j m' j (List.mem_flatten.mpr ⟨b,List.mem_of_getElem? h,m⟩))
  | k+1,k'+1,h,h'=>rw [nO nd.2.1 h h' m m']
theorem i8{ds:List FB.Deed}{bss:List (List Nat)}(h:rn (aF ds) (soN ds) (uN us) bss (List.range ds.length)):∀b∈bss,BeatP us (b.map (jb ds))/\b.length<=ds.length/\∀p∈b,p < ds.length:=fun b hb=>by
 have nd:bss.flatten.Nodup:=h.perm.nodup_iff.mpr List.nodup_range
 have lt:∀p∈b,p < ds.length:=fun p hp=>List.mem_range.mp (h.perm.mem_iff.mp (List.mem_flatten.mpr ⟨b,hb,hp⟩))
 obtain ⟨i,hi⟩:=List.mem_iff_getElem?.mp hb
 refine ⟨⟨?_,fun s hs=>?_⟩,?_,lt⟩
 ·rw [List.pairwise_map]
  refine List.Pairwise.imp_of_mem (fun {j k} hj hk hjk=>?_) (h.srt b hb)
  have no:aF ds j k≠some 1:=fun e=>by
   obtain ⟨i',b',h1,h2,h3⟩:=h.lean i b k hi hk j hjk 1 e
   have:=nO nd hi h1 hj h2
   omega
  have e1:ds[j]?=some (jb ds j):=by unfold jb;rw [List.getD_eq_getElem?_getD,List.getElem?_eq_getElem (lt j hj)];rfl
  have e2:ds[k]?=some (jb ds k):=by unfold jb;rw [List.getD_eq_getElem?_getD,List.getElem?_eq_getElem (lt k hk)];rfl
  unfold aF at no
  rw [e1,e2] at no
  dsimp only at no
  unfold FB.nS at no
  refine ⟨fun z=>?_,fun n hn hn2=>?_⟩
  ·rw [if_pos z] at no;exact no rfl
  ·split at no
   ·exact no rfl
   ·rw [if_pos ⟨n,hn,.inr hn2⟩] at no;exact no rfl
 ·have z:=h.load b hb s hs
  unfold GD.dW at z
  rw [List.countP_map]
  exact z
 ·have z:=h.perm.length_eq
  rw [List.length_range] at z
  have:=(List.sublist_flatten_of_mem hb).length_le
  omega
theorem cS{us:List Int}{b:FZ.Blk}{bs:List (List FB.Deed)}(hu:∀s,s < 3->0<=uN us s)(h8:b.ds.length<=8)(h:fY us b bs):bs≠[]/\∀l∈bs,BeatP us l/\l.length<=8/\∀d∈l,d∈b.ds:=by
 obtain ⟨bss,hg,rfl⟩:=h
 refine ⟨tJ,fun l hl=>?_⟩
 have old:l∈aW b.ds bss->BeatP us l/\l.length<=8/\∀d∈l,d∈b.ds:=fun hl=>by
  obtain ⟨c,hc,rfl⟩:=List.mem_map.mp hl
  obtain ⟨h1,h2,h3⟩:=i8 hg c hc
  refine ⟨h1,by rw [List.length_map];omega,fun d hd=>?_⟩
  obtain ⟨p,hp,rfl⟩:=List.mem_map.mp hd
  unfold jb
  rw [List.getD_eq_getElem?_getD,List.getElem?_eq_getElem (h3 p hp)]
  exact List.getElem_mem _
 unfold dG at hl
 split at hl
 ·rcases List.mem_append.mp hl with hl | hl
  ·exact old hl
  ·rw [List.mem_singleton.mp hl]
   exact ⟨BeatP.nil hu,Nat.zero_le _,fun d hd=>by cases hd⟩
 ·exact old hl
def d6(l:List FB.Deed):List Str:=l.flatMap FB.Deed.writes
def bfB(us:List Int)(l:List FB.Deed):Bool:=decide ((bh (d6 l)).length=(d6 l).length) && decide (l.length<=(d6 l).length+1) && (List.range 3).all fun s=>decide (((l.countP fun d=>decide (cn d=s)):Int)<=uN us s)
theorem yd{d:FB.Deed}:d.writes.length=if d.tells then 0 else 1:=by cases d <;> rfl
theorem ye:∀{l:List FB.Deed},(l.Pairwise fun d e=>¬(d.tells=true/\e.tells=true)/\∀n∈d.writes,n∉e.writes)->(d6 l).Nodup/\l.length<=(d6 l).length+1/\((∀d∈l,d.tells=false)->(d6 l).length=l.length)
 | [],_=>⟨List.nodup_nil,Nat.zero_le _,fun _=>rfl⟩
 | d :: l,h=>by
  rw [List.pairwise_cons] at h
  obtain ⟨h1,h2,h3⟩:=ye h.2
  have e:d6 (d :: l)=d.writes ++ d6 l:=rfl
  rw [e,List.length_append,List.length_cons,yd]
  refine ⟨List.nodup_append.mpr ⟨by cases d <;> simp [FB.Deed.writes],h1,fun a ha b hb ab=>?_⟩,?_,fun z=>?_⟩
  ·subst ab
   obtain ⟨c,hc,hac⟩:=List.mem_flatMap.mp hb
   exact (h.1 c hc).2 a ha hac
  ·split
   ·next ht=>
    have:=h3 fun c hc=>by
     cases hct:c.tells with
     | false=>rfl
     | true=>exact absurd ⟨ht,hct⟩ (h.1 c hc).1
    omega
   ·omega
  ·rw [if_neg (by rw [z d (by simp)];decide),h3 fun c hc=>z c (List.mem_cons_of_mem _ hc)]
   omega
theorem BeatP.bf{us:List Int}{l:List FB.Deed}(h:BeatP us l):bfB us l=true:=by
 obtain ⟨h1,h2,_⟩:=ye h.one
 unfold bfB
 rw [decide_eq_true ((ig _).2.2.mpr h1),decide_eq_true h2,Bool.true_and,Bool.true_and,List.all_eq_true]
 exact fun s hs=>decide_eq_true (h.load s (List.mem_range.mp hs))
def v8(K:PySem.W.Frag)(e f:Addr)(H:Hp)(Q:VK):Prop:=∃(ed:FZ.Ed)(fs:List Nat),H e=some (.tup (d4 ed))/\SqL K H f (nl fs)/\(∀i∈ed.tg,i < fs.length)/\∀e' H',Same H H'->H' e'=some (.tup (d4 (Ct fs ed)))->Q (.ref e') H'
def xH(K:PySem.W.Frag):Sp:=fun vs H Q _=>∃e f:Addr,vs=[.ref e,.ref f]/\v8 K e f H Q
def rJ(K:PySem.W.Frag)(a:Addr)(n:Str)(H:Hp)(Q:VK):Prop:=∃(xs:List V)(ds:List FB.Deed),SqL K H a xs/\Paired (DeedV1 K H) xs ds/\ds.length<=1000/\∀H',Same H H'->Q (.bl (wrB ds n)) H'
def tE(K:PySem.W.Frag):Sp:=fun vs H Q _=>∃(a:Addr)(n:Str),vs=[.ref a,.str n]/\rJ K a n H Q
section
variable {K:PySem.W.Frag} {te:TE} {ci:List Nat} {σ:L2.St} {acc:Addr} {Q:Hp->Prop} {H1:Hp} {a:Addr} {xs:List V}
theorem rL(fs:List V)(hz:xs.length<=sizeLine)(hlen:xs.length=fs.length)(hl:SqL K H1 a xs)(hacc:H1 acc=none)
  (hf:∀(i:Nat)x y,xs[i]?=some x->fs[i]?=some y->∀H Q',Same H1 H->(∀H',Same H H'->Q' y H')->te (az [some x] ci σ) H Q')
  (q:∀H,Same H1 H->H acc=some (.lst fs)->Q H):bC (Itl K a) (aQ 1) fu te 1 ci σ acc Q (upd H1 acc (.lst [])):=by
 refine cD (fun i ys H=>ys=fs.take i/\Same H1 H/\H acc=some (.lst ys)) ⟨by simp,Same.upd hacc,ae⟩ (fun i ys H _ h=>h.2.1.seq hl) ?_ ?_
 ·rintro i x ys H os hi ho ⟨rfl,sm,ha⟩
  have hi':i < fs.length:=by have:=(List.getElem?_eq_some_iff.mp hi).1;omega
  have e:(az os ci σ).set 1 (some x)=az [some x] ci σ:=by
   match os,ho with
   | [o],_=>rfl
  show (∃os',os'.length=1/\(az os ci σ).set 1 (some x)=az os' ci σ)/\fu ((az os ci σ).set 1 (some x)) H _
  rw [e]
  refine ⟨⟨[some x],rfl,rfl⟩,?_⟩
  unfold fu
  dsimp only
  rw [if_pos rfl]
  exact hf i x fs[i] hi (List.getElem?_eq_getElem hi') _ _ sm fun H3 s3=>⟨s3 _ _ ha,by rw [List.length_take];omega,(List.take_succ_eq_append_getElem hi').symm,(sm.trans s3).updM hacc,ae⟩
 ·rintro ys H ⟨rfl,sm,ha⟩
  rw [hlen,List.take_length] at ha
  exact q H sm ha
end
section
variable {P:Program} {w:World} {K:PySem.W.Frag} {mg:Str->Option Value} {base:Heap} {t:Ad}
theorem sN{e f:Addr}{H:Hp}{Q:VK}{E:XK}:xH K [.ref e,.ref f] H Q E=v8 K e f H Q:=propext ⟨by rintro ⟨_,_,e,q⟩;cases e;exact q,fun q=>⟨_,_,rfl,q⟩⟩
theorem xv{a:Addr}{n:Str}{H:Hp}{Q:VK}{E:XK}:tE K [.ref a,.str n] H Q E=rJ K a n H Q:=propext ⟨by rintro ⟨_,_,e,q⟩;cases e;exact q,fun q=>⟨_,_,rfl,q⟩⟩
theorem ml{fs:List Nat}{i:Nat}(h:i < fs.length):(nl fs)[i]?=some (V.int (fs.getD i 0)):=by
 unfold nl;rw [List.getElem?_map,List.getD_eq_getElem?_getD,List.getElem?_eq_getElem h];rfl
theorem Bi(T:Txt K mg t):FnOk P w K mg base CX0 1 t.f_led_anew t.e_led_anew ["ending","places"] (xH K):=by
 refine T.d_led_anew.F.ok pC (fun vs H Q E h=>by obtain ⟨_,_,rfl,_⟩:=h;rfl) (fun cdv A outer s H vs Q E hr h=>?_)
 obtain ⟨e,f,rfl,ed,fs,he,hf,ht,q⟩:=h
 refine ⟨_,
   (XSs.h
   (af
    (aD (ap aV (aj aw (yqv 0 vl) ad (fun _ _=>rfl)) aC (ax _))
     (ag
      (ao (aE (aa aC (aa (aj aR (yqv 1 vl) (aj aw (yqv 0 vl) ad (fun _ _=>rfl)) (fun _ _=>rfl)) ac)))))
     ay)
   (af
    (aD (ap aV (aj aw (yqv 0 vl) ad (fun _ _=>rfl)) aC (ax _))
     (ag
      (ao (aE (aa aC (aa (aj aw (yqv 0 vl) ad (fun _ _=>rfl)) (aa (aj aR (yqv 1 vl) (aj aw (yqv 0 vl) ad (fun _ _=>rfl)) (fun _ _=>rfl)) (aa (aj aR (yqv 1 vl) (aj aw (yqv 0 vl) ad (fun _ _=>rfl)) (fun _ _=>rfl)) ac)))))))
     ay)
   (ag
    (ao (yqv 0 vl)))))),?_⟩
 rw [show aG _ [V.ref e,V.ref f]=[some (.ref e),some (.ref f)] from rfl]
 simp_arith []
 cases ed with
 | stop=>
  refine ⟨_,_,SqT.of he,rfl,rfl,_,rfl,?_⟩
  rw [if_neg (by decide +kernel)]
  refine ⟨_,_,SqT.of he,rfl,rfl,_,rfl,?_⟩
  rw [if_neg (by decide +kernel)]
  exact q e H (Same.refl H) he
 | go i=>
  refine ⟨_,_,SqT.of he,rfl,rfl,_,rfl,?_⟩
  rw [if_pos (by decide +kernel)]
  exact ⟨_,_,SqT.of he,rfl,ixL hf (ml (ht i (by simp [FZ.Ed.tg]))) fun p hp=>q p _ (Same.upd hp) ae⟩
 | choose n i j=>
  refine ⟨_,_,SqT.of he,rfl,rfl,_,rfl,?_⟩
  rw [if_neg (by decide +kernel)]
  refine ⟨_,_,SqT.of he,rfl,rfl,_,rfl,?_⟩
  rw [if_pos (by decide +kernel)]
  exact ⟨_,_,SqT.of he,rfl,_,_,SqT.of he,rfl,ixL hf (ml (ht i (by simp [FZ.Ed.tg]))) ⟨_,_,SqT.of he,rfl,ixL hf (ml (ht j (by simp [FZ.Ed.tg]))) fun p hp=>q p _ (Same.upd hp) ae⟩⟩
theorem zf(T:Txt K mg t):FnOk P w K mg base CX0 2 t.f_writes t.e_writes ["deeds","name"] (tE K):=by
 have G_box_written:=jn (P:=P) (w:=w) (base:=base) T
 refine T.d_writes.F.ok uH (fun vs H Q E h=>by obtain ⟨_,_,rfl,_⟩:=h;rfl) (fun cdv A outer s H vs Q E hr h=>?_)
 obtain ⟨a,n,rfl,xs,ds,ha,hd,hl,q⟩:=h
 refine ⟨_,
   (XSs.h
   (ag
    (ao (aq (ny rfl) gl T.z_any boot_any (aa (b7 (tns:=["deed"]) (cns:=["name"]) (ci:=[1]) rfl (CompSc.of (by kernel_rfl)) (aO (yqv 0 vl)) (fun _=>(aA (i:=1) (show List.Nodup [(".0":Str),("deed":Str),("name":Str)] by decide +kernel) rfl ll (Or.inr (by kernel_rfl)))) (fun _=>bN) (fun _=>(aY aV (am T.d_box_written G_box_written (hr.mono (by first | decide | omega)) (aa (yqv 1 vl) ac) gl) (yqv 2 vc) (ax _)))) ac))))),?_⟩
 rw [show aG _ [V.ref a,V.str n]=[some (.ref a),some (.str n)] from rfl]
 simp_arith [f7]
 have lx:=hd.length
 refine ⟨⟨_,ha⟩,fun acc hacc bk=>?_⟩
 refine rL (ds.map fun d=>V.bl (decide (wrV d=.str n))) (by rw [sizeLine_eq];omega) (by rw [List.length_map];exact lx) ha hacc (fun i x y hx hy H2 Q' s2 h=>?_) fun H2 s2 e2=>?_
 ·obtain ⟨d,hd1,q0,rfl,hq0,hf⟩:=Paired.get hd hx
  rw [List.getElem?_map,hd1] at hy
  cases hy
  simp_arith [f7]
  refine ⟨d,s2.seqT hq0,hf,?_,h H2 (Same.refl H2)⟩
  cases d <;> rfl
 ·refine ⟨ds.map fun d=>decide (wrV d=.str n),SqL.of (by rw [List.map_map];exact e2),?_⟩
  rw [List.any_map]
  exact q H2 s2
end
def BtsV(K:PySem.W.Frag)(N:Addr->Prop)(H:Hp)(c:Addr)(bs:List (List FB.Deed)):Prop:=∃ps:List Addr,H c=some (.lst (ps.map V.ref))/\Paired (fun p (l:List FB.Deed)=>N p/\∃vs,H p=some (.lst vs)/\Paired (DeedV1 K H) vs l) ps bs
structure Cg(K:PySem.W.Frag)(H:Hp)(q u:Addr)(b:FZ.Blk)(us:List Int):Prop where
 ex:∃a e vs,H q=some (.tup [.ref a,.ref e])/\H a=some (.lst vs)/\Paired (DeedV1 K H) vs b.ds/\H e=some (.tup (d4 b.ed))
 h8:b.ds.length<=8
 ut:SqT K H u (us.map V.int)
 h3:us.length=3
 hp:∀x∈us,0 < x/\x<=3
def mW(K:PySem.W.Frag)(q u:Addr)(H:Hp)(Q:VK):Prop:=∃(b:FZ.Blk)(us:List Int),Cg K H q u b us/\∀c bs H',Same H H'->H c=none->fY us b bs->BtsV K (fun p=>H p=none) H' c bs->Q (.ref c) H'
def pF(K:PySem.W.Frag):Sp:=fun vs H Q _=>∃q u:Addr,vs=[.ref q,.ref u]/\mW K q u H Q
section
variable {P:Program} {w:World} {K:PySem.W.Frag} {mg:Str->Option Value} {base:Heap} {t:Ad}
theorem sF{q u:Addr}{H:Hp}{Q:VK}{E:XK}:pF K [.ref q,.ref u] H Q E=mW K q u H Q:=propext ⟨by rintro ⟨_,_,e,q⟩;cases e;exact q,fun q=>⟨_,_,rfl,q⟩⟩
theorem sM{a b:Addr}{H:Hp}{Q:VK}{E:XK}:pM K [.ref a,.ref b] H Q E=∃(ds:List FB.Deed)(us:List Int),lU K H a b ds us/\∀c r bss H',Same H H'->LLN H' c bss->(List.range ds.length,bss)∈GD.bJ (aF ds) (soN ds) (uN us) ds.length r->(∀k,k < r->List.range ds.length∉(GD.bJ (aF ds) (soN ds) (uN us) ds.length k).map (·.1))->Q (.ref c) H':=propext ⟨by rintro ⟨_,_,ds,us,e,q⟩;cases e;exact ⟨ds,us,q⟩,fun ⟨ds,us,q⟩=>⟨_,_,ds,us,rfl,q⟩⟩
theorem mK{us:List Int}(h3:us.length=3)(hp:∀x∈us,0 < x/\x<=3):∀s,s < 3->0 < uN us s:=fun s hs=>by
 unfold uN
 rw [List.getD_eq_getElem?_getD,List.getElem?_eq_getElem (by omega)]
 exact (hp _ (List.getElem_mem _)).1
theorem nT{G:Nat->Nat->Option Int}{so:Nat->Nat}{U:Nat->Int}{bss:List (List Nat)}{dn:List Nat}(h:rn G so U bss dn):bss.length<=dn.length:=by
 have z:=h.perm.length_eq
 have g:∀l:List (List Nat),(∀b∈l,b≠[])->l.length<=l.flatten.length:=fun l=>by
  induction l with
  | nil=>intro _;exact Nat.zero_le _
  | cons b l ih=>
   intro hl
   have h1:=ih fun c hc=>hl c (List.mem_cons_of_mem _ hc)
   have h2:=List.length_pos_iff.mpr (hl b (by simp))
   rw [List.flatten_cons,List.length_append,List.length_cons]
   omega
 have:=g bss h.ne
 omega
theorem vK(T:Txt K mg t)(hw:t.pr=w.params):FnOk P w K mg base CX0 15 t.f_beats_of t.e_beats_of ["block","units"] (pF K):=by
 have G_laid:=vR (P:=P) (w:=w) (base:=base) T hw
 have G_writes:=zf (P:=P) (w:=w) (base:=base) T
 refine T.d_beats_of.F.ok sc_beats_of (fun vs H Q E h=>by obtain ⟨_,_,rfl,_⟩:=h;rfl) (fun cdv A outer s H vs Q E hr h=>?_)
 obtain ⟨q,u,rfl,b,us,hB,qk⟩:=h
 have hu:=sd hr
 refine ⟨_,
   (XSs.h
   (af
    (ar (i:=2) sc_beats_of.nd rfl lc (aj aw (yqv 0 vl) ad (fun _ _=>rfl)))
   (af
    (ar (i:=3) sc_beats_of.nd rfl ll (aj aw (yqv 0 vl) ad (fun _ _=>rfl)))
   (af
    (ce (i:=4) sc_beats_of.nd rfl ll rfl (by kernel_rfl) (tns:=["beat"]) (cns:=["deeds"]) (ci:=[2]) rfl (CompSc.of (by kernel_rfl)) (aO (am T.d_laid G_laid (hr.mono (by first | decide | omega)) (aa (yqv 2 vc) (aa (yqv 1 vl) ac)) gl)) (fun _=>(aA (i:=1) (show List.Nodup [(".0":Str),("beat":Str),("deeds":Str)] by decide +kernel) rfl ll (Or.inr (by kernel_rfl)))) (fun _=>bN) (fun _=>(b7 (tns:=["place"]) (cns:=["deeds"]) (ci:=[2]) rfl (CompSc.of (by kernel_rfl)) (aO (yqv 1 vl)) (fun _=>(aA (i:=1) (show List.Nodup [(".0":Str),("place":Str),("deeds":Str)] by decide +kernel) rfl ll (Or.inr (by kernel_rfl)))) (fun _=>bN) (fun _=>(aj aR (yqv 2 vc) (yqv 1 vl) (fun _ _=>rfl))))))
   (af
    (aD (bG (bH (ap (vX (n:=0) (yN (by decide) hr)) (yqv 4 vl) (aI ac) (ax _)) (bT (bG (fi (ap aV (aj aw (yqv 3 vl) ad (fun _ _=>rfl)) aC (ax _)) (dE (b8 (am T.d_writes G_writes (hr.mono (by first | decide | omega)) (aa (aj aR (yqv 4 vl) (rg mO ad) (fun _ _=>rfl)) (aa (aj aw (yqv 3 vl) ad (fun _ _=>rfl)) ac)) gl))))))))
     (ag
      (bg (bM PySem.F.plainAttrs_list PySem.F.slot_list_append PySem.F.type_list_append aP (yqv 4 vl) (aa (aI ac) ac))))
     ay)
   (ag
    (ao (yqv 4 vl)))))))),?_⟩
 rw [show aG _ [V.ref q,V.ref u]=[some (.ref q),some (.ref u),none,none,none] from rfl]
 simp_arith! [sM,xv]
 obtain ⟨a,e,vs,hq,ha,hvs,he⟩:=hB.ex
 have hds:DeedsV K H vs b.ds:=FL.Paired.imp hvs fun x _ d _ ⟨q0,e1,z1,z2⟩=>⟨z2,q0,e1,z1⟩
 have lvs:=hvs.length
 have h8:=hB.h8
 refine ⟨_,_,SqT.of hq,rfl,?_⟩
 refine later ?_
 simp_arith! []
 refine ⟨_,_,SqT.of hq,rfl,?_⟩
 refine later ?_
 simp_arith! [sM]
 refine ⟨b.ds,us,⟨vs,SqL.of ha,hds,h8,hB.ut,hB.h3,hB.hp⟩,fun c r bss H1 s1 hL hmem hno=>?_⟩
 have hg:=lR (mK hB.h3 hB.hp) (fun j k l hl=>(B1 hl).2) r hno _ hmem
 obtain ⟨ps,hc,hps⟩:=hL
 have lps:=hps.length
 have lb:bss.length<=b.ds.length:=by have z:=nT hg;rwa [List.length_range] at z
 have lbd:(aW b.ds bss).length=bss.length:=by unfold aW;rw [List.length_map]
 refine ⟨⟨_,SqL.of hc⟩,fun acc hacc bk=>?_⟩
 refine cD (xs:=ps.map V.ref) (fun i ys H'=>Same H1 H'/\H' acc=some (.lst ys)/\∃rs:List Addr,ys=rs.map V.ref/\Paired (fun p (l:List FB.Deed)=>H1 p=none/\p≠acc/\∃vs,H' p=some (.lst vs)/\Paired (DeedV1 K H') vs l) rs ((aW b.ds bss).take i)) ⟨Same.upd hacc,ae,[],rfl,.nil⟩ (fun i ys H' _ h=>SqL.of (h.1 _ _ hc)) ?_ ?_
 ·rintro i x ys H2 os hi ho ⟨s2,ha2,rs,rfl,hrs⟩
  rw [List.getElem?_map] at hi
  obtain ⟨p,hp,rfl⟩:=Option.map_eq_some_iff.mp hi
  obtain ⟨bt,hbt,hpb⟩:=Paired.get hps hp
  obtain ⟨_,_,hlt⟩:=i8 hg bt (List.mem_of_getElem? hbt)
  have eb:(az os [2] [some (V.ref q),some (V.ref u),some (V.ref a),some (V.ref e),none]).set 1 (some (V.ref p))=az [some (V.ref p)] [2] [some (V.ref q),some (V.ref u),some (V.ref a),some (V.ref e),none]:=by
   match os,ho with
   | [o],_=>rfl
  show (∃os',os'.length=1/\(az os [2] [some (V.ref q),some (V.ref u),some (V.ref a),some (V.ref e),none]).set 1 (some (V.ref p))=az os' [2] _)/\fu ((az os [2] _).set 1 (some (V.ref p))) H2 _
  rw [eb]
  refine ⟨⟨[some (V.ref p)],rfl,rfl⟩,?_⟩
  unfold fu
  dsimp only
  rw [if_pos rfl]
  simp_arith []
  refine ⟨⟨_,SqL.of (s2 _ _ hpb)⟩,fun a2 ha2n bk2=>?_⟩
  refine rL (bt.map fun p=>vs.getD p .non) (by rw [dJ,sizeLine_eq];have:=i8 hg bt (List.mem_of_getElem? hbt);omega) (by rw [dJ,List.length_map]) (SqL.of (s2 _ _ hpb)) ha2n (fun j x y hx hy H3 Q' s3 h=>?_) fun H3 s3 e3=>?_
  ·rw [List.getElem?_map] at hy
   obtain ⟨pl,hpl,rfl⟩:=Option.map_eq_some_iff.mp hy
   rw [Cv hpl] at hx
   cases hx
   simp_arith []
   have hpv:=hlt pl (List.mem_of_getElem? hpl)
   refine ⟨_,_,SqL.of (s3 _ _ (s2 _ _ (s1 _ _ ha))),bc (j:=pl) (v:=vs.getD pl .non) (by rw [List.getD_eq_getElem?_getD,List.getElem?_eq_getElem (by omega)];rfl),h H3 (Same.refl H3)⟩
  have na:a2≠acc:=ai ha2 ha2n |>.symm
  have s13:=s2.trans s3
  have lr:=hrs.length
  have e3a:=s3 _ _ ha2
  have sf:Same H1 (upd H3 acc (.lst (List.map V.ref rs ++ [V.ref a2]))):=s13.updM hacc
  have tf:TSame H3 (upd H3 acc (.lst (List.map V.ref rs ++ [V.ref a2]))):=TSame.updL e3a
  rw [List.length_take] at lr
  refine ⟨e3a,by rw [List.length_map,sizeLine_eq];omega,sf,ae,rs ++ [a2],by rw [List.map_append];rfl,?_⟩
  have et:(aW b.ds bss).take (i+1)=(aW b.ds bss).take i ++ [bt.map (jb b.ds)]:=by
   have hb:(aW b.ds bss)[i]?=some (bt.map (jb b.ds)):=by unfold aW;rw [List.getElem?_map,hbt];rfl
   obtain ⟨h1,h2⟩:=List.getElem?_eq_some_iff.mp hb
   rw [List.take_succ_eq_append_getElem h1,h2]
  rw [et]
  refine FL.Paired.snoc ⟨s2.free ha2n,na,_,by rw [al na];exact e3,?_⟩ (FL.Paired.imp hrs fun r0 _ l _ ⟨z1,z2,vs2,z3,z4⟩=>⟨z1,z2,vs2,by rw [al z2];exact s3 _ _ z3,FL.Paired.imp z4 fun _ _ _ _ z=>z.ts (s3.ts.trans tf)⟩)
  refine FL.Paired.of_get (by rw [List.length_map,List.length_map]) fun j x d hx hd=>?_
  rw [List.getElem?_map] at hx hd
  obtain ⟨pl,hpl,rfl⟩:=Option.map_eq_some_iff.mp hx
  rw [hpl] at hd
  cases hd
  have hpv:=hlt pl (List.mem_of_getElem? hpl)
  obtain ⟨d,hd,hdv⟩:=Paired.get hvs (i:=pl) (a:=vs.getD pl .non) (by rw [List.getD_eq_getElem?_getD,List.getElem?_eq_getElem (by omega)];rfl)
  have ed:jb b.ds pl=d:=by unfold jb;rw [List.getD_eq_getElem?_getD,hd];rfl
  rw [ed]
  exact hdv.ts ((s1.trans s13).ts.trans tf)
 ·rintro ys H2 ⟨s2,ha2,rs,rfl,hrs⟩
  rw [List.length_map,lps,List.take_of_length_le (by unfold aW;rw [List.length_map];exact Nat.le_refl _)] at hrs
  have s02:=s1.trans s2
  refine later ?_
  simp_arith! []
  have fin:∀H3,Same H2 H3->∀bs,fY us b bs->BtsV K (fun p=>H p=none) H3 acc bs->iw (uO (cg 4)) {nx:=fun x H'=>Q V.non H',rt:=Q} [some (V.ref q),some (V.ref u),some (V.ref a),some (V.ref e),some (V.ref acc)] H3:=fun H3 s3 bs hl hv=>by
   refine later ?_
   simp_arith []
   exact qk acc bs H3 (s02.trans s3) (s1.free hacc) hl hv
  have hv2:∀H3,Same H2 H3->BtsV K (fun p=>H p=none) H3 acc (aW b.ds bss):=fun H3 s3=>⟨rs,s3 _ _ ha2,FL.Paired.imp hrs fun r0 _ l _ ⟨z1,z2,vs2,z3,z4⟩=>⟨s1.free z1,vs2,s3 _ _ z3,FL.Paired.imp z4 fun _ _ _ _ z=>z.ts s3.ts⟩⟩
  have hF:∀z,((aW b.ds bss).isEmpty || lh (aW b.ds bss) b.ed)=z->dG b bss=if z=true then aW b.ds bss ++ [[]] else aW b.ds bss:=fun z hz=>by unfold dG;rw [hz]
  have lrs:=hrs.length
  have stay:∀H3,Same H2 H3->((aW b.ds bss).isEmpty || lh (aW b.ds bss) b.ed)=false->iw (uO (cg 4)) {nx:=fun x H'=>Q V.non H',rt:=Q} [some (V.ref q),some (V.ref u),some (V.ref a),some (V.ref e),some (V.ref acc)] H3:=fun H3 s3 hz=>fin H3 s3 _ ⟨bss,hg,(hF _ hz).symm⟩ (hv2 H3 s3)
  have grow:∀H3,Same H2 H3->((aW b.ds bss).isEmpty || lh (aW b.ds bss) b.ed)=true->tyV K "list" (V.ref acc) H3/\∀p,H3 p=none->∃xs,upd H3 p (.lst []) acc=some (.lst xs)/\xs.length < sizeLine/\
    iw (uO (cg 4)) {nx:=fun x H'=>Q V.non H',rt:=Q} [some (V.ref q),some (V.ref u),some (V.ref a),some (V.ref e),some (V.ref acc)] (upd (upd H3 p (.lst [])) acc (.lst (xs ++ [V.ref p]))):=fun H3 s3 hz=>by
   have e3:=s3 _ _ ha2
   refine ⟨.inl ⟨rfl,_,SqL.of e3⟩,fun p hp=>?_⟩
   have np:p≠acc:=(ai e3 hp).symm
   have t1:=Same.upd (o:=.lst []) hp
   refine ⟨_,t1 _ _ e3,by rw [List.length_map,sizeLine_eq];omega,?_⟩
   have tf:TSame (upd H3 p (.lst [])) (upd (upd H3 p (.lst [])) acc (.lst (List.map V.ref rs ++ [V.ref p]))):=TSame.updL (t1 _ _ e3)
   refine later ?_
   simp_arith []
   refine qk acc (dG b bss) _ ((s02.trans (s3.trans t1)).updM (s1.free hacc)) (s1.free hacc) ⟨bss,hg,rfl⟩ ?_
   rw [hF _ hz,if_pos rfl]
   refine ⟨rs ++ [p],by rw [ae,List.map_append];rfl,FL.Paired.snoc ⟨s02.free (s3.free hp),[],by rw [al np];exact ae,.nil⟩ (FL.Paired.imp hrs fun r0 _ l _ ⟨z1,z2,vs2,z3,z4⟩=>⟨s1.free z1,vs2,by rw [al z2];exact t1 _ _ (s3 _ _ z3),FL.Paired.imp z4 fun _ _ _ _ z=>z.ts ((s3.trans t1).ts.trans tf)⟩)⟩
  intro p hp
  have t1:=Same.upd (o:=.lst []) hp
  refine ⟨_,xA (t1 _ _ ha2) ae,_,rfl,aH (fun hz=>?_) fun hz=>?_⟩
  ·rw [if_pos trivial]
   refine grow _ t1 ?_
   have:aW b.ds bss=[]:=List.length_eq_zero_iff.mp (by rw [<- lrs,<- List.length_map (f:=V.ref),hz];rfl)
   rw [this];rfl
  have hbe:(aW b.ds bss).isEmpty=false:=by
   cases hbd:aW b.ds bss with
   | nil=>
    rw [hbd] at lrs
    exact absurd (by rw [List.length_eq_zero_iff.mp lrs];rfl) hz
   | cons _ _=>rfl
  rw [hbe,Bool.false_or] at grow stay
  have he2:=t1 _ _ (s02 _ _ he)
  cases hed:b.ed with
  | stop=>
   rw [hed] at stay grow he2
   refine ⟨_,_,SqT.of he2,rfl,rfl,_,rfl,?_⟩
   rw [if_neg (by decide +kernel)]
   exact stay _ t1 rfl
  | go i=>
   rw [hed] at stay grow he2
   refine ⟨_,_,SqT.of he2,rfl,rfl,_,rfl,?_⟩
   rw [if_neg (by decide +kernel)]
   exact stay _ t1 rfl
  | choose n i j=>
   rw [hed] at stay grow he2
   refine ⟨_,_,SqT.of he2,rfl,rfl,_,rfl,?_⟩
   rw [if_pos (by decide +kernel)]
   rcases List.eq_nil_or_concat rs with z | ⟨rl,pl,z⟩
   ·exact absurd (by rw [z];rfl) hz
   have hpl:rs[rl.length]?=some pl:=by rw [z,List.concat_eq_append,List.getElem?_append_right (Nat.le_refl _),Nat.sub_self];rfl
   obtain ⟨l,hl,_,_,vl,hvl,hdl⟩:=Paired.get hrs hpl
   have el:gh (aW b.ds bss)=l:=by
    unfold gh
    rw [List.getLastD_eq_getLast?,List.getLast?_eq_getElem?,<- lrs,z,List.concat_eq_append,List.length_append,List.length_singleton,Nat.add_sub_cancel,hl]
    rfl
   have hll:l.length<=8:=(cS (fun s hs=>Int.le_of_lt (mK hB.h3 hB.hp s hs)) h8 ⟨bss,hg,rfl⟩).2 l (by
    unfold dG
    split
    ·exact List.mem_append_left _ (List.mem_of_getElem? hl)
    ·exact List.mem_of_getElem? hl) |>.2.1
   refine ⟨_,.ref pl,SqL.of (t1 _ _ ha2),by rw [z,List.concat_eq_append,List.map_append];exact mV _ _,_,_,SqT.of he2,rfl,?_⟩
   rw [xv]
   refine ⟨vl,l,SqL.of (t1 _ _ hvl),FL.Paired.imp hdl fun _ _ _ _ z=>z.ts t1.ts,by omega,fun H3 s3=>⟨_,rfl,?_⟩⟩
   have em:lh (aW b.ds bss) (.choose n i j)=wrB l n:=by rw [lh,el]
   rw [em] at grow stay
   exact dh (fun h=>grow H3 (t1.trans s3) h) fun h=>stay H3 (t1.trans s3) h
end
end K50
variable {H:Hp}
namespace K50
open PySem L2 PyProof.Rows FD FB FS FO FR
theorem tQ{xs:List V}:cR xs none (some (-1))=xs.dropLast:=by
 unfold cR
 rw [HT.kg,List.drop_zero,Nat.sub_zero,List.dropLast_eq_take]
 have e:HT.sIx xs.length xs.length (some (-1))=xs.length - 1:=by
  show (if (-1:Int) < 0 then (-1+(xs.length:Int)).toNat else min (-1:Int).toNat xs.length)=_
  rw [if_pos (by decide)]
  omega
 rw [e]
theorem yD{x:V}{os:List (Option V)}{ci:List Nat}{σ:L2.St}{Z Y:L2.St->Hp->Prop}(ho:os.length=1)(h:Z (az [some x] ci σ) H):aQ 1 x (az os ci σ) H fun σ1 H1=>(∃os',os'.length=1/\σ1=az os' ci σ)/\fu σ1 H1 fun b H2=>if b=true then Z σ1 H2 else Y σ1 H2:=by
 have e:(az os ci σ).set 1 (some x)=az [some x] ci σ:=by
  match os,ho with
  | [o],_=>rfl
 show (∃os',os'.length=1/\(az os ci σ).set 1 (some x)=az os' ci σ)/\fu ((az os ci σ).set 1 (some x)) H _
 rw [e]
 exact ⟨⟨[some x],rfl,rfl⟩,by unfold fu;dsimp only;rw [if_pos rfl];exact h⟩
def nn(K:PySem.W.Frag)(C:Addr)(d:Nat)(p u:Addr)(H:Hp)(Q:VK):Prop:=∃(wd:Int)(ins oth:List Str)(ss:List Stm)(a b r:Addr)(ys:List V)(g:List Addr)(us:List Int)(ns:List Str),ProgAt K C H p wd ins oth ss a b r ys g/\bo ss < d/\3 * aK ss < 300/\cB ns wd ss/\SqT K H u (us.map V.int)/\us.length=3/\(∀x∈us,0 < x/\x<=3)/\
 ∀tb xs bbs H',Same H H'->H tb=none->H' tb=some (.lst xs)->Paired (fY us) (FZ.bU ss) bbs->Paired (BlkV K (fun c=>H c=none) H' tb) xs (mJ (FZ.bU ss) bbs)->Q (.ref tb) H'
def pR(K:PySem.W.Frag)(C:Addr)(d:Nat):Sp:=fun vs H Q _=>∃p u:Addr,vs=[.ref p,.ref u]/\nn K C d p u H Q
section
variable {P:Program} {w:World} {K:PySem.W.Frag} {mg:Str->Option Value} {base:Heap} {t:Ad}
theorem sS{C p u:Addr}{d:Nat}{Q:VK}{E:XK}:pR K C d [.ref p,.ref u] H Q E=nn K C d p u H Q:=propext ⟨by rintro ⟨_,_,e,q⟩;cases e;exact q,fun q=>⟨_,_,rfl,q⟩⟩
theorem BtsV.mv{N N':Addr->Prop}{H H':Hp}{c:Addr}{bs:List (List FB.Deed)}(h:BtsV K N H c bs)(s:Same H H')(hn:∀p,N p->N' p):BtsV K N' H' c bs:=
 let ⟨ps,e,r⟩:=h;⟨ps,s _ _ e,FL.Paired.imp r fun p _ l _ ⟨z1,vs,z2,z3⟩=>⟨hn p z1,vs,s _ _ z2,FL.Paired.imp z3 fun _ _ _ _ z=>z.ts s.ts⟩⟩
theorem BtsV.updL{N:Addr->Prop}{H:Hp}{c l:Addr}{bs:List (List FB.Deed)}{us vs:List V}(h:BtsV K N H c bs)(hl:H l=some (.lst us))(hc:c≠l)(hn:∀p,N p->p≠l):BtsV K N (upd H l (.lst vs)) c bs:=
 let ⟨ps,e,r⟩:=h;⟨ps,by rw [al hc];exact e,FL.Paired.imp r fun p _ l _ ⟨z1,vs,z2,z3⟩=>⟨z1,vs,by rw [al (hn p z1)];exact z2,FL.Paired.imp z3 fun _ _ _ _ z=>z.ts (TSame.updL hl)⟩⟩
theorem y0{N:Addr->Prop}{H:Hp}{tb q a e:Addr}{xs vs:List V}{T:List FZ.Blk}{l:List FB.Deed}{ed:FZ.Ed}(ht:H tb=some (.lst xs))(hx:Paired (BlkV K N H tb) xs T)(hq:H q=some (.tup [.ref a,.ref e]))(ha:H a=some (.lst vs))(hv:Paired (DeedV1 K H) vs l)(he:H e=some (.tup (d4 ed)))(hn:a≠tb)(hN:N a):
  Paired (BlkV K N (upd H tb (.lst (xs ++ [.ref q]))) tb) (xs ++ [.ref q]) (T ++ [⟨l,ed⟩]):=
 FL.Paired.snoc (BlkV.sx (b:=⟨l,ed⟩) ⟨q,a,e,vs,rfl,hq,ha,hv,he,hn,hN⟩ SameX.upd ht) (FL.Paired.imp hx fun y _ c _ h=>h.sx SameX.upd ht)
theorem ud{F:Addr->List FB.Deed->Prop}{ps:List Addr}{bs:List (List FB.Deed)}(h:Paired F ps bs)(hn:bs≠[]):∃p,atI (ps.map V.ref) (-1)=some (.ref p)/\F p (gh bs):=by
 have lr:=h.length
 rcases List.eq_nil_or_concat ps with z | ⟨rl,pl,z⟩
 ·rw [z] at lr
  exact absurd (List.length_eq_zero_iff.mp lr.symm) hn
 have hpl:ps[rl.length]?=some pl:=by rw [z,List.concat_eq_append,List.getElem?_append_right (Nat.le_refl _),Nat.sub_self];rfl
 obtain ⟨l,hl,hf⟩:=Paired.get h hpl
 have el:gh bs=l:=by
  unfold gh
  rw [List.getLastD_eq_getLast?,List.getLast?_eq_getElem?,<- lr,z,List.concat_eq_append,List.length_append,List.length_singleton,Nat.add_sub_cancel,hl]
  rfl
 rw [el]
 exact ⟨pl,by rw [z,List.concat_eq_append,List.map_append];exact mV _ _,hf⟩
theorem nW{us:List Int}{b:FZ.Blk}{bs:List (List FB.Deed)}(h8:b.ds.length<=8)(h:fY us b bs):bs.length<=9:=by
 obtain ⟨bss,hg,rfl⟩:=h
 have z:=nT hg
 rw [List.length_range] at z
 have lbd:(aW b.ds bss).length=bss.length:=by unfold aW;rw [List.length_map]
 unfold dG
 split
 ·rw [List.length_append,List.length_singleton];omega
 ·omega
theorem lP{bbs:List (List (List FB.Deed))}(h:∀bs∈bbs,bs.length<=9):dS bbs<=9 * bbs.length:=by
 induction bbs with
 | nil=>exact Nat.zero_le _
 | cons b l ih=>
  have h1:=ih fun c hc=>h c (List.mem_cons_of_mem _ hc)
  have h2:=h b (by simp)
  unfold dS at h1 ⊢
  rw [List.map_cons,List.sum_cons,List.length_cons]
  omega
theorem vW(T:Txt K mg t)(hw:t.pr=w.params)(d:Nat):FnOk P w K mg base CX0 (3 * d+16) t.f_table_of t.e_table_of ["program","units"] (pR K t.C_Program d):=by
 have G_blocks_of:=uj (P:=P) (w:=w) (base:=base) T d
 have G_beats_of:=vK (P:=P) (w:=w) (base:=base) T hw
 have G_led_anew:=Bi (P:=P) (w:=w) (base:=base) T
 refine T.d_table_of.F.ok sc_table_of (fun vs H Q E h=>by obtain ⟨_,_,rfl,_⟩:=h;rfl) (fun cdv A outer s H vs Q E hr h=>?_)
 obtain ⟨p,u,rfl,wd,ins,oth,ss,a,b,r,ys,g,us,ns,hP,hd,hm,hgd,hU,h3,hp3,qk⟩:=h
 have hu:=sd hr
 refine ⟨_,
   (XSs.h
   (af
    (ar (i:=2) sc_table_of.nd rfl ll (am T.d_blocks_of G_blocks_of (hr.mono (by first | decide | omega)) (aa (yqv 0 vl) ac) gl))
   (af
    (ce (i:=4) sc_table_of.nd rfl ll rfl (by kernel_rfl) (tns:=["block"]) (cns:=["units"]) (ci:=[1]) rfl (CompSc.of (by kernel_rfl)) (aO (yqv 2 vl)) (fun _=>(aA (i:=1) (show List.Nodup [(".0":Str),("block":Str),("units":Str)] by decide +kernel) rfl ll (Or.inr (by kernel_rfl)))) (fun _=>bN) (fun _=>(am T.d_beats_of G_beats_of (hr.mono (by first | decide | omega)) (aa (yqv 1 vl) (aa (yqv 2 vc) ac)) gl)))
   (af
    (ar (i:=5) sc_table_of.nd rfl ll (aI ac))
   (af
    (ar (i:=6) sc_table_of.nd rfl ll ad)
   (bj
    (bB PassesOwn.never rfl (aO (yqv 4 vl)) (aA (i:=7) sc_table_of.nd rfl ll)
     (af
      (bg (bM PySem.F.plainAttrs_list PySem.F.slot_list_append PySem.F.type_list_append aP (yqv 5 vl) (aa (yqv 6 vl) ac)))
     (ag
      (ar (i:=6) sc_table_of.nd rfl ll (ak aZ (yqv 6 vl) (aq au gl T.z_len PySem.boot_len (aa (yqv 7 vl) ac)))))))
   (af
    (ar (i:=8) sc_table_of.nd rfl ll (aI ac))
   (af
    (bB PassesOwn.never rfl (A1 T.z_zip (aa (yqv 2 vl) (aa (yqv 4 vl) ac)) gl) (mM rfl (cP (aA (i:=3) sc_table_of.nd rfl ll) (cP (aA (i:=7) sc_table_of.nd rfl ll) kC)))
     (bj
      (bB PassesOwn.never rfl (aO (bi cK (yqv 7 vl) bW (bd (rg mO ad)))) (aA (i:=9) sc_table_of.nd rfl ll)
       (ag
        (bg (bM PySem.F.plainAttrs_list PySem.F.slot_list_append PySem.F.type_list_append aP (yqv 8 vl) (aa (aE (aa (yqv 9 vl) (aa (aE (aa aC (aa (ak aZ (aq au gl T.z_len PySem.boot_len (aa (yqv 8 vl) ac)) ad) ac))) ac))) ac)))))
     (ag
      (bg (bM PySem.F.plainAttrs_list PySem.F.slot_list_append PySem.F.type_list_append aP (yqv 8 vl) (aa (aE (aa (aj aR (yqv 7 vl) (rg mO ad) (fun _ _=>rfl)) (aa (am T.d_led_anew G_led_anew (hr.mono (by first | decide | omega)) (aa (aj aw (yqv 3 vl) ad (fun _ _=>rfl)) (aa (yqv 5 vl) ac)) gl) ac))) ac))))))
   (ag
    (ao (yqv 8 vl))))))))))),?_⟩
 rw [show aG _ [V.ref p,V.ref u]=[some (.ref p),some (.ref u),none,none,none,none,none,none,none,none] from rfl]
 simp_arith! [wM]
 refine ⟨wd,ins,oth,ss,a,b,r,ys,g,hP,hd,by omega,fun bl bs H1 s1 hbl0 hbl hbs=>?_⟩
 have hG:=FZ.j2 hgd
 have lB:=FZ.g6 ss
 obtain ⟨B,hB⟩:∃B,B=FZ.bU ss:=⟨_,rfl⟩
 rw [<- hB] at hG lB hbs qk
 have lb:=hbs.length
 refine later ?_
 simp_arith! [sF]
 refine ⟨⟨_,SqL.of hbl⟩,fun acc hacc bk=>?_⟩
 have up:=mK h3 hp3
 refine cD (xs:=bs) (fun i ys H'=>Same H1 H'/\H' acc=some (.lst ys)/\∃(rs:List Addr)(bbs:List (List (List FB.Deed))),ys=rs.map V.ref/\Paired (fY us) (B.take i) bbs/\Paired (fun r bs=>H1 r=none/\r≠acc/\BtsV K (fun p=>H1 p=none/\p≠acc) H' r bs) rs bbs) ⟨Same.upd hacc,ae,[],[],rfl,.nil,.nil⟩ (fun i ys H' _ h=>SqL.of (h.1 _ _ hbl)) ?_ ?_
 ·rintro i x ys H2 os hi ho ⟨s2,ha2,rs,bbs,rfl,hL,hR⟩
  obtain ⟨b0,hb0,hbv⟩:=Paired.get hbs hi
  have hb8:=(hG b0 (List.mem_of_getElem? hb0)).len
  obtain ⟨qb,ab,eb,vs,rfl,v1,v2,v3,v4,v5,v6⟩:=hbv.same s2
  refine yD ho ?_
  simp_arith [sF]
  refine ⟨b0,us,⟨⟨ab,eb,vs,v1,v2,v3,v4⟩,hb8,(s1.trans s2).seqT hU,h3,hp3⟩,fun c bs0 H3 s3 hc hl hv=>?_⟩
  have e3:=s3 _ _ ha2
  have nc:c≠acc:=(ai ha2 hc).symm
  have lr:=hR.length
  have lL:=hL.length
  rw [List.length_take] at lL
  refine ⟨e3,by rw [List.length_map,sizeLine_eq];omega,(s2.trans s3).updM hacc,ae,rs ++ [c],bbs ++ [bs0],by rw [List.map_append];rfl,?_,?_⟩
  ·obtain ⟨h1,h2⟩:=List.getElem?_eq_some_iff.mp hb0
   rw [List.take_succ_eq_append_getElem h1,h2]
   exact FL.Paired.snoc hl hL
  ·refine FL.Paired.snoc ⟨s2.free hc,nc,?_⟩ (FL.Paired.imp hR fun r0 _ l _ ⟨z1,z2,z3⟩=>⟨z1,z2,(z3.mv s3 fun _ z=>z).updL e3 z2 fun _ z=>z.2⟩)
   exact (hv.mv (Same.refl _) fun p0 z=>⟨s2.free z,(ai ha2 z).symm⟩).updL e3 nc fun _ z=>z.2
 ·rintro ys H2 ⟨s2,ha2,rs,bbs,rfl,hL,hR⟩
  rw [List.take_of_length_le (by omega)] at hL
  have lr:=hR.length
  have lL:=hL.length
  have hne:∀bs∈bbs,bs≠[]/\bs.length<=9:=fun bs hbs=>by
   obtain ⟨i,hi⟩:=List.mem_iff_getElem?.mp hbs
   obtain ⟨b0,hb0,hl⟩:=Paired.getR hL hi
   have h8:=(hG b0 (List.mem_of_getElem? hb0)).len
   exact ⟨(cS (fun s hs=>Int.le_of_lt (up s hs)) h8 hl).1,nW h8 hl⟩
  have hR2:Paired (fun r bs=>H1 r=none/\BtsV K (fun p=>H1 p=none) H2 r bs) rs bbs:=FL.Paired.imp hR fun r0 _ l _ ⟨z1,_,z3⟩=>⟨z1,z3.mv (Same.refl _) fun _ z=>z.1⟩
  have hsum:=lP fun bs hbs=>(hne bs hbs).2
  have hacc0:=hacc
  clear hR hacc bk
  refine later ?_
  simp_arith! []
  intro fl hfl
  refine later ?_
  simp_arith! []
  refine later ?_
  simp_arith! []
  have t1:=Same.upd (o:=.lst []) hfl
  refine ⟨fun σ H'=>Same H2 H'/\H' fl=some (.lst (nl (bq bbs)))/\∃o6 o7,σ=[some (V.ref p),some (V.ref u),some (V.ref bl),none,some (V.ref acc),some (V.ref fl),o6,o7,none,none],?_,?_⟩
  ·refine ⟨⟨_,SqL.of (t1 _ _ ha2)⟩,?_⟩
   refine cv (xs:=rs.map V.ref) (fun i σ H'=>Same H2 H'/\H' fl=some (.lst (nl ((bq bbs).take i)))/\∃o7,σ=[some (V.ref p),some (V.ref u),some (V.ref bl),none,some (V.ref acc),some (V.ref fl),some (V.int (dS (bbs.take i))),o7,none,none])
    ⟨t1,ae,_,rfl⟩ (fun i σ H' _ h=>SqL.of (h.1 _ _ ha2)) ?_ ?_
   ·rintro i x σ H3 hx ⟨s3,e3,o7,rfl⟩
    rw [List.getElem?_map] at hx
    obtain ⟨r0,hr0,rfl⟩:=Option.map_eq_some_iff.mp hx
    obtain ⟨bs0,hbs0,z1,ps,hps,hpp⟩:=Paired.get hR2 hr0
    have hi:=(List.getElem?_eq_some_iff.mp hbs0).1
    have lp:=hpp.length
    have lf:(bq bbs).length=bbs.length:=by unfold bq;rw [List.length_map,List.length_range]
    have ltk:=dJ (ps:=(bq bbs).take i)
    rw [List.length_take] at ltk
    simp_arith []
    have nr:r0≠fl:=ai hps hfl
    refine ⟨.inl ⟨rfl,_,SqL.of e3⟩,_,e3,by rw [ltk,sizeLine_eq];omega,ps.map V.ref,.inl (SqL.of (by rw [al nr];exact s3 _ _ hps)),s3.updM hfl,?_,some (V.ref r0),?_⟩
    ·have hf:(bq bbs)[i]?=some (dS (bbs.take i)):=by unfold bq;rw [List.getElem?_map,List.getElem?_range hi];rfl
     obtain ⟨h1,h2⟩:=List.getElem?_eq_some_iff.mp hf
     rw [ae,List.take_succ_eq_append_getElem h1,h2]
     unfold nl
     rw [List.map_append]
     rfl
    ·rw [dD hbs0,List.length_map,lp,Int.natCast_add]
   ·rintro σ H3 ⟨s3,e3,o7,rfl⟩
    rw [List.length_map,lr,List.take_of_length_le (by unfold bq;rw [List.length_map,List.length_range];exact Nat.le_refl _)] at e3
    exact ⟨s3,e3,_,_,rfl⟩
  rintro σ H3 ⟨s3,e3,o6,o7,rfl⟩
  refine later ?_
  simp_arith! []
  intro tb htb
  refine later ?_
  simp_arith! [sN]
  have t4:=Same.upd (o:=.lst []) htb
  have hS3:=s2.trans s3
  have lB1:B.length=bbs.length:=lL
  refine ⟨bl,acc,rfl,⟨_,SqL.of (t4 _ _ (hS3 _ _ hbl))⟩,⟨_,SqL.of (t4 _ _ (s3 _ _ ha2))⟩,?_⟩
  refine AX (xs:=bs) (ys:=rs.map V.ref) (by rw [List.length_map];omega) (fun i σ H'=>Same H3 H'/\(∃xs,H' tb=some (.lst xs)/\Paired (BlkV K (fun c=>H c=none) H' tb) xs (io B bbs i))/\∃o3 o7 o9,σ=[some (V.ref p),some (V.ref u),some (V.ref bl),o3,some (V.ref acc),some (V.ref fl),o6,o7,some (V.ref tb),o9])
   ⟨t4,⟨[],ae,.nil⟩,_,_,_,rfl⟩ (fun i σ H' _ h=>⟨SqL.of (h.1 _ _ (hS3 _ _ hbl)),SqL.of (h.1 _ _ (s3 _ _ ha2))⟩) ?_ ?_
  ·rintro i x y σ H5 pp hx hy hpp ⟨s5,⟨xs,e5,hxs⟩,o3,o7,o9,rfl⟩
   rw [List.getElem?_map] at hy
   obtain ⟨r0,hr0,rfl⟩:=Option.map_eq_some_iff.mp hy
   obtain ⟨bs0,hbs0,z1,ps,hps,hpp0⟩:=Paired.get hR2 hr0
   obtain ⟨b0,hb0,hbv⟩:=Paired.get hbs hx
   obtain ⟨qb,ab,eb,vs,rfl,v1,v2,v3,v4,v5,v6⟩:=hbv.same hS3
   have lp:=hpp0.length
   have hn0:=(hne bs0 (List.mem_of_getElem? hbs0)).1
   have hlen:=hZ lB1 (fun bs hbs=>(hne bs hbs).1) i (by have:=(List.getElem?_eq_some_iff.mp hbs0).1;omega)
   have hsle:=mD (bbs:=bbs) (i+1)
   rw [dD hbs0] at hsle
   simp_arith! []
   refine ⟨_,SqT.of ae,rfl,?_⟩
   have t6:=Same.upd (o:=.tup [.ref qb,.ref r0]) hpp
   have s6:=s5.trans t6
   have e6:=t6 _ _ e5
   have hx6:=FL.Paired.imp hxs fun y _ c _ h=>h.same t6
   clear hxs hpp e5
   generalize upd H5 pp (.tup [.ref qb,.ref r0])=H6 at t6 s6 e6 hx6 ⊢
   simp_arith! [sN]
   refine ⟨fun σ H'=>Same H3 H'/\(∃xs,H' tb=some (.lst xs)/\Paired (BlkV K (fun c=>H c=none) H' tb) xs (io B bbs i ++ bs0.dropLast.mapIdx fun j d=>⟨d,.go ((io B bbs i).length+j+1)⟩))/\∃o9,σ=[some (V.ref p),some (V.ref u),some (V.ref bl),some (V.ref qb),some (V.ref acc),some (V.ref fl),o6,some (V.ref r0),some (V.ref tb),o9],?_,?_⟩
   ·refine ⟨_,SqL.of (s6 _ _ (s3 _ _ hps)),fun sl hsl=>?_⟩
    rw [tQ]
    have t7:=Same.upd (o:=.lst (ps.map V.ref).dropLast) hsl
    have s7:=s6.trans t7
    have e7:=t7 _ _ e6
    have esl:upd H6 sl (.lst (ps.map V.ref).dropLast) sl=some (.lst (ps.map V.ref).dropLast):=ae
    have hx7:=FL.Paired.imp hx6 fun y _ c _ h=>h.same t7
    have nsl:sl≠tb:=(ai e6 hsl).symm
    generalize upd H6 sl (.lst (ps.map V.ref).dropLast)=H7 at t7 s7 e7 esl hx7 ⊢
    refine ⟨⟨_,SqL.of esl⟩,?_⟩
    refine cv (xs:=(ps.map V.ref).dropLast) (fun j σ H'=>SameX tb H7 H'/\(∃xs,H' tb=some (.lst xs)/\Paired (BlkV K (fun c=>H c=none) H' tb) xs (io B bbs i ++ (bs0.dropLast.take j).mapIdx fun j d=>⟨d,.go ((io B bbs i).length+j+1)⟩))/\∃o9,σ=[some (V.ref p),some (V.ref u),some (V.ref bl),some (V.ref qb),some (V.ref acc),some (V.ref fl),o6,some (V.ref r0),some (V.ref tb),o9])
     ⟨SameX.refl,⟨_,e7,by simpa using hx7⟩,_,rfl⟩ (fun j σ H' _ h=>SqL.of (h.1 _ _ esl nsl)) ?_ ?_
    ·rintro j x σ H8 hxj ⟨sx8,⟨xs8,e8,hx8⟩,o9',rfl⟩
     simp_arith []
     have hjl:j < ps.length - 1:=by have:=(List.getElem?_eq_some_iff.mp hxj).1;rwa [List.length_dropLast,List.length_map] at this
     obtain ⟨pj,hpj⟩:∃pj,ps[j]?=some pj:=⟨_,List.getElem?_eq_getElem (by omega)⟩
     rw [List.getElem?_dropLast,if_pos (by rw [List.length_map];exact hjl),List.getElem?_map,hpj] at hxj
     cases hxj
     obtain ⟨l,hl,hN,vl,hvl,hdl⟩:=Paired.get hpp0 hpj
     have hld:bs0.dropLast[j]?=some l:=by rw [List.getElem?_dropLast,if_pos (by omega)];exact hl
     have lx8:=hx8.length
     rw [List.length_append,List.length_mapIdx,List.length_take,List.length_dropLast] at lx8
     have s38:Same H3 H8:=fun c o e=>sx8 c o (s7 c o e) (ai e htb)
     refine ⟨.inl ⟨rfl,_,SqL.of e8⟩,_,.inl (SqL.of e8),fun p1 hp1 p2 hp2=>?_⟩
     have t9:=Same.upd (o:=.tup [V.str (Str.ofString "go"),V.int ((xs8.length:Int)+1)]) hp1
     have t10:=Same.upd (o:=.tup [V.ref pj,V.ref p1]) hp2
     have s10:=t9.trans t10
     have e1:=t10 _ _ (ae (H:=H8) (a:=p1) (o:=.tup [V.str (Str.ofString "go"),V.int ((xs8.length:Int)+1)]))
     have s310:=s38.trans s10
     refine ⟨xs8,s10 _ _ e8,by rw [sizeLine_eq];omega,(sx8.trans (SameX.of s10)).trans SameX.upd,⟨_,ae,?_⟩,_,rfl⟩
     rw [pZ hld,<- List.append_assoc]
     refine y0 (s10 _ _ e8) (FL.Paired.imp hx8 fun y _ c _ h=>h.same s10) ae (s310 _ _ (s3 _ _ hvl)) (FL.Paired.imp hdl fun _ _ _ _ z=>z.ts (s3.trans s310).ts) (e:=p1) ?_ (ai (s3 _ _ hvl) htb) (s1.free hN)
     rw [e1,lx8,Nat.min_eq_left (by omega)]
     rfl
    ·rintro σ H8 ⟨sx8,⟨xs8,e8,hx8⟩,o9',rfl⟩
     refine ⟨fun c o e=>sx8 c o (s7 c o e) (ai e htb),⟨xs8,e8,?_⟩,_,rfl⟩
     rw [List.take_of_length_le (by rw [List.length_dropLast,List.length_dropLast,List.length_map];omega)] at hx8
     exact hx8
   ·rintro σ H8 ⟨s8,⟨xs8,e8,hx8⟩,o9',rfl⟩
    refine later ?_
    simp_arith [sN]
    obtain ⟨pl,hat,hN,vl,hvl,hdl⟩:=ud hpp0 hn0
    have lx8:=hx8.length
    rw [List.length_append,List.length_mapIdx,List.length_dropLast] at lx8
    have lb0:=List.length_pos_iff.mpr hn0
    refine ⟨.inl ⟨rfl,_,SqL.of e8⟩,_,_,SqL.of (s8 _ _ (s3 _ _ hps)),hat,_,_,SqT.of (s8 _ _ v1),rfl,?_⟩
    rw [sN]
    refine ⟨b0.ed,bq bbs,s8 _ _ v4,SqL.of (s8 _ _ e3),fun k hk=>?_,fun e' H9 s9 he' p1 hp1=>?_⟩
    ·have:=(hG b0 (List.mem_of_getElem? hb0)).tg k hk
     unfold bq
     rw [List.length_map,List.length_range]
     omega
    have t10:=Same.upd (o:=.tup [.ref pl,.ref e']) hp1
    have s10:=s9.trans t10
    have s310:=s8.trans s10
    refine ⟨xs8,s10 _ _ e8,by rw [sizeLine_eq];omega,s310.updM htb,⟨_,ae,?_⟩,_,_,_,rfl⟩
    rw [fc hb0 hbs0,qg,iE,<- List.append_assoc]
    exact y0 (s10 _ _ e8) (FL.Paired.imp hx8 fun y _ c _ h=>h.same s10) ae (s310 _ _ (s3 _ _ hvl)) (FL.Paired.imp hdl fun _ _ _ _ z=>z.ts (s3.trans s310).ts) (t10 _ _ he') (ai (s3 _ _ hvl) htb) (s1.free hN)
  ·rintro σ H5 ⟨s5,⟨xs,e5,hxs⟩,o3,o7,o9,rfl⟩
   refine later ?_
   simp_arith []
   rw [lb,hX lB1] at hxs
   exact qk tb xs bbs H5 ((s1.trans hS3).trans s5) ((s1.trans hS3).free htb) e5 hL hxs
end
def di(l:List (Bool×V)):List V:=(l.filter (·.1)).map (·.2)
section
variable {K:PySem.W.Frag} {tt:TT} {te:TE} {ci:List Nat} {σ:L2.St} {acc:Addr} {Q:Hp->Prop} {H1:Hp} {a:Addr} {xs:List V}
theorem j6(l:List (Bool×V))(hz:xs.length<=sizeLine)(hlen:xs.length=l.length)(hl:SqL K H1 a xs)(hacc:H1 acc=none)
  (hp:∀(i:Nat)x b y,xs[i]?=some x->l[i]?=some (b,y)->∀H Q',Same H1 H->(∀H',Same H H'->Q' b H')->tt (az [some x] ci σ) H Q')
  (hf:∀(i:Nat)x y,xs[i]?=some x->l[i]?=some (true,y)->∀H Q',Same H1 H->(∀H',Same H H'->Q' y H')->te (az [some x] ci σ) H Q')
  (q:∀H,Same H1 H->H acc=some (.lst (di l))->Q H):bC (Itl K a) (aQ 1) tt te 1 ci σ acc Q (upd H1 acc (.lst [])):=by
 refine cD (fun i ys H=>ys=di (l.take i)/\Same H1 H/\H acc=some (.lst ys)) ⟨rfl,Same.upd hacc,ae⟩ (fun i ys H _ h=>h.2.1.seq hl) ?_ ?_
 ·rintro i x ys H os hi ho ⟨rfl,sm,ha⟩
  have hi':i < l.length:=by have:=(List.getElem?_eq_some_iff.mp hi).1;omega
  have e:(az os ci σ).set 1 (some x)=az [some x] ci σ:=by
   match os,ho with
   | [o],_=>rfl
  show (∃os',os'.length=1/\(az os ci σ).set 1 (some x)=az os' ci σ)/\tt ((az os ci σ).set 1 (some x)) H _
  rw [e]
  refine ⟨⟨[some x],rfl,rfl⟩,?_⟩
  obtain ⟨⟨b,y⟩,hy⟩:∃p,l[i]?=some p:=⟨_,List.getElem?_eq_getElem hi'⟩
  obtain ⟨_,ey⟩:=List.getElem?_eq_some_iff.mp hy
  have ek:di (l.take (i+1))=di (l.take i) ++ if b=true then [y] else []:=by
   rw [List.take_succ_eq_append_getElem hi',ey]
   unfold di
   rw [List.filter_append,List.map_append]
   cases b <;> rfl
  refine hp i x b y hi hy H _ sm fun H2 s2=>?_
  cases b with
  | false=>
   rw [if_neg (by decide)]
   rw [if_neg (by decide),List.append_nil] at ek
   exact ⟨ek.symm,sm.trans s2,s2 _ _ ha⟩
  | true=>
   rw [if_pos rfl]
   rw [if_pos rfl] at ek
   have lk:(di (l.take i)).length<=i:=by
    unfold di
    rw [List.length_map]
    exact Nat.le_trans (List.length_filter_le _ _) (by rw [List.length_take];omega)
   exact hf i x y hi hy H2 _ (sm.trans s2) fun H3 s3=>⟨s3 _ _ (s2 _ _ ha),by omega,ek.symm,((sm.trans s2).trans s3).updM hacc,ae⟩
 ·rintro ys H ⟨rfl,sm,ha⟩
  rw [hlen,List.take_length] at ha
  exact q H sm ha
end
def mX(K:PySem.W.Frag)(a u:Addr)(H:Hp)(Q:VK):Prop:=∃(xs:List V)(ds:List FB.Deed)(us:List Int),SqL K H a xs/\Paired (DeedV1 K H) xs ds/\ds.length < 60/\SqT K H u (us.map V.int)/\us.length=3/\∀H',Same H H'->Q (.bl (bfB us ds)) H'
def pG(K:PySem.W.Frag):Sp:=fun vs H Q _=>∃a u:Addr,vs=[.ref a,.ref u]/\mX K a u H Q
theorem yQ{ds:List FB.Deed}:di (ds.map fun d=>(!d.tells,V.str (wr d)))=(d6 ds).map V.str:=by
 induction ds with
 | nil=>rfl
 | cons d ds ih=>
  have e:d6 (d :: ds)=d.writes ++ d6 ds:=rfl
  rw [e,List.map_append,<- ih]
  unfold di
  rw [List.map_cons,List.filter_cons]
  cases d <;> rfl
theorem vA{ds:List FB.Deed}{xs:List V}{s:Nat}(h:xs.length=ds.length):(di ((ds.map fun d=>decide (cn d=s)).zip xs)).length=ds.countP fun d=>decide (cn d=s):=by
 unfold di
 rw [List.length_map]
 induction ds generalizing xs with
 | nil=>rfl
 | cons d ds ih=>
  cases xs with
  | nil=>cases h
  | cons x xs=>
   rw [List.map_cons,List.zip_cons_cons,List.filter_cons,List.countP_cons]
   have z:=ih (xs:=xs) (by simpa using h)
   dsimp only
   split
   ·rw [List.length_cons,z]
   ·rw [z];omega
theorem Ce{l:List FB.Deed}:(d6 l).length<=l.length:=by
 induction l with
 | nil=>exact Nat.le_refl _
 | cons d l ih=>
  have e:d6 (d :: l)=d.writes ++ d6 l:=rfl
  rw [e,List.length_append,yd,List.length_cons]
  split <;> omega
section
variable {P:Program} {w:World} {K:PySem.W.Frag} {mg:Str->Option Value} {base:Heap} {t:Ad}
theorem mr{a u:Addr}{H:Hp}{Q:VK}{E:XK}:pG K [.ref a,.ref u] H Q E=mX K a u H Q:=propext ⟨by rintro ⟨_,_,e,q⟩;cases e;exact q,fun q=>⟨_,_,rfl,q⟩⟩
theorem vL(T:Txt K mg t):FnOk P w K mg base CX0 2 t.f__law_beat_fine t.e__law_beat_fine ["_law_deeds","_law_units_here"] (pG K):=by
 have G__law_sort:=ze (P:=P) (w:=w) (base:=base) T
 refine T.d__law_beat_fine.F.ok sc__law_beat_fine (fun vs H Q E h=>by obtain ⟨_,_,rfl,_⟩:=h;rfl) (fun cdv A outer s H vs Q E hr h=>?_)
 obtain ⟨a,u,rfl,xs,ds,us,ha,hd,hl,hU,h3,q⟩:=h
 refine ⟨_,
   (XSs.h
   (af
    (ce (i:=2) sc__law_beat_fine.nd rfl ll rfl (by kernel_rfl) (tns:=["_law_deed_here"]) (cns:=[]) (ci:=[]) rfl (CompSc.of (by kernel_rfl)) (aO (yqv 0 vl)) (fun _=>(aA (i:=1) (show List.Nodup [(".0":Str),("_law_deed_here":Str)] by decide +kernel) rfl ll (Or.inr (by kernel_rfl)))) (fun _=>(da (ap jq (aj aw (yqv 1 vl) ad (fun _ _=>rfl)) aC (ax _)))) (fun _=>(aj aw (yqv 1 vl) ad (fun _ _=>rfl))))
   (bj
    (aD (bG (bH (ap jq (aq tL gl T.z_len PySem.boot_len (aa (bO (tM rfl) gl T.z_set boot_set (aa (yqv 2 vl) ac)) ac)) (aq au gl T.z_len PySem.boot_len (aa (yqv 2 vl) ac)) (ax _)) (bT (ap iu (aq au gl T.z_len PySem.boot_len (aa (yqv 0 vl) ac)) (ak aZ (aq au gl T.z_len PySem.boot_len (aa (yqv 2 vl) ac)) ad) (ax _)))))
     (ag
      (ao bL))
     ay)
   (af
    (bB PassesOwn.never rfl (bV gl T.z_range (aa ad ac)) (aA (i:=3) sc__law_beat_fine.nd rfl lc)
     (ag
      (aD (ap iu (aq au gl T.z_len PySem.boot_len (aa (b7 (tns:=["_law_deed_here"]) (cns:=["_law_sort_here"]) (ci:=[3]) rfl (CompSc.of (by kernel_rfl)) (aO (yqv 0 vl)) (fun _=>(aA (i:=1) (show List.Nodup [(".0":Str),("_law_deed_here":Str),("_law_sort_here":Str)] by decide +kernel) rfl ll (Or.inr (by kernel_rfl)))) (fun _=>(da (ap aV (am T.d__law_sort G__law_sort (hr.mono (by first | decide | omega)) (aa (yqv 1 vl) ac) gl) (yqv 2 vc) (ax _)))) (fun _=>(yqv 1 vl))) ac)) (aj aw (yqv 1 vl) (yqv 3 vc) (fun _ _=>rfl)) (ax _))
       (ag
        (ao bL))
       ay)))
   (ag
    (ao bL)))))),?_⟩
 rw [show aG _ [V.ref a,V.ref u]=[some (.ref a),some (.ref u),none,none] from rfl]
 simp_arith! [qO]
 have lx:=hd.length
 refine ⟨⟨_,ha⟩,fun wl hwl bk=>?_⟩
 refine j6 (ds.map fun d=>(!d.tells,V.str (wr d))) (by rw [sizeLine_eq];omega) (by rw [List.length_map];exact lx) ha hwl (fun i x b y hx hy H2 Q' s2 h=>?_) (fun i x y hx hy H2 Q' s2 h=>?_) fun H1 s1 e1=>?_
 ·obtain ⟨d,hd1,q0,rfl,hq0,hf⟩:=Paired.get hd hx
  rw [List.getElem?_map,hd1] at hy
  cases hy
  simp_arith []
  exact D7 hf (s2.seqT hq0) ⟨_,rfl,h H2 (Same.refl H2)⟩
 ·obtain ⟨d,hd1,q0,rfl,hq0,hf⟩:=Paired.get hd hx
  rw [List.getElem?_map,hd1] at hy
  have e:=Option.some.inj hy
  have e1:d.tells=false:=by have:=congrArg Prod.fst e;simpa using this
  have e2:V.str (wr d)=y:=congrArg Prod.snd e
  subst e2
  simp_arith []
  exact ix1 e1 (s2.seqT hq0) (h H2 (Same.refl H2))
 rw [yQ] at e1
 have lw:=Ce (l:=ds)
 have hbf:bfB us ds=(decide ((bh (d6 ds)).length=(d6 ds).length) && decide (ds.length<=(d6 ds).length+1) && (List.range 3).all fun s=>decide (((ds.countP fun d=>decide (cn d=s)):Int)<=uN us s)):=rfl
 refine later ?_
 simp_arith! []
 refine ⟨fun σ H'=>Same H H'/\bfB us ds=((List.range 3).all fun s=>decide (((ds.countP fun d=>decide (cn d=s)):Int)<=uN us s))/\σ=[some (V.ref a),some (V.ref u),some (V.ref wl),none],?_,?_⟩
 ·refine ⟨d6 ds,SqL.of e1,by omega,fun p hp=>⟨_,ae,?_⟩⟩
  have t2:=Same.upd (o:=lI p (bh (d6 ds)).length) hp
  have s2:=s1.trans t2
  refine ⟨_,.inl (SqL.of (t2 _ _ e1)),?_⟩
  rw [List.length_map]
  by_cases hz:(bh (d6 ds)).length=(d6 ds).length
  ·rw [if_neg (by simp [hz])]
   refine ⟨_,.inl (s2.seq ha),_,.inl (SqL.of (t2 _ _ e1)),?_⟩
   rw [List.length_map,lx]
   by_cases hy:ds.length<=(d6 ds).length+1
   ·rw [if_neg (by simp;omega)]
    refine ⟨s2,?_,rfl⟩
    rw [hbf,decide_eq_true hz,decide_eq_true hy,Bool.true_and,Bool.true_and]
   ·rw [if_pos (by simp;omega)]
    have e:bfB us ds=false:=by rw [hbf,decide_eq_false hy,Bool.and_false,Bool.false_and]
    rw [e] at q
    exact q _ s2
  ·rw [if_pos (by simp;omega),if_pos trivial]
   have e:bfB us ds=false:=by rw [hbf,decide_eq_false hz,Bool.false_and,Bool.false_and]
   rw [e] at q
   exact q _ s2
 rintro σ H2 ⟨s2,hb2,rfl⟩
 refine later ?_
 simp_arith! []
 refine ⟨by decide,by decide,?_⟩
 refine la (n:=3) (fun i σ H'=>Same H H'/\(∀s,s < i->((ds.countP fun d=>decide (cn d=s)):Int)<=uN us s)/\∃o3,σ=[some (V.ref a),some (V.ref u),some (V.ref wl),o3]) ⟨s2,fun s hs=>absurd hs (by omega),_,rfl⟩ ?_ ?_
 ·rintro i σ H3 hi ⟨s3,hall,o3,rfl⟩
  simp_arith [qO]
  refine ⟨⟨_,s3.seq ha⟩,fun acc hacc bk=>?_⟩
  refine j6 ((ds.map fun d=>decide (cn d=i)).zip xs) (by rw [sizeLine_eq];omega) (by rw [List.length_zip,List.length_map];omega) (s3.seq ha) hacc (fun j x b y hx hy H4 Q' s4 h=>?_) (fun j x y hx hy H4 Q' s4 h=>?_) fun H4 s4 e4=>?_
  ·obtain ⟨d,hd1,q0,rfl,hq0,hf⟩:=Paired.get hd hx
   rw [List.getElem?_zip_eq_some,List.getElem?_map,hd1] at hy
   obtain rfl:decide (cn d=i)=b:=Option.some.inj hy.1
   simp_arith [qO]
   refine ⟨d,(s3.trans s4).seqT hq0,fun H5 s5=>?_⟩
   have z:=h H5 s5
   rw [show decide (cn d=i)=decide ((cn d:Int)=(i:Int)) by rw [Bool.eq_iff_iff,decide_eq_true_iff,decide_eq_true_iff];omega] at z
   exact z
  ·rw [List.getElem?_zip_eq_some] at hy
   rw [hx] at hy
   cases hy.2
   simp_arith []
   exact h H4 (Same.refl H4)
  ·have hu:(us.map V.int)[i]?=some (V.int (uN us i)):=by
    unfold uN
    rw [List.getElem?_map,List.getElem?_eq_getElem (by omega),List.getD_eq_getElem?_getD,List.getElem?_eq_getElem (by omega)];rfl
   have s34:=s3.trans s4
   refine ⟨_,.inl (SqL.of e4),_,_,s34.seqT hU,bc hu,_,rfl,?_⟩
   rw [vA lx]
   refine aH (fun hz=>?_) fun hz=>⟨s34,fun s hs=>?_,_,rfl⟩
   ·have e:bfB us ds=false:=by
     rw [hb2]
     cases hb:((List.range 3).all fun s=>decide (((ds.countP fun d=>decide (cn d=s)):Int)<=uN us s)) with
     | false=>rfl
     | true=>exact absurd (of_decide_eq_true (List.all_eq_true.mp hb i (List.mem_range.mpr hi))) (by omega)
    rw [e] at q
    exact q _ s34
   ·by_cases es:s=i
    ·rw [es];omega
    ·exact hall s (by omega)
 ·rintro σ H3 ⟨s3,hall,o3,rfl⟩
  refine later ?_
  simp_arith []
  have e:bfB us ds=true:=by
   rw [hb2,List.all_eq_true]
   exact fun s hs=>decide_eq_true (hall s (List.mem_range.mp hs))
  rw [e] at q
  exact q H3 s3
end
end K50
variable {H:Hp} {a':Addr} {g:List Addr} {wd:Int} {xs ys:List V}
namespace K50
open PySem L2 PyProof.Rows FD FB FS FO FR
section
variable {K:PySem.W.Frag} {H:Hp}
theorem lX{n:Nat}:((List.range n).all fun _=>true)=true:=List.all_eq_true.mpr fun _ _=>rfl
theorem qr{a a':Addr}{n:Nat}(ea:H a=some (.lst xs))(ea':H a'=some (.lst ys))(hl:xs.length=ys.length)(h:∀(j:Nat)x y,xs[j]?=some x->ys[j]?=some y->Dq K H n x y true):Dq K H (n+1) (.ref a) (.ref a') true:=by
 by_cases e:a=a'
 ·subst e;exact .same
 ·have z:=Dq.lists (fun _=>true) e (SqL.of (K:=K) ea) (SqL.of ea') hl h
  rwa [lX] at z
theorem qt{a a':Addr}{n:Nat}(ea:SqT K H a xs)(ea':SqT K H a' ys)(hl:xs.length=ys.length)(h:∀(j:Nat)x y,xs[j]?=some x->ys[j]?=some y->Dq K H n x y true):Dq K H (n+1) (.ref a) (.ref a') true:=by
 by_cases e:a=a'
 ·subst e;exact .same
 ·have z:=Dq.tups (fun _=>true) e ea ea' h
  rwa [lX,hl,beq_self_eq_true,Bool.true_and] at z
mutual
theorem De:∀(s:Stm){x y:V} {f g:List Addr} {n:Nat},StmV K H x s f->StmV K H y s g->2 * s.deep+1<=n+1->Dq K H (n+1) x y true
 | .deed d,x,y,f,g,n,h1,h2,hn=>by
  cases h1 with
  | deed _ e1=>
   cases h2 with
   | deed _ e2=>exact qt e1 e2 rfl (FW.yJ d)
 | .ifs m a b,x,y,f,g,n,h1,h2,hn=>by
  rw [Stm.deep] at hn
  obtain ⟨k,rfl⟩:∃k,n=k+1:=⟨n - 1,by omega⟩
  cases h1 with
  | ifs q1 ea eb sa sb=>
   cases h2 with
   | ifs q2 ea' eb' sa' sb'=>
    have z1:=xK a sa sa' (n:=k) (by omega)
    have z2:=xK b sb sb' (n:=k) (by omega)
    have d1:=qr ea ea' z1.2 z1.1
    have d2:=qr eb eb' z2.2 z2.1
    refine qt q1 q2 rfl fun j x y hx hy=>?_
    match j,hx,hy with
    | 0,hx,hy=>cases hx;cases hy;exact FW.de
    | 1,hx,hy=>cases hx;cases hy;exact FW.de
    | 2,hx,hy=>cases hx;cases hy;exact d1
    | 3,hx,hy=>cases hx;cases hy;exact d2
 | .whl m a,x,y,f,g,n,h1,h2,hn=>by
  rw [Stm.deep] at hn
  obtain ⟨k,rfl⟩:∃k,n=k+1:=⟨n - 1,by omega⟩
  cases h1 with
  | whl q1 ea sa=>
   cases h2 with
   | whl q2 ea' sa'=>
    have z1:=xK a sa sa' (n:=k) (by omega)
    have d1:=qr ea ea' z1.2 z1.1
    refine qt q1 q2 rfl fun j x y hx hy=>?_
    match j,hx,hy with
    | 0,hx,hy=>cases hx;cases hy;exact FW.de
    | 1,hx,hy=>cases hx;cases hy;exact FW.de
    | 2,hx,hy=>cases hx;cases hy;exact d1
theorem xK:∀(l:List Stm){xs ys:List V} {f g:List Addr} {n:Nat},StmsV K H xs l f->StmsV K H ys l g->2 * bo l+1<=n->(∀(j:Nat)x y,xs[j]?=some x->ys[j]?=some y->Dq K H n x y true)/\xs.length=ys.length
 | [],xs,ys,f,g,n,h1,h2,hn=>by
  cases h1
  cases h2
  exact ⟨fun j x y hx _=>by simp at hx,rfl⟩
 | s :: l,xs,ys,f,g,n,h1,h2,hn=>by
  rw [bo] at hn
  obtain ⟨k,rfl⟩:∃k,n=k+1:=⟨n - 1,by omega⟩
  cases h1 with
  | cons a1 t1=>
   cases h2 with
   | cons a2 t2=>
    have d:=De s a1 a2 (n:=k) (by omega)
    have z:=xK l t1 t2 (n:=k+1) (by omega)
    refine ⟨fun j x y hx hy=>?_,by rw [List.length_cons,List.length_cons,z.2]⟩
    cases j with
    | zero=>cases hx;cases hy;exact d
    | succ j=>exact z.1 j x y hx hy
end
theorem zL{l:List Stm}{a a':Addr}{xs ys:List V}{f:List Addr}{n:Nat}(ea:H a=some (.lst xs))(ea':H a'=some (.lst ys))(sa:StmsV K H xs l f)(sa':StmsV K H ys l g)(hn:2 * bo l+1<=n):Rq K H n (.ref a) (.ref a') true:=by
 obtain ⟨z1,z2⟩:=xK l sa sa' hn
 have z:=Rq.lists (fun _=>true) (SqL.of (K:=K) ea) (SqL.of ea') z2 z1
 rwa [lX] at z
end
theorem DrV.same{K:PySem.W.Frag}{H H' H2:Hp}{q:Addr}{wd:Int}{ins oth:List Str}{ss:List Stm}{pi po pr:Addr}{xs:List V}{g:List Addr}{many:Nat}(h:DrV K H H' q wd ins oth ss pi po pr xs g many)(s:Same H' H2):DrV K H H2 q wd ins oth ss pi po pr xs g many:=
 ⟨s _ _ h.tup,s _ _ h.ia,s _ _ h.oa,s _ _ h.ra,h.st.same s,h.gd,h.dp,h.mn,h.w1,h.w8,h.pos,h.few,h.fr,h.nf⟩
theorem DrV.mono{K:PySem.W.Frag}{H H0 H':Hp}{q:Addr}{wd:Int}{ins oth:List Str}{ss:List Stm}{pi po pr:Addr}{xs:List V}{g:List Addr}{m m':Nat}(h:DrV K H H' q wd ins oth ss pi po pr xs g m)(s:Same H0 H)(hm:m<=m'):DrV K H0 H' q wd ins oth ss pi po pr xs g m':=
 ⟨h.tup,h.ia,h.oa,h.ra,h.st,h.gd,h.dp,by have:=h.mn;omega,h.w1,h.w8,h.pos,h.few,fun c hc=>s.free (h.fr c hc),h.nf⟩
def AppV(N:Addr->Prop)(H:Hp)(bl:Addr)(k:Nat)(x:V):Prop:=∃qb ab eb vs,x=.ref qb/\H qb=some (.tup [.ref ab,.ref eb])/\H ab=some (.lst vs)/\vs.length<=k/\ab≠bl/\N ab
theorem AppV.upd{N:Addr->Prop}{H H1:Hp}{bl ab:Addr}{k:Nat}{x:V}{vs ws:List V}(h:AppV N H bl k x)(s:Same H H1)(ha:H ab=some (.lst vs))(hl:ws.length<=k+1):AppV N (L2.upd H1 ab (.lst ws)) bl (k+1) x:=by
 obtain ⟨qb,ab',eb,us,rfl,h1,h2,h3,h4,h5⟩:=h
 have n1:qb≠ab:=fun z=>by rw [z,ha] at h1;cases h1
 by_cases e:ab'=ab
 ·subst e
  exact ⟨qb,ab',eb,ws,rfl,by rw [al n1];exact s _ _ h1,ae,hl,h4,h5⟩
 ·exact ⟨qb,ab',eb,us,rfl,by rw [al n1];exact s _ _ h1,by rw [al e];exact s _ _ h2,by omega,h4,h5⟩
section
variable {P:Program} {w:World} {K:PySem.W.Frag} {mg:Str->Option Value} {base:Heap} {t:Ad}
theorem BV{C p a0 b0 r0:Addr}{d:Nat}{Q:VK}{E:XK}:sZ K C d [.ref p,.int wd,.ref a0,.ref b0,.ref r0] H Q E=rE K C d p a0 b0 r0 wd H Q:=propext ⟨by rintro ⟨_,_,_,_,_,e,q⟩;cases e;exact q,fun q=>⟨_,_,_,_,_,rfl,q⟩⟩
theorem zM{H:Hp}{n:Nat}{a b:Addr}{xs:List Str}(ha:SqL K H a (xs.map V.str))(hb:SqL K H b (xs.map V.str)):Rq K H n (.ref a) (.ref b) true:=by
 have z:=Rq.lists (n:=n) (fun _=>true) ha hb rfl fun j x y hx hy=>by
  rw [hx] at hy
  cases hy
  rw [List.getElem?_map] at hx
  obtain ⟨i,hi,rfl⟩:=Option.map_eq_some_iff.mp hx
  have e:true=eqV (.str i) (.str i):=by simp [eqV]
  rw [e]
  exact .flat rfl rfl
 rwa [show ((List.range (xs.map V.str).length).all fun _=>true)=true by simp] at z
def lK:Sp:=fun vs H Q _=>∃c:Int,vs=[.int c]/\Builtin.Int.intBits c<=2 ^ 20/\∀(us:List Int)(p:Addr),us.length=3->(∀x∈us,0 < x/\x<=3)->H p=none->Q (.ref p) (upd H p (.tup (us.map V.int)))
structure D3(K:PySem.W.Frag)(H:Hp)(tb q u:Addr)(N:Addr->Prop)(xs:List V)(Tb:List FZ.Blk)(wd:Int)(ins oth:List Str)(pr:Addr)(us:List Int):Prop where
 bs:H tb=some (.lst xs)
 pa:Paired (BlkV K N H tb) xs Tb
 gd:FZ.fX (ins ++ oth) wd Tb.length Tb
 l0:0 < Tb.length
 l1:Tb.length<=5000
 dr:DrN K H q wd ins oth pr
 ut:SqT K H u (us.map V.int)
 h3:us.length=3
 bf:∀r∈Tb,bfB us r.ds=true
def kQ(K:PySem.W.Frag)(tb q u:Addr)(H:Hp)(Q:VK):Prop:=∃(N:Addr->Prop)(xs:List V)(Tb:List FZ.Blk)(wd:Int)(ins oth:List Str)(pr:Addr)(us:List Int),D3 K H tb q u N xs Tb wd ins oth pr us/\∀H',Same H H'->Q (.bl true) H'
def lN(K:PySem.W.Frag):Sp:=fun vs H Q _=>∃tb q u:Addr,vs=[.ref tb,.ref q,.ref u]/\kQ K tb q u H Q
theorem q5{ns:List Str}{wd:Int}{us:List Int}{B:List FZ.Blk}{bbs:List (List (List FB.Deed))}(hG:FZ.fX ns wd B.length B)(hB:0 < B.length)(hL:Paired (fY us) B bbs)(up:∀s,s < 3->0<=uN us s):
  FZ.fX ns wd (mJ B bbs).length (mJ B bbs)/\0 < (mJ B bbs).length/\(mJ B bbs).length<=9 * B.length/\∀r∈mJ B bbs,bfB us r.ds=true:=by
 have hl:=hL.length
 have hb:∀(i:Nat)b bs,B[i]?=some b->bbs[i]?=some bs->fY us b bs/\b.ds.length<=8:=fun i b bs h1 h2=>by
  obtain ⟨bs',h3,h4⟩:=Paired.get hL h1
  rw [h2] at h3
  cases h3
  exact ⟨h4,(hG b (List.mem_of_getElem? h1)).len⟩
 have hm:∀bs∈bbs,∃b,fY us b bs/\b.ds.length<=8:=fun bs hbs=>by
  obtain ⟨i,hi⟩:=List.mem_iff_getElem?.mp hbs
  obtain ⟨b,h1,_⟩:=Paired.getR hL hi
  exact ⟨b,hb i b bs h1 hi⟩
 have hne:∀bs∈bbs,bs≠[]:=fun bs hbs=>let ⟨b,h1,h2⟩:=hm bs hbs;(cS up h2 h1).1
 have len:(mJ B bbs).length=dS bbs:=by
  have z:=hZ hl hne B.length (Nat.le_refl _)
  rw [hX hl,hl,List.take_length] at z
  exact z
 have nine:=lP fun bs hbs=>let ⟨b,h1,h2⟩:=hm bs hbs;nW h2 h1
 refine ⟨?_,?_,by omega,?_⟩
 ·rw [len,<- hX hl]
  exact y7 (us:=us) hl hne hG (fun i b bs h1 h2 l hl2=>by obtain ⟨z1,z2⟩:=hb i b bs h1 h2;exact ((cS up z2 z1).2 l hl2).2) _ (Nat.le_refl _)
 ·rw [len]
  have z:=(kZ hne (i:=0) (by omega)).2
  omega
 ·rw [<- hX hl]
  exact tF (Z:=fun l=>bfB us l=true) hl hne (fun bs hbs l hl2=>by obtain ⟨b,h1,h2⟩:=hm bs hbs;exact ((cS up h2 h1).2 l hl2).1.bf) _ (Nat.le_refl _)
theorem xg{c:Int}{H:Hp}{Q:VK}{E:XK}:lK [.int c] H Q E=(Builtin.Int.intBits c<=2 ^ 20/\∀(us:List Int)(p:Addr),us.length=3->(∀x∈us,0 < x/\x<=3)->H p=none->Q (.ref p) (upd H p (.tup (us.map V.int)))):=propext ⟨by rintro ⟨_,e,q⟩;cases e;exact q,fun q=>⟨_,rfl,q⟩⟩
theorem pe{tb q u:Addr}{H:Hp}{Q:VK}{E:XK}:lN K [.ref tb,.ref q,.ref u] H Q E=kQ K tb q u H Q:=propext ⟨by rintro ⟨_,_,_,e,q⟩;cases e;exact q,fun q=>⟨_,_,_,rfl,q⟩⟩
theorem uk(T:Txt K mg t):FnOk P w K mg base CX0 2 t.f__law_units t.e__law_units ["_law_cell"] lK:=by
 have G__law_mixed:=jl (P:=P) (w:=w) (base:=base) T
 refine T.d__law_units.F.ok sc__law_units (fun vs H Q E h=>by obtain ⟨_,rfl,_⟩:=h;rfl) (fun cdv A outer s H vs Q E hr h=>?_)
 obtain ⟨c,rfl,hb,q⟩:=h
 refine ⟨_,
   (XSs.h
   (af
    (ar (i:=1) sc__law_units.nd rfl ll (am T.d__law_mixed G__law_mixed (hr.mono (by first | decide | omega)) (aa (yqv 0 vl) (aa ad ac)) gl))
   (ag
    (ao (aE (aa (ak aZ ad (ak aJ (yqv 1 vl) ad)) (aa (ak aZ ad (ak aJ (ak aN (yqv 1 vl) ad) ad)) (aa (ak aZ ad (ak aJ (ak aN (yqv 1 vl) ad) ad)) ac)))))))),?_⟩
 rw [show aG _ [V.int c]=[some (.int c),none] from rfl]
 simp_arith [dL]
 have h0:=og c 6
 refine ⟨hb,by decide,by decide,CDivB.small (by decide) (by decide),CDivB.small (by decide) (by decide),fun p hp=>?_⟩
 refine q [1+gm c 6 % 3,1+gm c 6 / 8 % 3,1+gm c 6 / 64 % 3] p rfl (fun x hx=>?_) hp
 simp only [List.mem_cons,List.not_mem_nil,or_false] at hx
 rcases hx with rfl | rfl | rfl <;> omega
theorem um(T:Txt K mg t):FnOk P w K mg base CX0 5 t.f__law_holds t.e__law_holds ["_law_found","_law_drawn_here","_law_units_here"] (lN K):=by
 have G__law_fine:=z7 (P:=P) (w:=w) (base:=base) T
 have G__law_beat_fine:=vL (P:=P) (w:=w) (base:=base) T
 refine T.d__law_holds.F.ok kK (fun vs H Q E h=>by obtain ⟨_,_,_,rfl,_⟩:=h;rfl) (fun cdv A outer s H vs Q E hr h=>?_)
 obtain ⟨tb,p,u,rfl,N,xs,Tb,wd,ins,oth,pr,us,hV,q⟩:=h
 refine ⟨_,
   (XSs.h
   (bj
    (aD (bu (b8 (am T.d__law_fine G__law_fine (hr.mono (by first | decide | omega)) (aa (yqv 0 vl) (aa (yqv 1 vl) ac)) gl)))
     (ag
      (ao bL))
     ay)
   (ag
    (ao (aY aV (aq au gl T.z_len PySem.boot_len (aa (b7 (tns:=["_law_part"]) (cns:=["_law_units_here"]) (ci:=[2]) rfl (CompSc.of (by kernel_rfl)) (aO (yqv 0 vl)) (fun _=>(aA (i:=1) (show List.Nodup [(".0":Str),("_law_part":Str),("_law_units_here":Str)] by decide +kernel) rfl ll (Or.inr (by kernel_rfl)))) (fun _=>(da (bu (b8 (am T.d__law_beat_fine G__law_beat_fine (hr.mono (by first | decide | omega)) (aa (aj aw (yqv 1 vl) ad (fun _ _=>rfl)) (aa (yqv 2 vc) ac)) gl))))) (fun _=>(yqv 1 vl))) ac)) ad (ax _)))))),?_⟩
 rw [show aG _ [V.ref tb,V.ref p,V.ref u]=[some (.ref tb),some (.ref p),some (.ref u)] from rfl]
 simp_arith! [BT,mr]
 have lx:=hV.pa.length
 have hl1:=hV.l1
 refine ⟨fun σ H'=>Same H H'/\σ=[some (.ref tb),some (.ref p),some (.ref u)],?_,?_⟩
 ·refine ⟨N,xs,Tb,wd,ins,oth,pr,hV.bs,hV.pa,hV.gd,hV.l0,hV.l1,hV.dr,fun H1 s1=>⟨_,rfl,?_⟩⟩
  rw [if_neg (by decide)]
  exact ⟨s1,rfl⟩
 rintro σ H1 ⟨s1,rfl⟩
 refine later ?_
 simp_arith []
 refine ⟨⟨_,SqL.of (s1 _ _ hV.bs)⟩,fun acc hacc bk=>?_⟩
 refine j6 (xs.map fun x=>(false,x)) (by rw [sizeLine_eq];omega) (by rw [List.length_map]) (SqL.of (s1 _ _ hV.bs)) hacc (fun j x b y hx hy H2 Q' s2 h=>?_) (fun j x y hx hy=>?_) fun H2 s2 e2=>?_
 ·rw [List.getElem?_map,hx] at hy
  obtain ⟨rfl,rfl⟩:false=b/\x=y:=by have z:=Option.some.inj hy;exact ⟨congrArg Prod.fst z,congrArg Prod.snd z⟩
  obtain ⟨b0,hb0,hbv⟩:=Paired.get hV.pa hx
  have s02:=s1.trans s2
  obtain ⟨qb,ab,eb,vs,rfl,v1,v2,v3,v4,v5,v6⟩:=hbv.same s02
  have l8:=(hV.gd b0 (List.mem_of_getElem? hb0)).len
  simp_arith [mr]
  refine ⟨_,_,SqT.of v1,rfl,?_⟩
  rw [mr]
  refine ⟨vs,b0.ds,us,SqL.of v2,v3,by omega,s02.seqT hV.ut,hV.h3,fun H3 s3=>⟨_,rfl,?_⟩⟩
  rw [hV.bf b0 (List.mem_of_getElem? hb0)]
  exact h H3 s3
 ·rw [List.getElem?_map,hx] at hy
  cases hy
 ·rw [show di (xs.map fun x=>(false,x))=[] by unfold di;rw [List.filter_map];simp] at e2
  refine ⟨_,.inl (SqL.of e2),?_⟩
  exact q H2 (s1.trans s2)
theorem Bh(T:Txt K mg t)(hw:t.pr=w.params):FnOk P w K mg base CX0 41 t.f_law t.e_law ["_law_script"] (sp_law K):=by
 have G__law_drawn:=vN (P:=P) (w:=w) (base:=base) T
 have G__law_at:=A6 (P:=P) (w:=w) (base:=base) T
 have G__law_many:=om (P:=P) (w:=w) (base:=base) T 4
 have G__law_copied:=su (P:=P) (w:=w) (base:=base) T 4
 have G_Program___init__:=z9 (P:=P) (w:=w) (base:=base) T 4
 have G_table_of:=vW (P:=P) (w:=w) (base:=base) T hw 4
 have G__law_units:=uk (P:=P) (w:=w) (base:=base) T
 have G__law_holds:=um (P:=P) (w:=w) (base:=base) T
 refine T.d_law.F.ok sc_law (fun vs H Q E h=>by obtain ⟨_,_,rfl,_⟩:=h;rfl) (fun cdv A outer s H vs Q E hr h=>?_)
 obtain ⟨a,ns,rfl,hS,hlen,hbits,q⟩:=h
 have hu:=sd hr
 refine ⟨_,
   (XSs.h
   (af
    (ar (i:=1) sc_law.nd rfl ll (am T.d__law_drawn G__law_drawn (hr.mono (by first | decide | omega)) (aa (yqv 0 vl) (aa ad ac)) gl))
   (bj
    (aD (ap iu (am T.d__law_many G__law_many (hr.mono (by first | decide | omega)) (aa (aj aw (yqv 1 vl) ad (fun _ _=>rfl)) ac) gl) ad (ax _))
     (ag
      (ar (i:=1) sc_law.nd rfl ll (am T.d__law_drawn G__law_drawn (hr.mono (by first | decide | omega)) (aa (yqv 0 vl) (aa ad ac)) gl)))
     ay)
   (af
    (ar (i:=2) sc_law.nd rfl ll (lT T.c_Program T.d_Program___init__ G_Program___init__ (hr.mono (by first | decide | omega)) (aa (aj aw (yqv 1 vl) ad (fun _ _=>rfl)) (aa (bO bX gl T.z_list boot_list (aa (aj aw (yqv 1 vl) ad (fun _ _=>rfl)) ac)) (aa (bO bX gl T.z_list boot_list (aa (aj aw (yqv 1 vl) ad (fun _ _=>rfl)) ac)) (aa (am T.d__law_copied G__law_copied (hr.mono (by first | decide | omega)) (aa (aj aw (yqv 1 vl) ad (fun _ _=>rfl)) ac) gl) ac)))) gl))
   (af
    (ar (i:=3) sc_law.nd rfl ll (am T.d__law_units G__law_units (hr.mono (by first | decide | omega)) (aa (am T.d__law_at G__law_at (hr.mono (by first | decide | omega)) (aa (yqv 0 vl) (aa ad ac)) gl) ac) gl))
   (af
    (ar (i:=4) sc_law.nd rfl ll (am T.d_table_of G_table_of (hr.mono (by first | decide | omega)) (aa (yqv 2 vl) (aa (yqv 3 vl) ac)) gl))
   (bj
    (aD (bu (b8 (am T.d__law_holds G__law_holds (hr.mono (by first | decide | omega)) (aa (yqv 4 vl) (aa (yqv 1 vl) (aa (yqv 3 vl) ac))) gl)))
     (ag
      (ao bL))
     ay)
   (bj
    (bB PassesOwn.never rfl (aO (yqv 4 vl)) (aA (i:=5) sc_law.nd rfl ll)
     (af
      (bg (bM PySem.F.plainAttrs_list PySem.F.slot_list_append PySem.F.type_list_append aP (aj aw (yqv 5 vl) ad (fun _ _=>rfl)) (aa (aE (c5 (by rfl))) ac)))
     (ag
      (bg (bM PySem.F.plainAttrs_list PySem.F.slot_list_append PySem.F.type_list_append aP (aj aw (yqv 5 vl) ad (fun _ _=>rfl)) (aa (aE (c5 (by rfl))) ac))))))
   (af
    (bg (bM PySem.F.plainAttrs_list PySem.F.slot_list_append PySem.F.type_list_append aP (yqv 4 vl) (aa (aE (aa (aI ac) (aa (aE (aa aC ac)) ac))) ac)))
   (af
    (aD (bG (bH (ap (vZ (n:=40) (yN (by decide) hr)) (bS (yqv 2 vl) rfl) (aj aw (yqv 1 vl) ad (fun _ _=>rfl)) (ax _)) (bT (ap (vZ (n:=0) (yN (by decide) hr)) (bS (yqv 2 vl) rfl) (ak fU (aj aw (yqv 1 vl) ad (fun _ _=>rfl)) (aj aw (yqv 1 vl) ad (fun _ _=>rfl))) (ax _)))))
     (ag
      (ao bL))
     ay)
   (ag
    (ao (yg (aY iu (am T.d__law_many G__law_many (hr.mono (by first | decide | omega)) (aa (aj aw (yqv 1 vl) ad (fun _ _=>rfl)) ac) gl) ad (ax _)) (cM (am T.d__law_holds G__law_holds (hr.mono (by first | decide | omega)) (aa (am T.d_table_of G_table_of (hr.mono (by first | decide | omega)) (aa (yqv 2 vl) (aa (yqv 3 vl) ac)) gl) (aa (yqv 1 vl) (aa (yqv 3 vl) ac))) gl))))))))))))))),?_⟩
 rw [show aG _ [V.ref a]=[some (.ref a),none,none,none,none,none] from rfl]
 simp_arith! [sI]
 refine ⟨ns,24,rfl,by decide,by decide,hS,hbits,fun q0 wd ins oth ss pi po pr xs g H1 s1 hD=>?_⟩
 refine later ?_
 simp_arith! [sI,cI]
 refine ⟨fun σ H'=>∃q wd ins oth ss pi po pr xs g,Same H H'/\DrV K H H' q wd ins oth ss pi po pr xs g 24/\σ=[some (.ref a),some (.ref q),none,none,none,none],?_,?_⟩
 ·have hdp:=hD.dp
  refine ⟨_,_,SqT.of hD.tup,rfl,?_⟩
  rw [cI]
  refine ⟨xs,ss,g,hD.ra,hD.st,by omega,fun H3 s3=>⟨_,rfl,?_⟩⟩
  have s13:=s1.trans s3
  refine dh (fun _=>?_) fun _=>⟨_,_,_,_,_,_,_,_,_,_,s13,hD.same s3,rfl⟩
  refine ⟨ns,12,rfl,by decide,by decide,s13.seq hS,hbits,fun q2 wd2 ins2 oth2 ss2 pi2 po2 pr2 xs2 g2 H4 s4 hD2=>?_⟩
  exact ⟨_,_,_,_,_,_,_,_,_,_,s13.trans s4,hD2.mono s13 (by decide),rfl⟩
 clear hD s1
 rintro σ H1 ⟨q0,wd,ins,oth,ss,pi,po,pr,xs,g,s1,hD,rfl⟩
 have hdp:=hD.dp
 have hmn:=hD.mn
 have hfew:=hD.few
 rw [List.length_append] at hfew
 have hgd:=hD.gd
 refine later ?_
 simp_arith! []
 refine ⟨_,_,SqT.of hD.tup,rfl,_,_,SqT.of hD.tup,rfl,_,_,rfl,.inl (SqL.of hD.ia),fun li hli=>?_⟩
 have t1:=Same.upd (o:=.lst (ins.map V.str)) hli
 refine ⟨_,_,SqT.of (t1 _ _ hD.tup),rfl,_,_,rfl,.inl (SqL.of (t1 _ _ hD.oa)),fun lo hlo=>?_⟩
 have t2:=Same.upd (o:=.lst (oth.map V.str)) hlo
 have t12:=t1.trans t2
 refine ⟨_,_,SqT.of (t12 _ _ hD.tup),rfl,?_⟩
 rw [ii]
 refine ⟨xs,ss,g,t12 _ _ hD.ra,hD.st.same t12,by omega,by omega,fun rc ys1 g1 H2 s2 e2 v2 _ _=>?_⟩
 have ei:=s2 _ _ (t2 _ _ (show upd H1 li (.lst (ins.map V.str)) li=some (.lst (ins.map V.str)) from ae))
 have eo:=s2 _ _ (show upd (upd H1 li (.lst (ins.map V.str))) lo (.lst (oth.map V.str)) lo=some (.lst (oth.map V.str)) from ae)
 have s02:=s1.trans (t12.trans s2)
 have hD2:=hD.same (t12.trans s2)
 clear t12 t1 t2 s2 hli hlo
 intro pp dx hpp hdx hne
 simp_arith! [BV]
 have s6:Same H2 (upd (upd H2 dx (.own pp)) pp (.ins t.C_Program dx [])):=(Same.upd hdx).updM hpp
 refine ⟨dx,ins,oth,ys1,ss,g1,ae,s6 _ _ ei,s6 _ _ eo,s6 _ _ e2,v2.same s6,by omega,by omega,by omega,by omega,fun a' b' r' ys gg H7 sx hP _ _=>?_⟩
 have s7:Same H2 H7:=fun c' o' e=>sx c' o' (s6 _ _ e) (ai e hpp)
 have hD7:=hD2.same s7
 have s07:=s02.trans s7
 clear s7 sx s6 ei eo e2 v2 hpp hdx hD hD2 s02
 refine ⟨rfl,?_⟩
 refine later ?_
 simp_arith! [CQ,xg]
 refine ⟨ns,s07.seq hS,by decide,mU hbits,fun us ut h3 hp3 hut=>?_⟩
 have t8:=Same.upd (o:=.tup (us.map V.int)) hut
 have eu:upd H7 ut (.tup (us.map V.int)) ut=some (.tup (us.map V.int)):=ae
 have hP8:=hP.same t8
 have hD8:=hD7.same t8
 clear hP hD7 s1 s07
 generalize upd H7 ut (.tup (us.map V.int))=H8 at t8 eu hP8 hD8 ⊢
 refine later ?_
 simp_arith! [sS]
 refine ⟨wd,ins,oth,ss,a',b',r',ys,gg,us,ins ++ oth,hP8,by omega,by omega,hgd,SqT.of eu,h3,hp3,fun tb ts bbs H9 s9 htb0 htb hL hts=>?_⟩
 have up:∀s,s < 3->0<=uN us s:=fun s hs=>Int.le_of_lt (mK h3 hp3 s hs)
 have lB:=FZ.g6 ss
 have hG:=FZ.j2 hgd
 obtain ⟨g1',g2',g3',g4'⟩:=q5 hG lB.2 hL up
 have lt:=hts.length
 have drn:∀{H'},Same H8 H'->DrN K H' q0 wd ins oth pr:=fun s=>⟨⟨pi,po,SqT.of (s _ _ hD8.tup),s _ _ hD8.ia,s _ _ hD8.oa⟩,hD8.few,hD8.w1,hD8.w8⟩
 refine later ?_
 simp_arith! [pe]
 refine ⟨fun σ H'=>Same H9 H'/\σ=[some (.ref a),some (.ref q0),some (.ref pp),some (.ref ut),some (.ref tb),none],?_,?_⟩
 ·refine ⟨_,ts,_,wd,ins,oth,pr,us,⟨htb,hts,g1',g2',by omega,drn s9,SqT.of (s9 _ _ eu),h3,g4'⟩,fun H10 s10=>⟨_,rfl,?_⟩⟩
  rw [if_neg (by decide)]
  exact ⟨s10,rfl⟩
 rintro σ H10 ⟨s10,rfl⟩
 have s810:=s9.trans s10
 refine later ?_
 simp_arith! []
 refine ⟨fun σ H'=>Same H8 H'/\H' tb=some (.lst ts)/\∃o5,σ=[some (.ref a),some (.ref q0),some (.ref pp),some (.ref ut),some (.ref tb),o5],?_,?_⟩
 ·refine ⟨⟨_,SqL.of (s10 _ _ htb)⟩,?_⟩
  refine cv (xs:=ts) (fun i σ H'=>Same H8 H'/\H' tb=some (.lst ts)/\(∀x∈ts,AppV (fun c=>H8 c=none) H' tb (8+2 * i) x)/\∃o5,σ=[some (.ref a),some (.ref q0),some (.ref pp),some (.ref ut),some (.ref tb),o5])
   ⟨s810,s10 _ _ htb,fun x hx=>?_,_,rfl⟩ (fun i σ H' _ h=>SqL.of h.2.1) ?_ ?_
  ·obtain ⟨b,hb,hbv⟩:=FL.Paired.mem hts x hx
   obtain ⟨qb,ab,eb,vs,rfl,v1,v2,v3,v4,v5,v6⟩:=hbv.same s10
   have l8:=(g1' b hb).len
   have lv:=v3.length
   exact ⟨qb,ab,eb,vs,rfl,v1,v2,by omega,v5,v6⟩
  ·rintro i x σ H11 hx ⟨s11,e11,hA,o5,rfl⟩
   have hil:=(List.getElem?_eq_some_iff.mp hx).1
   obtain ⟨qb,ab,eb,vs,rfl,v1,v2,v3,v4,v5⟩:=hA x (List.mem_of_getElem? hx)
   simp_arith []
   have n1:qb≠ab:=fun z=>by rw [z,v2] at v1;cases v1
   refine ⟨_,_,SqT.of v1,rfl,.inl ⟨rfl,_,SqL.of v2⟩,fun p1 hp1=>?_⟩
   have t1:=Same.upd (o:=.tup [V.str "tell",V.int 0]) hp1
   have hA1:∀x∈ts,AppV (fun c=>H8 c=none) (upd (upd H11 p1 (.tup [V.str "tell",V.int 0])) ab (.lst (vs ++ [.ref p1]))) tb (8+2 * i+1) x:=fun x hx=>AppV.upd (k:=8+2 * i) (hA x hx) t1 v2 (by rw [List.length_append,List.length_singleton];omega)
   have s12:Same H8 (upd (upd H11 p1 (.tup [V.str "tell",V.int 0])) ab (.lst (vs ++ [.ref p1]))):=(s11.trans t1).updM v5
   have e12:upd (upd H11 p1 (.tup [V.str "tell",V.int 0])) ab (.lst (vs ++ [.ref p1])) tb=some (.lst ts):=by rw [al v4.symm];exact t1 _ _ e11
   have w1:upd (upd H11 p1 (.tup [V.str "tell",V.int 0])) ab (.lst (vs ++ [.ref p1])) qb=some (.tup [.ref ab,.ref eb]):=by rw [al n1];exact t1 _ _ v1
   have w2:upd (upd H11 p1 (.tup [V.str "tell",V.int 0])) ab (.lst (vs ++ [.ref p1])) ab=some (.lst (vs ++ [.ref p1])):=ae
   simp_arith []
   refine ⟨vs,t1 _ _ v2,by rw [sizeLine_eq];omega,?_⟩
   generalize upd (upd H11 p1 (.tup [V.str "tell",V.int 0])) ab (.lst (vs ++ [.ref p1]))=H12 at hA1 s12 e12 w1 w2 ⊢
   refine ⟨_,_,SqT.of w1,rfl,.inl ⟨rfl,_,SqL.of w2⟩,fun p2 hp2=>?_⟩
   have t2:=Same.upd (o:=.tup [V.str "tell",V.int 0]) hp2
   simp_arith []
   refine ⟨_,t2 _ _ w2,by rw [List.length_append,List.length_singleton,sizeLine_eq];omega,(s12.trans t2).updM v5,by rw [al v4.symm];exact t2 _ _ e12,fun x hx=>?_,_,rfl⟩
   exact AppV.upd (k:=8+2 * i+1) (hA1 x hx) t2 w2 (by rw [List.length_append,List.length_append,List.length_singleton,List.length_singleton];omega)
  ·rintro σ H11 ⟨s11,e11,_,o5,rfl⟩
   exact ⟨s11,e11,_,rfl⟩
 rintro σ H11 ⟨s11,e11,o5,rfl⟩
 refine later ?_
 simp_arith! []
 refine ⟨.inl ⟨rfl,_,SqL.of e11⟩,fun p1 hp1 p2 hp2 p3 hp3'=>?_⟩
 have t1:=Same.upd (o:=.lst []) hp1
 have t2:=Same.upd (o:=.tup [V.str "stop"]) hp2
 have t3:=Same.upd (o:=.tup [V.ref p1,V.ref p2]) hp3'
 have t13:=(t1.trans t2).trans t3
 refine ⟨ts,t13 _ _ e11,by rw [sizeLine_eq];omega,?_⟩
 have s12:=(s11.trans t13).updM (o:=.lst (ts ++ [V.ref p3])) htb0
 generalize upd (upd (upd (upd H11 p1 _) p2 _) p3 _) tb _=H12 at s12 ⊢
 have hP12:=hP8.same s12
 have hD12:=hD8.same s12
 obtain ⟨dxp,obp⟩:=hP12.ob
 refine later ?_
 simp_arith! []
 refine ga obp T.c_Program.cl T.n_Program_rows rfl ?_
 refine ⟨_,_,SqT.of hD12.tup,rfl,?_⟩
 refine ⟨true,zL hP12.rs hD12.ra hP12.st hD12.st (by omega),_,rfl,?_⟩
 rw [if_neg (by decide)]
 refine ga obp T.c_Program.cl T.n_Program_boxes rfl ?_
 refine ⟨_,_,SqT.of hD12.tup,rfl,_,_,SqT.of hD12.tup,rfl,pi,po,_,_,rfl,rfl,hD12.ia,hD12.oa,by rw [List.length_map,List.length_map,sizeLine_eq];omega,fun pb hpb=>?_⟩
 have t13:=Same.upd (o:=.lst (ins.map V.str ++ oth.map V.str)) hpb
 refine ⟨true,zM (xs:=ins ++ oth) (SqL.of (t13 _ _ hP12.bx)) (SqL.of (by rw [ae,List.map_append])),_,rfl,?_⟩
 rw [if_neg (by decide)]
 have s13:=s12.trans t13
 refine later ?_
 simp_arith [cI,sS]
 refine ⟨_,_,SqT.of (s13 _ _ hD8.tup),rfl,?_⟩
 rw [cI]
 refine ⟨xs,ss,g,s13 _ _ hD8.ra,hD8.st.same s13,by omega,fun H14 s14=>⟨_,rfl,dh (fun _=>q H14) fun _=>?_⟩⟩
 have s814:=s13.trans s14
 refine ⟨wd,ins,oth,ss,a',b',r',ys,gg,us,ins ++ oth,hP8.same s814,by omega,by omega,hgd,SqT.of (s814 _ _ eu),h3,hp3,fun tb2 ts2 bbs2 H15 s15 htb2 e15 hL2 hts2=>?_⟩
 obtain ⟨k1,k2,k3,k4⟩:=q5 hG lB.2 hL2 up
 have s815:=s814.trans s15
 rw [pe]
 exact ⟨_,ts2,_,wd,ins,oth,pr,us,⟨e15,hts2,k1,k2,by omega,drn s815,SqT.of (s815 _ _ eu),h3,k4⟩,fun H16 _=>q H16⟩
theorem ue(T:Txt K mg t):∀(s:Shared)(u:Value),BindsTo s t.e_law ⟨[u],[]⟩ [("_law_script",u)]:=by
 obtain ⟨oc,od,kV,doc,pm,an,cdv,ct,osl,e,_,_⟩:=T.d_law.F.ex
 intro s u
 rw [e]
 exact .of_eq rfl
end
theorem Dg{l:PySem.W.OpenLaw}{q:Program}{loose:List Str}{XP:(Str->Option Value)->Heap->Prop}{YP:World->Heap->Prop}{d:DefRec}{K:Params->PySem.W.Frag}(hn:l.most=some 63)(hdf:d.params.defaults=[])(hd:d.name="law")
  (hY:∀(w:World)(h:Heap),YP w h->(K w.params).In h)
  (F:∀(w:World)(mg:Str->Option Value)(h:Heap),(K w.params).In h->h.Ns mainGlobals mg->∃t,Txt (K w.params) mg t/\t.pr=w.params) :
  PySem.W.WalkO q loose XP YP l.row.toRowW d [] (fun f vs=>PySem.call f vs):=by
 refine L2.yc (n:=63) (k:=100) (x:="_law_script") (CX:=fun _=>CX0) (sp:=fun w=>sp_law (K w.params)) hn (by decide) hdf ⟨rfl,by decide,by decide⟩ hY (fun w mg fa h KX G hmg=>?_) (fun _ _ a ns hl hb _ hS=>⟨a,ns,rfl,hS,hl,hb,fun _=>rfl⟩) fun _ _ _ _ _ z=>z
 obtain ⟨t,T,hw⟩:=F w mg h KX G
 rw [hd] at hmg
 have e0:=hmg.symm.trans T.d_law.M
 cases e0
 exact ⟨t.e_law,ue T,fun base _ _=>(Bh T hw).mono (by decide)⟩
end K50
set_option maxHeartbeats 4000000
def PySem.W.Fast.tw1504699242257379341:=0
def PySem.W.Fast.tw6867027232910739340:=0
def PySem.W.Fast.tw6630869649653208776:=0
def PySem.W.Fast.tw9594533702241323169:=0
def PySem.W.Fast.tw16450612345600773348:=0
def PySem.W.Fast.tw18129345874537023198:=0
def PySem.W.Fast.tw7587057222607191200:=0
def PySem.W.Fast.tw7786381010567810552:=0
def PySem.W.Fast.tw10458540070707851942:=0
def PySem.W.Fast.tw191262792387431886:=0
def PySem.W.Fast.tw3995548792848427502:=0
def PySem.W.Fast.tw7540821780176535134:=0
def PySem.W.Fast.tw6529266838506846703:=0
def PySem.W.Fast.tw5360227631327901819:=0
def PySem.W.Fast.tw15731281068921074993:=0
def PySem.W.Fast.tw12446138861100274657:=0
def PySem.W.Fast.tw13309438988457301206:=0
def PySem.W.Fast.tw859288212566824221:=0
def PySem.W.Fast.tw9841293840813865031:=0
def PySem.W.Fast.tw12579756868614259467:=0
def PySem.W.Fast.tw2457813590721210568:=0
def PySem.W.Fast.tw10927780105365578744:=0
def PySem.W.Fast.tw1191405165171225144:=0
def PySem.W.Fast.tw10379502142433707514:=0
def PySem.W.Fast.tw12563188949413458215:=0
def PySem.W.Fast.tw18143279089260371196:=0
def PySem.W.Fast.tw11905160576648215155:=0
def PySem.W.Fast.tw12349371522888713171:=0
def PySem.W.Fast.tw15198070703360558126:=0
def PySem.W.Fast.tw13845512339954977238:=0
def PySem.W.Fast.tw11342574678457805715:=0
def PySem.W.Fast.tw1404294810690529357:=0
def PySem.W.Fast.tw10189042439647262476:=0
def PySem.W.Fast.tw3339096247643130968:=0
def PySem.W.Fast.tw9299665694190895188:=0
def PySem.W.Fast.tw6665584424873820979:=0
def PySem.W.Fast.tw13201998847577867552:=0
def PySem.W.Fast.tw12712451550770332651:=0
def PySem.W.Fast.tw8065496230022642369:=0
def PySem.W.Fast.tw6648907002172287476:=0
def PySem.W.Fast.tw8919708040730440689:=0
def PySem.W.Fast.tw2227221323198225398:=0
def PySem.W.Fast.tw9475377386520375630:=0
def PySem.W.Fast.tw5274674899842173384:=0
def PySem.W.Fast.tw8181428925296253106:=0
def PySem.W.Fast.tw5311489554678812717:=0
def PySem.W.Fast.tw16845318436029965959:=0
def PySem.W.Fast.tw17225875100016371421:=0
def PySem.W.Fast.tw1623379474827994130:=0
def PySem.W.Fast.tw7114410938257203241:=0
def PySem.W.Fast.tw6893459764340922080:=0
def PySem.W.Fast.tw9985091907803916778:=0
def PySem.W.Fast.tw8813842503702865048:=0
def PySem.W.Fast.tw586573610661488299:=0
def PySem.W.Fast.tw5423894229791502457:=0
def PySem.W.Fast.tw11416818265023449821:=0
def PySem.W.Fast.tw6060878743880969533:=0
def PySem.W.Fast.tw4357204476607883882:=0
def PySem.W.Fast.tw11352032192343654922:=0
def PySem.W.Fast.tw6241966788696897649:=0
def PySem.W.Fast.tw10875621894746253419:=0
def PySem.W.Fast.tw11185122662737211489:=0
def PySem.W.Fast.tw18065754323936718047:=0
def PySem.W.Fast.tw6914314283790377921:=0
def PySem.W.Fast.tw16017994968689501696:=0
def PySem.W.Fast.tw15210095129225688104:=0
def PySem.W.Fast.tw17881612041436356518:=0
def PySem.W.Fast.tw14765447084775486111:=0
def PySem.W.Fast.tw3058922658372616772:=0
def PySem.W.Fast.tw7121113912264585391:=0
def PySem.W.Fast.tw396869686205565097:=0
def PySem.W.Fast.tw4782332545965258712:=0
def PySem.W.Fast.tw1141807435910855389:=0
def PySem.W.Fast.tw2812652938305448766:=0
def PySem.W.Fast.tw11054889683064325580:=0
def PySem.W.Fast.tw6915877304893438111:=0
def PySem.W.Fast.tw6390927975769834304:=0
def PySem.W.Fast.tw8984509515045166456:=0
def PySem.W.Fast.tw673821622103155558:=0
def PySem.W.Fast.tw9156876426257581490:=0
def PySem.W.Fast.tw8379953457407145188:=0
def PySem.W.Fast.tw17531942502574145408:=0
def PySem.W.Fast.tw14336454173135501100:=0
def PySem.W.Fast.tw14705005704534262772:=0
def PySem.W.Fast.tw5164524572877018533:=0
def PySem.W.Fast.tw18279613539898341005:=0
def PySem.W.Fast.tw15723484545782860834:=0
def PySem.W.Fast.tw8091567773093351023:=0
def PySem.W.Fast.tw8929981658547037658:=0
def PySem.W.Fast.tw8164157882439784073:=0
def PySem.W.Fast.tw10904601328216547734:=0
def PySem.W.Fast.tw6876647633203888081:=0
def PySem.W.Fast.tw9321391205718699518:=0
def PySem.W.Fast.tw16231203368733263980:=0
def PySem.W.Fast.tw490828101190567971:=0
def PySem.W.Fast.tw2729081713828717457:=0
def PySem.W.Fast.tw9665031515056212048:=0
def PySem.W.Fast.tw12011649853482061162:=0
def PySem.W.Fast.tw461633017593159143:=0
def PySem.W.Fast.tw6536652092264709125:=0
def PySem.W.Fast.tw14943852411235429597:=0
def PySem.W.Fast.tw481298898444975005:=0
def PySem.W.Fast.tw14012848187356408736:=0
def PySem.W.Fast.tw17400880169478242795:=0
def PySem.W.Fast.tw4768160436084713735:=0
def PySem.W.Fast.tw12022649089976148390:=0
def PySem.W.Fast.tw12593727115016399536:=0
def PySem.W.Fast.tw4611801054559782747:=0
def PySem.W.Fast.tw4373651428674190628:=0
def PySem.W.Fast.tw17564775836381015420:=0
def PySem.W.Fast.tw4063528845768682505:=0
def PySem.W.Fast.tw15231104338544529273:=0
def PySem.W.Fast.tw11965336028427688971:=0
def PySem.W.Fast.tw736412661302695997:=0
def PySem.W.Fast.tw10855193671097250834:=0
def PySem.W.Fast.tw8529780303402375221:=0
def PySem.W.Fast.tw966162202386412129:=0
def PySem.W.Fast.tw6679048532371657463:=0
def PySem.W.Fast.tw12760706494530255502:=0
def PySem.W.Fast.tw4256003711571831693:=0
def PySem.W.Fast.tw16738652176382981200:=0
def PySem.W.Fast.tw11350478665299810572:=0
def PySem.W.Fast.tw1762982753170380259:=0
def PySem.W.Fast.tw4424321613736306895:=0
def PySem.W.Fast.tw6604750924397114800:=0
def PySem.W.Fast.tw3720191294507467662:=0
def PySem.W.Fast.tw16308773003348672588:=0
def PySem.W.Fast.tw7116113827404822475:=0
def PySem.W.Fast.tw626142454347400510:=0
def PySem.W.Fast.tw9042403051526988781:=0
def PySem.W.Fast.tw14114407358244980600:=0
def PySem.W.Fast.tw736876486812358733:=0
def PySem.W.Fast.tw12203327735221407736:=0
def PySem.W.Fast.tw3654567168349223398:=0
def PySem.W.Fast.tw1756450224443137477:=0
def PySem.W.Fast.tw9436940296702216993:=0
def PySem.W.Fast.tw8060428242619748120:=0
def PySem.W.Fast.tw4662082346875526209:=0
def PySem.W.Fast.tw3716357737834680235:=0
def PySem.W.Fast.tw16455065615789776521:=0
open PySem PySem.W PyProof.Rows
set_option maxRecDepth 100000 in
set_option maxHeartbeats 0 in
theorem PySem.Challenge.cw_deedloom_k50_tables_formed_holds : PySem.Challenge.rw_deedloom_k50_tables_formed.Holds := by
 w_on; o_law; k_head; (case hw => w_witness2)
 k_fill
 refine K50.Dg (l := PySem.Challenge.rw_deedloom_k50_tables_formed) rfl rfl rfl (fun w h Y => PySem.W.kIn_of Y) ?F
 case F =>
  intro w mg h KX G
  exact ⟨⟨w.params, _, _, _, _, _, _, _, _, _, _, _, _, _, _, _, _, _, _, _, _, _, _, _, _, _, _, _, _, _, _, _, _, _, _, _, _, _, _, _, _, _, _, _, _, _, _, _, _, _, _, _, _, _, _, _, _, _, _, _, _, _, _, _, _, _, _, _, _, _, _, _, _, _, _, _, _, _, _, _, _, _, _, _, _, _, _, _, _, _, _, _, _, _, _, _, _, _, _, _⟩, ⟨PySem.W.mg_of KX G (by (try dsimp only); k_is), K50.vB (by (try dsimp only); k_is) (by first | rfl | kernel_rfl | decide) (by first | rfl | kernel_rfl | decide), PySem.W.mg_of KX G (by (try dsimp only); k_is), L2.AU KX G (by (try dsimp only); k_is) (by (try dsimp only); k_is) (by (try dsimp only); k_is) (by (try dsimp only); k_is) (by (try dsimp only); k_is) (by (try dsimp only); k_is) (by (try dsimp only); k_is), by show PySem.W.findIn _ _ _ = some none; (try dsimp only); k_is, L2.AU KX G (by (try dsimp only); k_is) (by (try dsimp only); k_is) (by (try dsimp only); k_is) (by (try dsimp only); k_is) (by (try dsimp only); k_is) (by (try dsimp only); k_is) (by (try dsimp only); k_is), by show PySem.W.findIn _ _ _ = some none; (try dsimp only); k_is, by show PySem.W.findIn _ _ _ = some none; (try dsimp only); k_is, by show PySem.W.findIn _ _ _ = some none; (try dsimp only); k_is, by show PySem.W.findIn _ _ _ = some none; (try dsimp only); k_is, L2.AU KX G (by (try dsimp only); k_is) (by (try dsimp only); k_is) (by (try dsimp only); k_is) (by (try dsimp only); k_is) (by (try dsimp only); k_is) (by (try dsimp only); k_is) (by (try dsimp only); k_is), by show PySem.W.findIn _ _ _ = some none; (try dsimp only); k_is, by show PySem.W.findIn _ _ _ = some none; (try dsimp only); k_is, by show PySem.W.findIn _ _ _ = some none; (try dsimp only); k_is, L2.c7 KX G (by (try dsimp only); k_is) (by (try dsimp only); k_is) (by (try dsimp only); k_is) (by (try dsimp only); k_is) (L2.bn1 fun _ _ _ _ _ _ _ => rfl), L2.gk (by (try dsimp only); k_is) (by (try dsimp only); k_is) (by (try dsimp only); k_is) (by (try dsimp only); k_is) (by (try dsimp only); k_is) (L2.bn1 fun _ _ _ _ _ _ _ => rfl), L2.gk (by (try dsimp only); k_is) (by (try dsimp only); k_is) (by (try dsimp only); k_is) (by (try dsimp only); k_is) (by (try dsimp only); k_is) (L2.bn1 fun _ _ _ _ _ _ _ => rfl), L2.gk (by (try dsimp only); k_is) (by (try dsimp only); k_is) (by (try dsimp only); k_is) (by (try dsimp only); k_is) (by (try dsimp only); k_is) (L2.bn2 fun _ _ _ _ _ _ _ _ => rfl), L2.gk (by (try dsimp only); k_is) (by (try dsimp only); k_is) (by (try dsimp only); k_is) (by (try dsimp only); k_is) (by (try dsimp only); k_is) (L2.bn2 fun _ _ _ _ _ _ _ _ => rfl), L2.gk (by (try dsimp only); k_is) (by (try dsimp only); k_is) (by (try dsimp only); k_is) (by (try dsimp only); k_is) (by (try dsimp only); k_is) (L2.bn3 fun _ _ _ _ _ _ _ _ _ => rfl), L2.gk (by (try dsimp only); k_is) (by (try dsimp only); k_is) (by (try dsimp only); k_is) (by (try dsimp only); k_is) (by (try dsimp only); k_is) (L2.bn3 fun _ _ _ _ _ _ _ _ _ => rfl), L2.gk (by (try dsimp only); k_is) (by (try dsimp only); k_is) (by (try dsimp only); k_is) (by (try dsimp only); k_is) (by (try dsimp only); k_is) (L2.bn3 fun _ _ _ _ _ _ _ _ _ => rfl), L2.gk (by (try dsimp only); k_is) (by (try dsimp only); k_is) (by (try dsimp only); k_is) (by (try dsimp only); k_is) (by (try dsimp only); k_is) (L2.bn3 fun _ _ _ _ _ _ _ _ _ => rfl), L2.gk (by (try dsimp only); k_is) (by (try dsimp only); k_is) (by (try dsimp only); k_is) (by (try dsimp only); k_is) (by (try dsimp only); k_is) (L2.bn5 fun _ _ _ _ _ _ _ _ _ _ _ => rfl), L2.c7 KX G (by (try dsimp only); k_is) (by (try dsimp only); k_is) (by (try dsimp only); k_is) (by (try dsimp only); k_is) (L2.bn1 fun _ _ _ _ _ _ _ => rfl), L2.c7 KX G (by (try dsimp only); k_is) (by (try dsimp only); k_is) (by (try dsimp only); k_is) (by (try dsimp only); k_is) (L2.bn1 fun _ _ _ _ _ _ _ => rfl), L2.c7 KX G (by (try dsimp only); k_is) (by (try dsimp only); k_is) (by (try dsimp only); k_is) (by (try dsimp only); k_is) (L2.bn1 fun _ _ _ _ _ _ _ => rfl), L2.c7 KX G (by (try dsimp only); k_is) (by (try dsimp only); k_is) (by (try dsimp only); k_is) (by (try dsimp only); k_is) (L2.bn1 fun _ _ _ _ _ _ _ => rfl), L2.c7 KX G (by (try dsimp only); k_is) (by (try dsimp only); k_is) (by (try dsimp only); k_is) (by (try dsimp only); k_is) (L2.bn1 fun _ _ _ _ _ _ _ => rfl), L2.c7 KX G (by (try dsimp only); k_is) (by (try dsimp only); k_is) (by (try dsimp only); k_is) (by (try dsimp only); k_is) (L2.bn1 fun _ _ _ _ _ _ _ => rfl), L2.c7 KX G (by (try dsimp only); k_is) (by (try dsimp only); k_is) (by (try dsimp only); k_is) (by (try dsimp only); k_is) (L2.bn2 fun _ _ _ _ _ _ _ _ => rfl), L2.c7 KX G (by (try dsimp only); k_is) (by (try dsimp only); k_is) (by (try dsimp only); k_is) (by (try dsimp only); k_is) (L2.bn3 fun _ _ _ _ _ _ _ _ _ => rfl), L2.c7 KX G (by (try dsimp only); k_is) (by (try dsimp only); k_is) (by (try dsimp only); k_is) (by (try dsimp only); k_is) (L2.bn2 fun _ _ _ _ _ _ _ _ => rfl), L2.gk (by (try dsimp only); k_is) (by (try dsimp only); k_is) (by (try dsimp only); k_is) (by (try dsimp only); k_is) (by (try dsimp only); k_is) (L2.bn3 fun _ _ _ _ _ _ _ _ _ => rfl), L2.gk (by (try dsimp only); k_is) (by (try dsimp only); k_is) (by (try dsimp only); k_is) (by (try dsimp only); k_is) (by (try dsimp only); k_is) (L2.bn2 fun _ _ _ _ _ _ _ _ => rfl), L2.gk (by (try dsimp only); k_is) (by (try dsimp only); k_is) (by (try dsimp only); k_is) (by (try dsimp only); k_is) (by (try dsimp only); k_is) (L2.bn4 fun _ _ _ _ _ _ _ _ _ _ => rfl), L2.gk (by (try dsimp only); k_is) (by (try dsimp only); k_is) (by (try dsimp only); k_is) (by (try dsimp only); k_is) (by (try dsimp only); k_is) (L2.bn4 fun _ _ _ _ _ _ _ _ _ _ => rfl), L2.gk (by (try dsimp only); k_is) (by (try dsimp only); k_is) (by (try dsimp only); k_is) (by (try dsimp only); k_is) (by (try dsimp only); k_is) (L2.bn4 fun _ _ _ _ _ _ _ _ _ _ => rfl), L2.c7 KX G (by (try dsimp only); k_is) (by (try dsimp only); k_is) (by (try dsimp only); k_is) (by (try dsimp only); k_is) (L2.bn2 fun _ _ _ _ _ _ _ _ => rfl), L2.c7 KX G (by (try dsimp only); k_is) (by (try dsimp only); k_is) (by (try dsimp only); k_is) (by (try dsimp only); k_is) (L2.bn2 fun _ _ _ _ _ _ _ _ => rfl), L2.c7 KX G (by (try dsimp only); k_is) (by (try dsimp only); k_is) (by (try dsimp only); k_is) (by (try dsimp only); k_is) (L2.bn2 fun _ _ _ _ _ _ _ _ => rfl), L2.c7 KX G (by (try dsimp only); k_is) (by (try dsimp only); k_is) (by (try dsimp only); k_is) (by (try dsimp only); k_is) (L2.bn1 fun _ _ _ _ _ _ _ => rfl), L2.c7 KX G (by (try dsimp only); k_is) (by (try dsimp only); k_is) (by (try dsimp only); k_is) (by (try dsimp only); k_is) (L2.bn2 fun _ _ _ _ _ _ _ _ => rfl), L2.c7 KX G (by (try dsimp only); k_is) (by (try dsimp only); k_is) (by (try dsimp only); k_is) (by (try dsimp only); k_is) (L2.bn2 fun _ _ _ _ _ _ _ _ => rfl), L2.c7 KX G (by (try dsimp only); k_is) (by (try dsimp only); k_is) (by (try dsimp only); k_is) (by (try dsimp only); k_is) (L2.bn2 fun _ _ _ _ _ _ _ _ => rfl), L2.c7 KX G (by (try dsimp only); k_is) (by (try dsimp only); k_is) (by (try dsimp only); k_is) (by (try dsimp only); k_is) (L2.bn3 fun _ _ _ _ _ _ _ _ _ => rfl), L2.c7 KX G (by (try dsimp only); k_is) (by (try dsimp only); k_is) (by (try dsimp only); k_is) (by (try dsimp only); k_is) (L2.bn3 fun _ _ _ _ _ _ _ _ _ => rfl), L2.c7 KX G (by (try dsimp only); k_is) (by (try dsimp only); k_is) (by (try dsimp only); k_is) (by (try dsimp only); k_is) (L2.bn4 fun _ _ _ _ _ _ _ _ _ _ => rfl), L2.c7 KX G (by (try dsimp only); k_is) (by (try dsimp only); k_is) (by (try dsimp only); k_is) (by (try dsimp only); k_is) (L2.bn3 fun _ _ _ _ _ _ _ _ _ => rfl), L2.c7 KX G (by (try dsimp only); k_is) (by (try dsimp only); k_is) (by (try dsimp only); k_is) (by (try dsimp only); k_is) (L2.bn2 fun _ _ _ _ _ _ _ _ => rfl), L2.c7 KX G (by (try dsimp only); k_is) (by (try dsimp only); k_is) (by (try dsimp only); k_is) (by (try dsimp only); k_is) (L2.bn3 fun _ _ _ _ _ _ _ _ _ => rfl), L2.c7 KX G (by (try dsimp only); k_is) (by (try dsimp only); k_is) (by (try dsimp only); k_is) (by (try dsimp only); k_is) (L2.bn3 fun _ _ _ _ _ _ _ _ _ => rfl), L2.c7 KX G (by (try dsimp only); k_is) (by (try dsimp only); k_is) (by (try dsimp only); k_is) (by (try dsimp only); k_is) (L2.bn3 fun _ _ _ _ _ _ _ _ _ => rfl), L2.c7 KX G (by (try dsimp only); k_is) (by (try dsimp only); k_is) (by (try dsimp only); k_is) (by (try dsimp only); k_is) (L2.bn2 fun _ _ _ _ _ _ _ _ => rfl), L2.c7 KX G (by (try dsimp only); k_is) (by (try dsimp only); k_is) (by (try dsimp only); k_is) (by (try dsimp only); k_is) (L2.bn1 fun _ _ _ _ _ _ _ => rfl), L2.c7 KX G (by (try dsimp only); k_is) (by (try dsimp only); k_is) (by (try dsimp only); k_is) (by (try dsimp only); k_is) (L2.bn1 fun _ _ _ _ _ _ _ => rfl), L2.c7 KX G (by (try dsimp only); k_is) (by (try dsimp only); k_is) (by (try dsimp only); k_is) (by (try dsimp only); k_is) (L2.bn2 fun _ _ _ _ _ _ _ _ => rfl), L2.c7 KX G (by (try dsimp only); k_is) (by (try dsimp only); k_is) (by (try dsimp only); k_is) (by (try dsimp only); k_is) (L2.bn1 fun _ _ _ _ _ _ _ => rfl), L2.c7 KX G (by (try dsimp only); k_is) (by (try dsimp only); k_is) (by (try dsimp only); k_is) (by (try dsimp only); k_is) (L2.bn1 fun _ _ _ _ _ _ _ => rfl), L2.c7 KX G (by (try dsimp only); k_is) (by (try dsimp only); k_is) (by (try dsimp only); k_is) (by (try dsimp only); k_is) (L2.bn3 fun _ _ _ _ _ _ _ _ _ => rfl), L2.c7 KX G (by (try dsimp only); k_is) (by (try dsimp only); k_is) (by (try dsimp only); k_is) (by (try dsimp only); k_is) (L2.bn1 fun _ _ _ _ _ _ _ => rfl), PySem.W.mg_none_of KX G (by (try dsimp only); k_is), PySem.W.mg_none_of KX G (by (try dsimp only); k_is), PySem.W.mg_none_of KX G (by (try dsimp only); k_is), PySem.W.mg_none_of KX G (by (try dsimp only); k_is), PySem.W.mg_none_of KX G (by (try dsimp only); k_is), PySem.W.mg_none_of KX G (by (try dsimp only); k_is), PySem.W.mg_none_of KX G (by (try dsimp only); k_is), PySem.W.mg_none_of KX G (by (try dsimp only); k_is), PySem.W.mg_none_of KX G (by (try dsimp only); k_is), PySem.W.mg_none_of KX G (by (try dsimp only); k_is), PySem.W.mg_none_of KX G (by (try dsimp only); k_is), PySem.W.mg_none_of KX G (by (try dsimp only); k_is), PySem.W.mg_none_of KX G (by (try dsimp only); k_is), PySem.W.mg_none_of KX G (by (try dsimp only); k_is), PySem.W.mg_none_of KX G (by (try dsimp only); k_is), PySem.W.mg_none_of KX G (by (try dsimp only); k_is)⟩, rfl⟩
