import PyProof.Rows.All
import Wide.All
import OpenK.AllK
import Wide.FinOn
import PyProof.EqAt
import PyProof.EqKinds
import PyProof.TupleCall
import PyProof.NeKinds
import PyProof.CompUse
import PyProof.IsiSeqPairs
import PyProof.IsiNone
import PyProof.Rows.SumAny
import KE.KDictOf
import KE.KEqDict
import PyProof.DictCopy
import PyProof.Rows.StrJoin2
import PyProof.Rows.SortWalk
import PyProof.ConsumeWalk
import PyProof.EnumMake
import KE.KDictList
import PyProof.DictValues
import PyProof.Cells
import KE.IntBitsLaws
import PyProof.Rows.SortStr
import PyProof.DictItems
import PyProof.CollectIter
import PyProof.TupleOfStr
import PyProof.ListRange
import PyProof.Rows.TupDisplay
import PyProof.Rows.CallKwBuiltin
import KE.KMinBuiltin
import PyProof.DictIter
import PyProof.DictWalks
import PyProof.Rows.SetFrom
import PyProof.SetRoads
import KE.KDictSum
import PyProof.Rows.SortShellK
import PySem.Challenge.RW_deedloom_k51_tables_run
set_option genSizeOf false
set_option compiler.extract_closed false
set_option Elab.async false
set_option linter.all false
set_option maxRecDepth 100000
namespace L2
open PySem PySem.Spec PyProof.Rows
abbrev Key:=Sum Int Str
def fN:Key->Value->Bool
 | .inl k,v=>Value.isInt k v
 | .inr x,v=>Value.isStrOf x v
def vG(w:World):Key->Int
 | .inl k=>hashInt k
 | .inr x=>hashStr w x
theorem aX:∀{k:Key} {v:Value},fN k v=true->(∃i t,k=Sum.inl i/\v=Value.int i t)\/(∃x t,k=Sum.inr x/\v=Value.str x t)
 | .inl i,v,h=>by
  obtain ⟨t,e⟩:=Value.isInt_shape (k:=i) (v:=v) h
  exact .inl ⟨i,t,rfl,e⟩
 | .inr x,v,h=>by
  obtain ⟨t,e⟩:=Value.isStrOf_shape (x:=x) (v:=v) h
  exact .inr ⟨x,t,rfl,e⟩
theorem kL(i:Int)(t:Tok):fN (.inl i) (.int i t)=true:=by simp [fN,Value.isInt]
theorem kM(x:Str)(t:Tok):fN (.inr x) (.str x t)=true:=by simp [fN,Value.isStrOf]
theorem sF(a b:Int):decide ((Sum.inl a:Key)=Sum.inl b)=(a == b):=by
 by_cases e:a=b
 ·subst e;simp
 ·have h:¬(Sum.inl a:Key)=Sum.inl b:=fun q=>e (Sum.inl.inj q)
  rw [decide_eq_false h]
  exact (beq_eq_false_iff_ne.mpr e).symm
theorem sI(a b:Str):decide ((Sum.inr a:Key)=Sum.inr b)=decide (a=b):=by
 by_cases e:a=b
 ·subst e;simp
 ·have h:¬(Sum.inr a:Key)=Sum.inr b:=fun q=>e (Sum.inr.inj q)
  rw [decide_eq_false h,decide_eq_false e]
theorem sG(a:Int)(b:Str):decide ((Sum.inl a:Key)=Sum.inr b)=false:=decide_eq_false (fun q=>nomatch q)
theorem sH(a:Str)(b:Int):decide ((Sum.inr a:Key)=Sum.inl b)=false:=decide_eq_false (fun q=>nomatch q)
def aP(prog:Program)(w:World):PySem.KeyKind prog w Key where
 is:=fN
 hash:=vG w
 inj:=fun v a b ha hb=>by
  rcases aX ha with ⟨i,t,rfl,rfl⟩ | ⟨x,t,rfl,rfl⟩
  ·rcases aX hb with ⟨j,u,rfl,e⟩ | ⟨y,u,rfl,e⟩
   ·injection e with e1 _;rw [e1]
   ·exact nomatch e
  ·rcases aX hb with ⟨j,u,rfl,e⟩ | ⟨y,u,rfl,e⟩
   ·exact nomatch e
   ·injection e with e1 _;rw [e1]
 byValue:=fun k v h=>by
  rcases aX h with ⟨i,t,rfl,rfl⟩ | ⟨x,t,rfl,rfl⟩ <;> rfl
 pyHash:=fun hv h=>by
  rcases aX hv with ⟨i,t,rfl,rfl⟩ | ⟨x,t,rfl,rfl⟩
  ·exact wpAny_pyHash_int h
  ·exact wpAny_pyHash_str h
 eqBool:=fun hu hv h=>by
  rcases aX hu with ⟨i,t,rfl,rfl⟩ | ⟨x,t,rfl,rfl⟩
  ·rcases aX hv with ⟨j,u,rfl,rfl⟩ | ⟨y,u,rfl,rfl⟩
   ·rw [sF] at h;exact wpAny_eqBool_int h
   ·rw [sG] at h;exact SeqAt.EqAt.int_str i t y u _ _ _ _ h
  ·rcases aX hv with ⟨j,u,rfl,rfl⟩ | ⟨y,u,rfl,rfl⟩
   ·rw [sH] at h;exact SeqAt.EqAt.str_int x t j u _ _ _ _ h
   ·rw [sI] at h;exact wpAny_eqBool_str h
 «strs»:=fun k x t v h=>by
  rcases aX h with ⟨i,u,rfl,e⟩ | ⟨y,u,rfl,e⟩
  ·exact nomatch e
  ·injection e with e1 _
   subst e1
   cases v <;> rfl
theorem i4(prog:Program)(w:World)(i:Int)(t:Tok):(aP prog w).is (.inl i) (.int i t)=true:=kL i t
theorem i5(prog:Program)(w:World)(x:Str)(t:Tok):(aP prog w).is (.inr x) (.str x t)=true:=kM x t
end L2
variable {H:Hp} {b:Addr} {o u:HO}
namespace L2
open PySem PySem.Spec PyProof.Rows
inductive V where
 | non | bl (b:Bool) | int (i:Int) | str (x:Str) | byt (b:Array UInt8) | flt (b:UInt64) | ref (a:Addr) | ty (n:String)
 deriving DecidableEq
def RelV:V->Value->Prop
 | .non,u=>u=Value.none
 | .bl b,u=>u=Value.bool b
 | .int i,u=>∃t,u=Value.int i t
 | .str x,u=>∃t,u=Value.str x t
 | .byt b,u=>∃t,u=Value.bytes b t
 | .flt b,u=>∃t,u=Value.float b t
 | .ref a,u=>u=Value.ref a
 | .ty n,u=>u=Value.type n
abbrev Vals:List V->List Value->Prop:=Paired RelV
theorem Vals.length{xs:List V}{us:List Value}(r:Vals xs us):xs.length=us.length:=Paired.length r
theorem Vals.get:∀{xs:List V} {us:List Value} {i:Nat} {x:V},Vals xs us->xs[i]?=some x->∃u,us[i]?=some u/\RelV x u
 | _,_,_,_,.nil,e=>by simp at e
 | _,_,0,_,.cons r _,e=>by simp at e;subst e;exact ⟨_,rfl,r⟩
 | _,_,i+1,x,.cons _ t,e=>by
  obtain ⟨u,h1,h2⟩:=Vals.get (i:=i) (x:=x) t (by simpa using e)
  exact ⟨u,by simpa using h1,h2⟩
theorem Vals.set{x:V}{u:Value}(r:RelV x u):∀{xs:List V} {us:List Value} (i:Nat),Vals xs us->Vals (xs.set i x) (us.set i u)
 | _,_,_,.nil=>.nil
 | _,_,0,.cons _ t=>.cons r t
 | _,_,i+1,.cons q t=>.cons q (Vals.set r i t)
theorem Vals.append:∀{xs ys:List V} {us ws:List Value},Vals xs us->Vals ys ws->Vals (xs ++ ys) (us ++ ws)
 | _,_,_,_,.nil,s=>s
 | _,_,_,_,.cons r t,s=>.cons r (Vals.append t s)
theorem Vals.take:∀{xs:List V} {us:List Value} (n:Nat),Vals xs us->Vals (xs.take n) (us.take n)
 | _,_,0,_=>.nil
 | _,_,_+1,.nil=>.nil
 | _,_,n+1,.cons r t=>.cons r (Vals.take n t)
theorem Vals.drop:∀{xs:List V} {us:List Value} (n:Nat),Vals xs us->Vals (xs.drop n) (us.drop n)
 | _,_,0,r=>r
 | _,_,_+1,.nil=>.nil
 | _,_,n+1,.cons _ t=>Vals.drop n t
def RelO:Option V->Option Value->Prop
 | some v,some u=>RelV v u
 | none,none=>True
 | _,_=>False
def KV{κ:Type}:List (κ×V)->List (κ×Value)->Prop:=Paired fun (p:κ×V) (q:κ×Value)=>p.1=q.1/\RelV p.2 q.2
def kV:Key->V
 | .inl i=>.int i
 | .inr x=>.str x
inductive HO where
 /-- a list -/
 | lst (xs:List V)
 /-- a tuple (never changes) -/
 | tup (xs:List V)
 /-- a dict whose keys are ints and texts;one whose keys are tuples of ints and texts (the empty one is both) -/
 | dK (kvs:List (Key×V)) | dT (kvs:List (List Key×V))
 /-- a set of ints: its members,its size -/
 | set (S:Int->Bool) (n:Nat)
 /-- an instance of the class at C,its dict at dx,its attributes -/
 | ins (C dx:Addr) (fs:List (Str×V))
 /-- the dict of the instance at x -/
 | own (x:Addr)
 /-- the dict of an exception -/
 | xd (fs:List (Str×V))
 /-- a bound method,f of x -/
 | met (f x:Addr)
 /-- a range object lo,lo+1,.. below hi -/
 | rng (lo hi:Int)
 /-- a thing that is known to the object (the script;a dict while a loop walks it): read,never written while it is so -/
 | frz (o:Obj) (u:HO)
 /-- a code object's table -/
 | tbl (ps:Array Value)
 /-- any other thing,by what is true of its one object (a def of one's own: SetO a S n:=HO.ext fun h=>..) -/
 | ext (φ:Heap->Prop)
abbrev Hp:=Addr->Option HO
def upd(H:Hp)(a:Addr)(o:HO):Hp:=fun b=>if b=a then some o else H b
theorem ae{a:Addr}:upd H a o a=some o:=by unfold upd;rw [if_pos rfl]
theorem ap{a b:Addr}(h:b≠a):upd H a o b=H b:=by unfold upd;rw [if_neg h]
theorem qK{a:Addr}:upd (upd H a o) a u=upd H a u:=by
 funext b;unfold upd;split <;> rfl
theorem bp{H:Hp}{a b:Addr}{o:HO}(h:H a=some o)(h':H b=some u)(d:o≠u):a≠b:=by
 intro e;subst e;rw [h] at h';exact d (Option.some.inj h')
theorem au{H:Hp}{a b:Addr}(h:H a=some o)(h':H b=none):a≠b:=by
 intro e;subst e;rw [h] at h';cases h'
section
variable (P:Program) (w:World)
def ObjOk(H:Hp)(h:Heap)(a:Addr):HO->Prop
 | .lst xs=>xs.length<=sizeLine/\∃(its:List Value)(n:Nat),Vals xs its/\h.get? a=some {cls:=.type "list",data:=.seq its.toArray n}
 | .tup xs=>xs.length<=sizeLine/\∃its:List Value,Vals xs its/\IsTup h a its.toArray
 | .dK kvs=>kvs.length<=sizeLine/\(a == sysModules)=false/\∃vs,KV kvs vs/\h.DictOf (aP P w) a vs
 | .dT kvs=>kvs.length<=sizeLine/\(a == sysModules)=false/\∃xs:List (List Key×Addr×Value),
   Paired (fun (p:List Key×V) (q:List Key×Addr×Value)=>p.1=q.1/\H q.2.1=some (.tup (p.1.map kV))/\RelV p.2 q.2.2) kvs xs/\
   ∃o es ep,h.get? a=some o/\o.ExactDict/\o.data=.dict es ep/\es.toList=xs.map (entryOfKey (tupleKind (aP P w)))/\(xs.map (·.1)).Nodup
 | .set S n=>h.SetOf (intKind P w) a S n
 | .ins C dx fs=>H dx=some (.own a)/\fs.length<=1000/\dx≠a/\h.get? a=some (PySem.W.instObj C dx)/\
   ∃mA,h.Ns1 dx mA/\(∀f,RelO (fs.lookup f) (mA f))/\PySem.Within mA (fs.map (·.1))
 | .own _=>∃o,h.get? a=some o
 | .xd fs=>∃mA,h.Ns1 a mA/\∀f,RelO (fs.lookup f) (mA f)
 | .rng lo hi=>∃t u v,h.get? a=some {cls:=.type "range",data:=.fields #[.int lo t,.int hi u,.int 1 v]}
 | .frz o u=>h.get? a=some o/\ObjOk H h a u
 | .tbl ps=>h.get? a=some {cls:=.none,data:=.fields ps}
 | .met f x=>h.get? a=some (PySem.W.methodObj (.ref f) (.ref x))
 | .ext φ=>φ h/\(∃o,h.get? a=some o)/\∀h1 h2:Heap,φ h1->(∀o,h1.get? a=some o->h2.get? a=some o)->φ h2
def HOk(H:Hp)(h:Heap):Prop:=∀a o,H a=some o->ObjOk P w H h a o
end
section
variable {P:Program} {w:World} {H H':Hp} {h h':Heap} {a:Addr} {o:HO}
theorem ObjOk.lt(x:ObjOk P w H h a o):a < h.objs.size:=by
 cases o with
 | lst xs=>obtain ⟨_,_,_,_,e⟩:=x;exact Heap.lt_size e
 | tup xs=>obtain ⟨_,_,_,p⟩:=x;exact p.lt
 | dK kvs=>obtain ⟨_,_,_,_,o,_,_,e,_⟩:=x;exact Heap.lt_size e
 | dT kvs=>obtain ⟨_,_,_,_,o,_,_,e,_⟩:=x;exact Heap.lt_size e
 | set S n=>obtain ⟨o,_,_,_,e,_⟩:=x;exact Heap.lt_size e
 | ins C dx fs=>obtain ⟨_,_,_,e,_⟩:=x;exact Heap.lt_size e
 | own y=>obtain ⟨_,e⟩:=x;exact Heap.lt_size e
 | xd fs=>obtain ⟨_,⟨_,_,_,e,_⟩,_⟩:=x;exact Heap.lt_size e
 | rng lo hi=>obtain ⟨_,_,_,e⟩:=x;exact Heap.lt_size e
 | frz ob u=>obtain ⟨e,_⟩:=x;exact Heap.lt_size e
 | tbl ps=>exact Heap.lt_size (show h.get? a=some _ from x)
 | met f y=>exact Heap.lt_size (show h.get? a=some _ from x)
 | ext φ=>obtain ⟨_,⟨_,e⟩,_⟩:=x;exact Heap.lt_size e
theorem Paired.mapP{α β:Type}{F G:α->β->Prop}:∀{l₁:List α} {l₂:List β},Paired F l₁ l₂->(∀a b,F a b->G a b)->Paired G l₁ l₂
 | _,_,.nil,_=>.nil
 | _,_,.cons r t,f=>.cons (f _ _ r) (Paired.mapP t f)
theorem ObjOk.stay(x:ObjOk P w H h a o)(k:∀b u,(b=a\/H b=some (.own a))->h.get? b=some u->h'.get? b=some u)
  (ho:∀b,H b=some (.own a)->H' b=some (.own a)) (ht:∀b xs,H b=some (.tup xs)->H' b=some (.tup xs)):ObjOk P w H' h' a o:=by
 induction o with
 | lst xs=>obtain ⟨z,its,n,r,e⟩:=x;exact ⟨z,its,n,r,k _ _ (.inl rfl) e⟩
 | tup xs=>obtain ⟨z,its,r,ob,e,c⟩:=x;exact ⟨z,its,r,ob,k _ _ (.inl rfl) e,c⟩
 | dK kvs=>obtain ⟨z,y,vs,r,ob,es,ep,e,c⟩:=x;exact ⟨z,y,vs,r,ob,es,ep,k _ _ (.inl rfl) e,c⟩
 | dT kvs=>
  obtain ⟨z,y,xs,r,ob,es,ep,e,c⟩:=x
  exact ⟨z,y,xs,Paired.mapP r fun p q z=>⟨z.1,ht _ _ z.2.1,z.2.2⟩,ob,es,ep,k _ _ (.inl rfl) e,c⟩
 | set S n=>obtain ⟨ob,es,ep,t,e,c⟩:=x;exact ⟨ob,es,ep,t,k _ _ (.inl rfl) e,c⟩
 | ins C dx fs=>
  obtain ⟨d,z,ne,e,mA,⟨od,es,ep,e2,c⟩,r⟩:=x
  exact ⟨ho _ d,z,ne,k _ _ (.inl rfl) e,mA,⟨od,es,ep,k _ _ (.inr d) e2,c⟩,r⟩
 | own y=>obtain ⟨ob,e⟩:=x;exact ⟨ob,k _ _ (.inl rfl) e⟩
 | xd fs=>obtain ⟨mA,⟨od,es,ep,e,c⟩,r⟩:=x;exact ⟨mA,⟨od,es,ep,k _ _ (.inl rfl) e,c⟩,r⟩
 | rng lo hi=>obtain ⟨t,u,v,e⟩:=x;exact ⟨t,u,v,k _ _ (.inl rfl) e⟩
 | frz ob u ih=>obtain ⟨e,q⟩:=x;exact ⟨k _ _ (.inl rfl) e,ih q⟩
 | tbl ps=>
  have e:h.get? a=some {cls:=.none,data:=.fields ps}:=x
  show h'.get? a=some {cls:=.none,data:=.fields ps}
  exact k a _ (.inl rfl) e
 | met f y=>
  have e:h.get? a=some (PySem.W.methodObj (.ref f) (.ref y)):=x
  show h'.get? a=some (PySem.W.methodObj (.ref f) (.ref y))
  exact k a _ (.inl rfl) e
 | ext φ=>obtain ⟨p,⟨o,e⟩,st⟩:=x;exact ⟨st _ _ p fun o q=>k _ _ (.inl rfl) q,⟨o,k _ _ (.inl rfl) e⟩,st⟩
theorem HOk.lt(x:HOk P w H h)(e:H a=some o):a < h.objs.size:=(x a o e).lt
theorem HOk.fresh(x:HOk P w H h)(e:h.objs.size<=a):H a=none:=by
 cases q:H a with
 | none=>rfl
 | some u=>exact absurd (Nat.lt_of_lt_of_le (x.lt q) e) (Nat.lt_irrefl _)
theorem HOk.kept(x:HOk P w H h)(k:∀b u,h.get? b=some u->h'.get? b=some u):HOk P w H h':=fun a o e=>
 (x a o e).stay (fun b u _ q=>k b u q) (fun _ q=>q) fun _ _ q=>q
theorem HOk.laid(x:HOk P w H h)(k:∀b u,h.get? b=some u->h'.get? b=some u)(hp:h.objs.size<=a)(new:ObjOk P w (upd H a o) h' a o):HOk P w (upd H a o) h':=fun b u e=>by
 have hn:=x.fresh hp
 by_cases hb:b=a
 ·subst hb;rw [ae] at e;cases e;exact new
 ·rw [ap hb] at e
  exact (x b u e).stay (fun c v _ q=>k c v q) (fun c q=>by rw [ap (au q hn)];exact q) fun c xs q=>by rw [ap (au q hn)];exact q
end
def Rd(H:Hp)(a:Addr)(u:HO):Prop:=H a=some u\/∃o,H a=some (.frz o u)
theorem Rd.ok{P:Program}{w:World}{H:Hp}{h:Heap}{a:Addr}(r:Rd H a u)(x:HOk P w H h):ObjOk P w H h a u:=by
 rcases r with r | ⟨o,r⟩
 ·exact x a u r
 ·obtain ⟨_,q⟩:=x a _ r
  exact q
def Mut:Option HO->Prop
 | some (.lst _)=>True
 | some (.dK _)=>True
 | some (.dT _)=>True
 | some (.set _ _)=>True
 | some (.ins _ _ _)=>True
 | some (.ext _)=>True
 | _=>False
section
variable {P:Program} {w:World} {H:Hp} {h h':Heap} {x e:Addr} {o':HO}
theorem HOk.write(ok:HOk P w H h)(mu:Mut (H x))(he:e=x\/H e=some (.own x))(k:∀b u,b≠e->h.get? b=some u->h'.get? b=some u)(heo:∃u,h'.get? e=some u)
  (new:ObjOk P w (upd H x o') h' x o'):HOk P w (upd H x o') h':=fun b u q=>by
 have nown:∀c y,H c=some (.own y)->c≠x:=fun c y r z=>by subst z;rw [r] at mu;exact mu
 have ntup:∀c xs,H c=some (.tup xs)->c≠x:=fun c xs r z=>by subst z;rw [r] at mu;exact mu
 by_cases hb:b=x
 ·subst hb;rw [ae] at q;cases q;exact new
 ·rw [ap hb] at q
  by_cases hbe:b=e
  ·have q':H b=some (.own x):=by
    rcases he with z | z
    ·exact absurd (hbe.trans z) hb
    ·rw [hbe];exact z
   rw [q] at q';cases q'
   obtain ⟨v,hv⟩:=heo
   exact ⟨v,by rw [hbe];exact hv⟩
  ·refine (ok b u q).stay (fun c v hc r=>k c v ?_ r) (fun c r=>by rw [ap (nown c b r)];exact r) fun c xs r=>by rw [ap (ntup c xs r)];exact r
   rcases hc with rfl | hc
   ·exact hbe
   ·rintro rfl
    rcases he with z | z
    ·exact nown c b hc z
    ·rw [hc] at z;cases z;exact hb rfl
end
structure Un(fs ex:List Addr)(H H':Hp)(h h':Heap):Prop where
 keep:∀b o,h.get? b=some o->H b=none->b∉fs->b∉ex->h'.get? b=some o
 slot:∀b o,h.get? b=some o->H b=none->b∈fs->b∉ex->∃sl,h'.get? b=some {o with slots:=sl}
 free:∀b o,h.get? b=some o->H b=none->b∉ex->H' b=none
 there:∀b o,h.get? b=some o->b∉ex->∃o',h'.get? b=some o'
 tups:∀b xs,H b=some (.tup xs)->H' b=some (.tup xs)
 frzs:∀b o u,H b=some (.frz o u)->H' b=some (.frz o u)
 tbls:∀b ps,H b=some (.tbl ps)->∃more,H' b=some (.tbl (ps ++ more))
section
variable {fs fs' ex ex':List Addr} {H H1 H2:Hp} {h h1 h2 h':Heap} {a x e:Addr} {o:HO}
theorem Un.any(u:Un fs ex H H1 h h1){b:Addr}{ob:Obj}(q:h.get? b=some ob)(n:H b=none)(hx:b∉ex):∃sl,h1.get? b=some {ob with slots:=sl}:=by
 by_cases hb:b∈fs
 ·exact u.slot b ob q n hb hx
 ·exact ⟨ob.slots,u.keep b ob q n hb hx⟩
theorem Un.kept(k:∀b u,h.get? b=some u->h'.get? b=some u):Un fs ex H H h h':=
 ⟨fun b ob q _ _ _=>k b ob q,fun b ob q _ _ _=>⟨ob.slots,k b ob q⟩,fun _ _ _ n _=>n,fun b ob q _=>⟨ob,k b ob q⟩,fun _ _ q=>q,fun _ _ _ q=>q,fun _ ps q=>⟨#[],by rw [q];simp⟩⟩
theorem Un.refl:Un fs ex H H h h:=Un.kept fun _ _ q=>q
theorem Un.laid(k:∀b u,h.get? b=some u->h'.get? b=some u)(hp:h.objs.size<=a)(hn:H a=none):Un fs ex H (upd H a o) h h' where
 keep:=fun b u q _ _ _=>k b u q
 slot:=fun b u q _ _ _=>⟨u.slots,k b u q⟩
 free:=fun b u q n _=>by rw [ap (Nat.ne_of_lt (Nat.lt_of_lt_of_le (Heap.lt_size q) hp))];exact n
 there:=fun b u q _=>⟨u,k b u q⟩
 tups:=fun b xs q=>by rw [ap (au q hn)];exact q
 frzs:=fun b u xs q=>by rw [ap (au q hn)];exact q
 tbls:=fun b ps q=>⟨#[],by rw [ap (au q hn),q];simp⟩
theorem Un.write(mu:Mut (H x))(he:e=x\/H e=some (.own x))(k:∀b u,b≠e->h.get? b=some u->h'.get? b=some u)(heo:∃u,h'.get? e=some u):Un fs ex H (upd H x o) h h':=by
 have hx:∀b,H b=none->b≠x:=fun b n z=>by subst z;rw [n] at mu;exact mu
 have hb:∀b,H b=none->b≠e:=fun b n z=>by
  subst z
  rcases he with r | r
  ·exact hx b n r
  ·rw [n] at r;cases r
 have hm:∀b u,H b=some u->¬Mut (some u)->b≠x:=fun b u q nm z=>by subst z;rw [q] at mu;exact nm mu
 refine ⟨fun b u q n _ _=>k b u (hb b n) q,fun b u q n _ _=>⟨u.slots,k b u (hb b n) q⟩,fun b u q n _=>by rw [ap (hx b n)];exact n,fun b u q _=>?_,
  fun b xs q=>by rw [ap (hm b _ q fun z=>z)];exact q,fun b u xs q=>by rw [ap (hm b _ q fun z=>z)];exact q,fun b ps q=>⟨#[],by rw [ap (hm b _ q fun z=>z),q];simp⟩⟩
 by_cases hbe:b=e
 ·subst hbe;exact heo
 ·exact ⟨u,k b u hbe q⟩
end
def trk(h:Heap)(H:Hp):List Addr:=(List.range h.objs.size).filter fun a=>(H a).isSome
def gw(h:Heap)(H:Hp):Heap:=PySem.W.hideAll h (trk h H)
theorem kJ(h:Heap)(H:Hp):(gw h H).objs.size=h.objs.size:=PySem.W.hideAll_size _ _
theorem lZ{h:Heap}{H:Hp}{b:Addr}{o:Obj}(e:h.get? b=some o)(n:H b=none):(gw h H).get? b=some o:=
 PySem.W.hideAll_get _ e fun hm=>by
  have q:(H b).isSome=true:=(List.mem_filter.mp hm).2
  rw [n] at q;simp at q
theorem pS{h:Heap}{b:Addr}{o:Obj}(e:(gw h H).get? b=some o):h.get? b=some o/\H b=none:=by
 have e':h.get? b=some o:=PySem.W.of_hideAll (trk h H) e
 refine ⟨e',?_⟩
 cases q:H b with
 | none=>rfl
 | some x=>
  have hm:b∈trk h H:=List.mem_filter.mpr ⟨List.mem_range.mpr (Heap.lt_size e'),by simp [q]⟩
  have z:(gw h H).get? b=none:=PySem.W.hideAll_none (trk h H) hm
  rw [z] at e;cases e
def pD(g h:Heap)(L:Addr):List (Addr×Obj):=(List.range h.objs.size).filterMap fun a=>if a=L\/(g.get? a).isSome=true then none else (h.get? a).map fun o=>(a,o)
def bQ(g h:Heap)(L d:Addr):List (Addr×Obj):=(pD g h L).filter fun p=>decide (p.1≠d)
end L2
variable {i t':Nat}
namespace L2
open PySem PySem.Spec PyProof.Rows
structure Mod(K:PySem.W.Frag)(mg:Str->Option Value)(base:Heap):Prop where
 kin:K.In base
 glob:base.Ns mainGlobals mg
 blt:∃mb,base.Ns builtinsNs mb/\∀x:Str,x≠"__name__"->mb x=bootBuiltins x
 nolimit:base.NoLimit
structure Cx where
 prog:Program
 w:World
 K:PySem.W.Frag
 mg:Str->Option Value
 base:Heap
 A:Around
 N:List Str
 s₀:Shared
 H₀:Hp
 env:Env
 outer:List Env
 stack:List Env
 ex:List Addr
 fn:Str->Bool
 calm:Bool
 pn:List (Addr×Obj)
 xe:Value->Shared->Prop
def frs(l:List Env):List Addr:=l.filterMap (·.frame)
abbrev Cx.fs (X:Cx):List Addr:=frs X.outer
def Vis(sc:Scope)(x:Str):Prop:=sc.names.lookup x=some .local\/sc.names.lookup x=some .cell\/sc.names.lookup x=some .free
def Loc(sc:Scope)(x:Str):Prop:=sc.names.lookup x=some .local\/sc.names.lookup x=some .cell
def vC(env:Env)(h:Heap)(m:Str->Option Value)(x:Str)(u:Value):Prop:=
 (env.kindOf x=some .local/\m x=some u)\/((env.kindOf x=some .cell\/env.kindOf x=some .free)/\∃c,env.cells.lookup x=some c/\h.IsCell c (some u))
structure Cx.Ok(X:Cx):Prop where
 mod:Mod X.K X.mg X.base
 kind:X.env.scope.kind=.function
 glob:X.env.globals=mainGlobals
 blt:X.env.builtins=builtinsNs
 above:X.s₀.heap.objs.size<=X.env.locals
 inj:∀x y c,X.env.cells.lookup x=some c->X.env.cells.lookup y=some c->x=y
 has:∀x,(X.env.kindOf x=some .cell\/X.env.kindOf x=some .free)->∃c,X.env.cells.lookup x=some c
 cab:∀x c,X.fn x=true->X.env.cells.lookup x=some c->X.s₀.heap.objs.size<=c
 hd:X.calm=true->X.A.handled=none
 frames:X.A.frames=some X.stack
 stk:X.stack=X.outer\/(X.stack=X.env :: X.outer/\X.env.frame=some X.env.locals)
 exf:∀b∈X.ex,b≠X.env.locals/\∀x c,X.env.cells.lookup x=some c->c≠b
 bs:∀b o,X.base.get? b=some o->X.s₀.heap.get? b=some o/\X.H₀ b=none
 bsz:X.base.objs.size<=X.s₀.heap.objs.size
 noex:∀b o,X.base.get? b=some o->b∉X.ex
 exfs:∀b∈X.ex,b∉X.fs
 funs:X.s₀.heap.FunFrames X.base X.outer
 frf:∀b∈X.fs,X.H₀ b=none
structure Inv(X:Cx)(pins:List (Addr×Obj))(σ:List (Option V))(H:Hp)(s:Shared):Prop where
 ok:X.Ok
 os:s.os=X.s₀.os
 bare:AllBare s.gens
 base:Un X.fs X.ex X.H₀ H X.s₀.heap s.heap
 loc:∃m,s.heap.Ns X.env.locals m/\∀(i:Nat)(x:Str)(v:V),X.N[i]?=some x->σ[i]?=some (some v)->Vis X.env.scope x->∃u,RelV v u/\vC X.env s.heap m x u
 cell:∀x c,X.env.cells.lookup x=some c->∃v,s.heap.IsCell c v
 free:H X.env.locals=none
 freeC:∀x c,X.env.cells.lookup x=some c->H c=none
 pin:∀p∈X.pn ++ pins,s.heap.get? p.1=some p.2/\H p.1=none/\p.1≠X.env.locals/\p.1∉X.fs/\∀v,p.2.data≠.cell v
 hok:HOk X.prog X.w H s.heap
 len:σ.length=X.N.length
section
variable {X:Cx} {pins:List (Addr×Obj)} {σ:List (Option V)} {H H':Hp} {s:Shared} {h':Heap}
theorem Cx.Ok.nofr(ok:X.Ok){b:Addr}{o:Obj}(e:X.base.get? b=some o):b∉X.fs:=fun hb=>by
 have:=(ok.funs.mem hb).1
 rw [e] at this;cases this
theorem Inv.bs(I:Inv X pins σ H s):∀b o,X.base.get? b=some o->s.heap.get? b=some o/\H b=none:=fun b o e=>
 ⟨I.base.keep b o (I.ok.bs b o e).1 (I.ok.bs b o e).2 (I.ok.nofr e) (I.ok.noex b o e),I.base.free b o (I.ok.bs b o e).1 (I.ok.bs b o e).2 (I.ok.noex b o e)⟩
theorem Inv.bk(I:Inv X pins σ H s):∀b o,X.base.get? b=some o->s.heap.get? b=some o:=fun b o e=>(I.bs b o e).1
theorem Inv.mod(I:Inv X pins σ H s):Mod X.K X.mg X.base:=I.ok.mod
theorem Inv.kIn(I:Inv X pins σ H s):X.K.In s.heap:=I.ok.mod.kin.keeps I.bk
theorem Inv.lt(I:Inv X pins σ H s):X.env.locals < s.heap.objs.size:=let ⟨_,hn,_⟩:=I.loc;hn.lt
theorem Inv.sz(I:Inv X pins σ H s):X.s₀.heap.objs.size<=s.heap.objs.size:=Nat.le_trans I.ok.above (Nat.le_of_lt I.lt)
theorem Inv.nofs(I:Inv X pins σ H s){a:Addr}(h:s.heap.objs.size<=a):a∉X.fs:=fun hb=>by
 obtain ⟨_,o,ho,_⟩:=I.ok.funs.mem hb
 exact absurd (Nat.lt_of_lt_of_le (Heap.lt_size ho) (Nat.le_trans I.sz h)) (Nat.lt_irrefl _)
theorem Inv.cne(I:Inv X pins σ H s):∀x c,X.env.cells.lookup x=some c->c≠X.env.locals:=fun x c e z=>by
 obtain ⟨v,o,ho,hd⟩:=I.cell x c e
 obtain ⟨m,⟨o',es,ep,ho',hd',_⟩,_⟩:=I.loc
 rw [z,ho'] at ho;cases ho;rw [hd'] at hd;cases hd
theorem Inv.funs(I:Inv X pins σ H s):s.heap.FunFrames X.base X.outer:=by
 have all:∀(l:List Env),(∀b∈frs l,b∈X.fs)->X.s₀.heap.FunFrames X.base l->s.heap.FunFrames X.base l:=by
  intro l
  induction l with
  | nil=>intro _ _;trivial
  | cons env r ih=>
   intro hs hl
   obtain ⟨hk,⟨L,o,hf,hn,ho,hd⟩,hr⟩:=hl
   have hL:L∈X.fs:=hs L (by unfold frs;rw [List.filterMap_cons,hf];exact List.mem_cons_self)
   obtain ⟨sl,e⟩:=I.base.slot L o ho (I.ok.frf L hL) hL fun z=>I.ok.exfs L z hL
   exact ⟨hk,⟨L,_,hf,hn,e,hd⟩,ih (fun b hb=>hs b (by unfold frs;rw [List.filterMap_cons,hf];exact List.mem_cons_of_mem _ hb)) hr⟩
 exact all X.outer (fun _ hb=>hb) I.ok.funs
theorem Inv.stack(I:Inv X pins σ H s):s.heap.FunFrames X.base X.stack:=by
 rcases I.ok.stk with e | ⟨e,hf⟩
 ·rw [e];exact I.funs
 ·rw [e]
  obtain ⟨m,hn,_⟩:=I.loc
  refine .cons (by rw [I.ok.kind];decide) hf hn ?_ I.funs
  exact Heap.get?_none_of_le (Nat.le_trans I.ok.bsz I.ok.above)
theorem Inv.stkSub(I:Inv X pins σ H s):∀b∈frs X.stack,b∈X.env.locals :: X.fs:=fun b hb=>by
 rcases I.ok.stk with e | ⟨e,hf⟩
 ·rw [e] at hb;exact List.mem_cons_of_mem _ hb
 ·rw [e] at hb
  unfold frs at hb
  rw [List.filterMap_cons,hf] at hb
  exact hb
theorem Inv.stkFree(I:Inv X pins σ H s):∀b∈frs X.stack,H b=none:=fun b hb=>by
 rcases List.mem_cons.mp (I.stkSub b hb) with e | hb
 ·rw [e];exact I.free
 ·obtain ⟨_,o,ho,_⟩:=I.ok.funs.mem hb
  exact I.base.free b o ho (I.ok.frf b hb) fun z=>I.ok.exfs b z hb
theorem Inv.step{g':Array GenState}{t':Nat}{d':Drawn}{ch:List Addr}(I:Inv X pins σ H s)
  (hch:∀b∈ch,(b∈X.ex\/X.s₀.heap.objs.size<=b)/\b≠X.env.locals/\(∀x c,X.env.cells.lookup x=some c->c≠b)/\∀p∈X.pn ++ pins,p.1≠b)
  (keep:∀b o,b≠X.env.locals->b∉X.fs->b∉ch->s.heap.get? b=some o->H b=none->h'.get? b=some o)
  (slot:∀b o,b≠X.env.locals->b∈X.fs->b∉ch->s.heap.get? b=some o->H b=none->∃sl,h'.get? b=some {o with slots:=sl}) (free:∀b o,b∉ch->s.heap.get? b=some o->H b=none->H' b=none)
  (there:∀b o,b∉ch->s.heap.get? b=some o->∃o',h'.get? b=some o')
  (tups:∀b xs,H b=some (.tup xs)->H' b=some (.tup xs)) (frzs:∀b o u,H b=some (.frz o u)->H' b=some (.frz o u)) (tbls:∀b ps,H b=some (.tbl ps)->∃more,H' b=some (.tbl (ps ++ more)))
  (ns:∀m,s.heap.Ns X.env.locals m->h'.Ns X.env.locals m) (hok:HOk X.prog X.w H' h') (hg:AllBare g') :
  Inv X pins σ H' {s with heap:=h',gens:=g',drawn:=d',toks:=t'}:=by
 have neL:∀b o,X.s₀.heap.get? b=some o->b≠X.env.locals:=fun b o e=>Nat.ne_of_lt (Nat.lt_of_lt_of_le (Heap.lt_size e) I.ok.above)
 have neC:∀b o,X.s₀.heap.get? b=some o->b∉X.ex->b∉ch:=fun b o e hx hb=>by
  rcases (hch b hb).1 with z | z
  ·exact hx z
  ·exact absurd (Nat.lt_of_lt_of_le (Heap.lt_size e) z) (Nat.lt_irrefl _)
 have cellK:∀x c,X.env.cells.lookup x=some c->∀v,s.heap.IsCell c v->h'.IsCell c v:=fun x c e v ⟨o,ho,hd⟩=>by
  have nch:c∉ch:=fun z=>(hch c z).2.2.1 x c e rfl
  by_cases hc:c∈X.fs
  ·obtain ⟨sl,q⟩:=slot c o (I.cne x c e) hc nch ho (I.freeC x c e)
   exact ⟨_,q,hd⟩
  ·exact ⟨o,keep c o (I.cne x c e) hc nch ho (I.freeC x c e),hd⟩
 refine ⟨I.ok,I.os,hg,⟨fun b o e n hb hx=>?_,fun b o e n hb hx=>?_,fun b o e n hx=>?_,fun b o e hx=>?_,fun b xs e=>tups b xs (I.base.tups b xs e),fun b o xs e=>frzs b o xs (I.base.frzs b o xs e),fun b ps e=>?_⟩,?_,fun x c e=>?_,?_,fun x c e=>?_,fun p hp=>?_,hok,I.len⟩
 ·exact keep b o (neL b o e) hb (neC b o e hx) (I.base.keep b o e n hb hx) (I.base.free b o e n hx)
 ·obtain ⟨sl,e1⟩:=I.base.slot b o e n hb hx
  obtain ⟨sl',e2⟩:=slot b _ (neL b o e) hb (neC b o e hx) e1 (I.base.free b o e n hx)
  exact ⟨sl',e2⟩
 ·obtain ⟨o',e1⟩:=I.base.there b o e hx
  exact free b o' (neC b o e hx) e1 (I.base.free b o e n hx)
 ·obtain ⟨o',e1⟩:=I.base.there b o e hx
  exact there b o' (neC b o e hx) e1
 ·obtain ⟨m1,e1⟩:=I.base.tbls b ps e
  obtain ⟨m2,e2⟩:=tbls b _ e1
  exact ⟨m1 ++ m2,by rw [e2,Array.append_assoc]⟩
 ·obtain ⟨m,hn,hl⟩:=I.loc
  refine ⟨m,ns m hn,fun i x v e1 e2 e3=>?_⟩
  obtain ⟨u,r,l⟩:=hl i x v e1 e2 e3
  refine ⟨u,r,?_⟩
  rcases l with l | ⟨k,c,e,z⟩
  ·exact .inl l
  ·exact .inr ⟨k,c,e,cellK x c e _ z⟩
 ·obtain ⟨v,z⟩:=I.cell x c e
  exact ⟨v,cellK x c e v z⟩
 ·obtain ⟨m,⟨o,_,_,ho,_⟩,_⟩:=I.loc
  exact free _ o (fun z=>(hch _ z).2.1 rfl) ho I.free
 ·obtain ⟨v,o,ho,hd⟩:=I.cell x c e
  exact free c o (fun z=>(hch c z).2.2.1 x c e rfl) ho (I.freeC x c e)
 ·obtain ⟨e,n,ne,nf,d⟩:=I.pin p hp
  have nch:p.1∉ch:=fun z=>(hch p.1 z).2.2.2 p hp rfl
  exact ⟨keep p.1 p.2 ne nf nch e n,free p.1 p.2 nch e n,ne,nf,d⟩
theorem Inv.un(I:Inv X pins σ H s)(u:Un X.fs [] H H' s.heap h')(hok:HOk X.prog X.w H' h'):Inv X pins σ H' {s with heap:=h',toks:=t'}:=by
 obtain ⟨m,⟨o,es,ep,ho,r⟩,_⟩:=id I.loc
 obtain ⟨sl,hL⟩:=u.any ho I.free (by simp)
 exact I.step (g':=s.gens) (d':=s.drawn) (ch:=[]) (fun _ z=>nomatch z) (fun b o _ hb _ e n=>u.keep b o e n hb (by simp)) (fun b o _ hb _ e n=>u.slot b o e n hb (by simp)) (fun b o _ e n=>u.free b o e n (by simp)) (fun b o _ e=>u.there b o e (by simp)) u.tups u.frzs u.tbls (fun m' hm=>by
  obtain ⟨o',es',ep',ho',r'⟩:=hm
  rw [ho] at ho';cases ho'
  exact ⟨_,es',ep',hL,r'⟩) hok I.bare
theorem Inv.call{g':Array GenState}{t':Nat}{d':Drawn}{ch:List Addr}(I:Inv X pins σ H s)(u:Un (frs X.stack) ch H H' s.heap h')(hok:HOk X.prog X.w H' h')(hg:AllBare g')
  (hch:∀b∈ch,(b∈X.ex\/X.s₀.heap.objs.size<=b)/\b≠X.env.locals/\(∀x c,X.env.cells.lookup x=some c->c≠b)/\∀p∈X.pn ++ pins,p.1≠b) :
  Inv X pins σ H' {s with heap:=h',gens:=g',drawn:=d',toks:=t'}:=by
 obtain ⟨m,⟨o,es,ep,ho,r⟩,_⟩:=id I.loc
 obtain ⟨sl,hL⟩:=u.any ho I.free fun z=>(hch _ z).2.1 rfl
 exact I.step (ch:=ch) hch (fun b o hL hb hc e n=>u.keep b o e n (fun z=>(List.mem_cons.mp (I.stkSub b z)).elim hL hb) hc) (fun b o _ _ hc e n=>u.any e n hc) (fun b o hc e n=>u.free b o e n hc) (fun b o hc e=>u.there b o e hc) u.tups u.frzs u.tbls (fun m' hm=>by
  obtain ⟨o',es',ep',ho',r'⟩:=hm
  rw [ho] at ho';cases ho'
  exact ⟨_,es',ep',hL,r'⟩) hok hg
theorem Inv.turned{it:Addr}(I:Inv X pins σ H s)(k:∀b o,b≠it->s.heap.get? b=some o->h'.get? b=some o)(hn:H it=none)(hL:it≠X.env.locals)
 (h1:it∈X.ex\/X.s₀.heap.objs.size<=it) (h2:∀x c,X.env.cells.lookup x=some c->c≠it) (h3:∀p∈X.pn ++ pins,p.1≠it):Inv X pins σ H {s with heap:=h',toks:=t'}:=by
 have nit:∀b u,H b=some u->b≠it:=fun b u e z=>by rw [z,hn] at e;cases e
 refine I.step (g':=s.gens) (d':=s.drawn) (ch:=[it]) (fun b hb=>?_) (fun b o _ _ hc e _=>k b o (fun z=>hc (by simp [z])) e) (fun b o _ _ hc e _=>⟨o.slots,k b o (fun z=>hc (by simp [z])) e⟩) (fun _ _ _ _ n=>n)
  (fun b o hc e=>⟨o,k b o (fun z=>hc (by simp [z])) e⟩) (fun _ _ e=>e) (fun _ _ _ e=>e) (fun b ps e=>⟨#[],by rw [e];simp⟩) (fun m hm=>?_) (fun b u e=>?_) I.bare
 ·have e:b=it:=by simpa using hb
  subst e
  exact ⟨h1,hL,h2,h3⟩
 ·obtain ⟨o,es,ep,ho,r⟩:=hm
  exact ⟨o,es,ep,k _ o (Ne.symm hL) ho,r⟩
 ·refine (I.hok b u e).stay (fun c v hc q=>k c v ?_ q) (fun _ q=>q) fun _ _ q=>q
  rcases hc with z | z
  ·rw [z];exact nit b u e
  ·exact nit c _ z
theorem Inv.tok(I:Inv X pins σ H s)(t:Nat):Inv X pins σ H {s with toks:=t}:=I.un (h':=s.heap) (t':=t) Un.refl I.hok
theorem Inv.kept(I:Inv X pins σ H s)(k:∀b u,s.heap.get? b=some u->h'.get? b=some u):Inv X pins σ H {s with heap:=h',toks:=t'}:=I.un (Un.kept k) (I.hok.kept k)
theorem Inv.laid{a:Addr}{o:HO}{t':Nat}(I:Inv X pins σ H s)(k:∀b u,s.heap.get? b=some u->h'.get? b=some u)(hp:s.heap.objs.size<=a)(new:ObjOk X.prog X.w (upd H a o) h' a o):
  Inv X pins σ (upd H a o) {s with heap:=h',toks:=t'}:=I.un (Un.laid k hp (I.hok.fresh hp)) (I.hok.laid k hp new)
theorem Inv.write{x e:Addr}{o:HO}(I:Inv X pins σ H s)(mu:Mut (H x))(he:e=x\/H e=some (.own x))(k:∀b u,b≠e->s.heap.get? b=some u->h'.get? b=some u)(heo:∃u,h'.get? e=some u)
 (new:ObjOk X.prog X.w (upd H x o) h' x o):Inv X pins σ (upd H x o) {s with heap:=h',toks:=t'}:=I.un (Un.write mu he k heo) (I.hok.write mu he k heo new)
theorem Inv.pins_of{pins':List (Addr×Obj)}(I:Inv X pins σ H s)(h:∀p∈pins',s.heap.get? p.1=some p.2/\H p.1=none/\p.1≠X.env.locals/\p.1∉X.fs/\∀v,p.2.data≠.cell v):Inv X pins' σ H s:=
 ⟨I.ok,I.os,I.bare,I.base,I.loc,I.cell,I.free,I.freeC,fun p hp=>(List.mem_append.mp hp).elim (fun z=>I.pin p (List.mem_append_left _ z)) (h p),I.hok,I.len⟩
theorem i6{N:List Str}(hN:N.Nodup){j:Nat}{x:Str}(a:N[i]?=some x)(b:N[j]?=some x):i=j:=by
 obtain ⟨h1,e1⟩:=List.getElem?_eq_some_iff.mp a
 obtain ⟨h2,e2⟩:=List.getElem?_eq_some_iff.mp b
 exact (List.getElem_inj hN).mp (e1.trans e2.symm)
theorem li{M:Model}{A:Around}{E:Value->Shared->Prop}{i:Nat}{x:Str}{v:V}{u:Value}{Q:Unit->Shared->Prop}(I:Inv X pins σ H s)(hN:X.N.Nodup)(hi:X.N[i]?=some x)(hx:Loc X.env.scope x)(r:RelV v u)
 (h:∀s',Inv X pins (σ.set i (some v)) H s'->(∃a,Heap.SameBut a s.heap s'.heap/\(a=X.env.locals\/X.env.cells.lookup x=some a))->Q () s') (hf:X.fn x=true\/X.env.scope.names.lookup x=some .local:=by first | exact .inl rfl | exact .inr rfl | assumption):wpAny M A (storeName X.env x u) Q E s:=by
 obtain ⟨m,hn,hl⟩:=id I.loc
 have hcls:(X.env.scope.kind == .class || (X.env.scope.kind == .module && X.env.locals != X.env.globals))=false:=by rw [I.ok.kind];rfl
 have hiσ:i < σ.length:=by rw [I.len];exact (List.getElem?_eq_some_iff.mp hi).1
 have cne:=I.cne
 have tracked:∀{a:Addr} {h':Heap},(∃o,s.heap.get? a=some o/\H a=none)->Heap.SameBut a s.heap h'->HOk X.prog X.w H h':=fun {a h'} ha hs b ob e=>by
  obtain ⟨_,_,hfree⟩:=ha
  refine (I.hok b ob e).stay (fun c w' hc q=>(hs.2 c ?_).trans q) (fun _ q=>q) fun _ _ q=>q
  rintro rfl
  rcases hc with rfl | hc
  ·rw [hfree] at e;cases e
  ·rw [hfree] at hc;cases hc
 rcases hx with hk | hk
 ·refine wpAny_storeName_local hk hn (fun h' hn' hs=>?_) hcls
  obtain ⟨oL,_,_,hoL,_⟩:=id hn
  refine h _ ⟨I.ok,I.os,I.bare,⟨fun b o e n hb hx=>?_,fun b o e n hb hx=>?_,I.base.free,fun b o e hx=>?_,I.base.tups,I.base.frzs,I.base.tbls⟩,⟨_,hn',fun j y v' e1 e2 e3=>?_⟩,fun y c e=>?_,I.free,I.freeC,fun p hp=>?_,tracked ⟨oL,hoL,I.free⟩ hs,by simpa using I.len⟩ ⟨_,hs,.inl rfl⟩
  ·exact (hs.2 b (Nat.ne_of_lt (Nat.lt_of_lt_of_le (Heap.lt_size e) I.ok.above))).trans (I.base.keep b o e n hb hx)
  ·obtain ⟨sl,e1⟩:=I.base.slot b o e n hb hx
   exact ⟨sl,(hs.2 b (Nat.ne_of_lt (Nat.lt_of_lt_of_le (Heap.lt_size e) I.ok.above))).trans e1⟩
  ·obtain ⟨o',e1⟩:=I.base.there b o e hx
   exact ⟨o',(hs.2 b (Nat.ne_of_lt (Nat.lt_of_lt_of_le (Heap.lt_size e) I.ok.above))).trans e1⟩
  ·by_cases hj:j=i
   ·subst hj
    rw [hi] at e1;cases e1
    rw [List.getElem?_set_self hiσ] at e2
    cases e2
    exact ⟨u,r,.inl ⟨hk,by simp⟩⟩
   ·rw [List.getElem?_set_ne (Ne.symm hj)] at e2
    obtain ⟨u',r',q⟩:=hl j y v' e1 e2 e3
    refine ⟨u',r',?_⟩
    rcases q with ⟨k,e⟩ | ⟨k,c,e,z⟩
    ·refine .inl ⟨k,?_⟩
     have:y≠x:=fun e=>hj (i6 hN e1 (e ▸ hi))
     simp [this,e]
    ·exact .inr ⟨k,c,e,z.sameBut hs (cne y c e)⟩
  ·obtain ⟨w',z⟩:=I.cell y c e
   exact ⟨w',z.sameBut hs (cne y c e)⟩
  ·obtain ⟨e,n,ne,nf,d⟩:=I.pin p hp
   exact ⟨(hs.2 p.1 ne).trans e,n,ne,nf,d⟩
 ·have hfn:X.fn x=true:=by
   rcases hf with z | z
   ·exact z
   ·rw [z] at hk;cases hk
  obtain ⟨c,hc⟩:=I.ok.has x (.inl hk)
  obtain ⟨w',z⟩:=I.cell x c hc
  refine wpAny_storeName_cell I.ok.kind hk hc z (fun h' hc' hs=>?_)
  obtain ⟨oc,hoc,hocd⟩:=id z
  refine h {s with heap:=h'} ⟨I.ok,I.os,I.bare,⟨fun b o e n hb hx=>?_,fun b o e n hb hx=>?_,I.base.free,fun b o e hx=>?_,I.base.tups,I.base.frzs,I.base.tbls⟩,⟨m,hn.sameBut hs (Ne.symm (cne x c hc)),fun j y v' e1 e2 e3=>?_⟩,fun y c' e=>?_,I.free,I.freeC,fun p hp=>?_,tracked ⟨oc,hoc,I.freeC x c hc⟩ hs,by simpa using I.len⟩ ⟨c,hs,.inr hc⟩
  ·exact (hs.2 b (Nat.ne_of_lt (Nat.lt_of_lt_of_le (Heap.lt_size e) (I.ok.cab x c hfn hc)))).trans (I.base.keep b o e n hb hx)
  ·obtain ⟨sl,e1⟩:=I.base.slot b o e n hb hx
   exact ⟨sl,(hs.2 b (Nat.ne_of_lt (Nat.lt_of_lt_of_le (Heap.lt_size e) (I.ok.cab x c hfn hc)))).trans e1⟩
  ·obtain ⟨o',e1⟩:=I.base.there b o e hx
   exact ⟨o',(hs.2 b (Nat.ne_of_lt (Nat.lt_of_lt_of_le (Heap.lt_size e) (I.ok.cab x c hfn hc)))).trans e1⟩
  ·by_cases hj:j=i
   ·subst hj
    rw [hi] at e1;cases e1
    rw [List.getElem?_set_self hiσ] at e2
    cases e2
    exact ⟨u,r,.inr ⟨.inl hk,c,hc,hc'⟩⟩
   ·rw [List.getElem?_set_ne (Ne.symm hj)] at e2
    obtain ⟨u',r',q⟩:=hl j y v' e1 e2 e3
    refine ⟨u',r',?_⟩
    rcases q with q | ⟨k,c',e,z'⟩
    ·exact .inl q
    ·refine .inr ⟨k,c',e,z'.sameBut hs ?_⟩
     rintro rfl
     exact hj (i6 hN e1 (I.ok.inj _ _ _ e hc ▸ hi))
  ·by_cases hcc:c'=c
   ·subst hcc;exact ⟨_,hc'⟩
   ·obtain ⟨w2,z2⟩:=I.cell y c' e
    exact ⟨w2,z2.sameBut hs hcc⟩
  ·obtain ⟨e,n,ne,nf,d⟩:=I.pin p hp
   refine ⟨(hs.2 p.1 ?_).trans e,n,ne,nf,d⟩
   intro q
   rw [q,hoc] at e
   have q':oc=p.2:=Option.some.inj e
   exact d w' (by rw [<- q'];exact hocd)
theorem iH{M:Model}{A:Around}{E:Value->Shared->Prop}{i:Nat}{x:Str}{v:V}{u:Value}{Q:Unit->Shared->Prop}(I:Inv X pins σ H s)(hN:X.N.Nodup)(hi:X.N[i]?=some x)(hx:Loc X.env.scope x)(r:RelV v u)
 (h:∀s',Inv X pins (σ.set i (some v)) H s'->Q () s') (hf:X.fn x=true\/X.env.scope.names.lookup x=some .local:=by first | exact .inl rfl | exact .inr rfl | assumption):wpAny M A (storeName X.env x u) Q E s:=
 li I hN hi hx r (fun s' I' _=>h s' I') hf
theorem Inv.call'{s':Shared}{ch:List Addr}(I:Inv X pins σ H s)(ho:s'.os=s.os)(u:Un (frs X.stack) ch H H' s.heap s'.heap)(hok:HOk X.prog X.w H' s'.heap)(hg:AllBare s'.gens)
 (hch:∀b∈ch,(b∈X.ex\/X.s₀.heap.objs.size<=b)/\b≠X.env.locals/\(∀x c,X.env.cells.lookup x=some c->c≠b)/\∀p∈X.pn ++ pins,p.1≠b):Inv X pins σ H' s':=by
 obtain ⟨h',g',d',t',o'⟩:=s'
 have e:o'=s.os:=ho
 subst e
 exact I.call (g':=g') (t':=t') (d':=d') u hok hg hch
end
abbrev XK:=Value->Option Addr->Hp->Prop
abbrev St:=List (Option V)
abbrev VK:=V->Hp->Prop
abbrev TE:=St->Hp->VK->Prop
abbrev TT:=St->Hp->(Bool->Hp->Prop)->Prop
abbrev TA:=St->Hp->(List V->Hp->Prop)->Prop
structure bO where
 nx:St->Hp->Prop
 rt:VK
 bk:St->Hp->Prop:=fun _ _=>False
 ct:St->Hp->Prop:=fun _ _=>False
abbrev TS:=bO->St->Hp->Prop
def EP(X:Cx)(pins:List (Addr×Obj))(σ:St)(Q:VK)(u:Value)(s':Shared):Prop:=∃v H',Inv X pins σ H' s'/\RelV v u/\Q v H'
def TP(X:Cx)(pins:List (Addr×Obj))(σ:St)(Q:Bool->Hp->Prop)(b:Bool)(s':Shared):Prop:=∃H',Inv X pins σ H' s'/\Q b H'
def AP(X:Cx)(pins:List (Addr×Obj))(σ:St)(Q:List V->Hp->Prop)(us:List Value)(s':Shared):Prop:=∃vs H',Inv X pins σ H' s'/\Vals vs us/\Q vs H'
def SP(X:Cx)(pins:List (Addr×Obj))(D:bO)(f:Flow)(s':Shared):Prop:=
 match f with
 | .next=>∃σ' H',Inv X pins σ' H' s'/\D.nx σ' H'
 | .brk=>∃σ' H',Inv X pins σ' H' s'/\D.bk σ' H'
 | .cont=>∃σ' H',Inv X pins σ' H' s'/\D.ct σ' H'
 | .ret u=>∃v σ' H',Inv X pins σ' H' s'/\RelV v u/\D.rt v H'
def PE(X:Cx)(e:Expr)(t:TE):Prop:=
 ∀(pins:List (Addr×Obj)) (s:Shared) (σ:St) (H:Hp) (Q:VK),Inv X pins σ H s->t σ H Q->wpAny (model X.prog X.w) X.A (eval e X.env) (EP X pins σ Q) X.xe s
def PT(X:Cx)(e:Expr)(t:TT):Prop:=
 ∀(pins:List (Addr×Obj)) (s:Shared) (σ:St) (H:Hp) (Q:Bool->Hp->Prop),Inv X pins σ H s->t σ H Q->wpAny (model X.prog X.w) X.A (isTrue e X.env (eval e X.env)) (TP X pins σ Q) X.xe s
def PW(X:Cx)(e:Expr)(t:TT):Prop:=
 ∀(whole:Sem Value)(pins:List (Addr×Obj)) (s:Shared) (σ:St) (H:Hp) (Q:Bool->Hp->Prop),Inv X pins σ H s->t σ H Q->wpAny (model X.prog X.w) X.A (isTrue e X.env whole) (TP X pins σ Q) X.xe s
theorem PW.pt{X:Cx}{e:Expr}{t:TT}(h:PW X e t):PT X e t:=h _
def PA(X:Cx)(es:List Expr)(t:TA):Prop:=
 ∀(pos:Pos)(pins:List (Addr×Obj)) (s:Shared) (σ:St) (H:Hp) (Q:List V->Hp->Prop),Inv X pins σ H s->t σ H Q->wpAny (model X.prog X.w) X.A (spliced (backTo pos (starEach es X.env))) (AP X pins σ Q) X.xe s
def PS(X:Cx)(st:Stmt)(t:TS):Prop:=
 ∀(pins:List (Addr×Obj)) (s:Shared) (σ:St) (H:Hp) (D:bO),Inv X pins σ H s->t D σ H->wpAny (model X.prog X.w) X.A (exec st X.env) (SP X pins D) X.xe s
def PSs(X:Cx)(st:List Stmt)(t:TS):Prop:=
 ∀(pins:List (Addr×Obj)) (s:Shared) (σ:St) (H:Hp) (D:bO),Inv X pins σ H s->t D σ H->wpAny (model X.prog X.w) X.A (execs st X.env) (SP X pins D) X.xe s
theorem thn{α:Type}{t:Sem α}{Q Q':α->Shared->Prop}{M:Model}{A:Around}{E:Value->Shared->Prop}{s:Shared}(h:wpAny M A t Q E s)(hQ:∀a s,Q a s->Q' a s):wpAny M A t Q' E s:=wpAny_mono h hQ fun _ _ x=>x
end L2
variable {t:TE} {u:Value}
namespace L2
open PySem PySem.Spec PyProof.Rows
section
variable {X:Cx}
theorem bin{a b:Expr}{ta tb:TE}(ha:PE X a ta)(hb:PE X b tb){pins:List (Addr×Obj)}{s:Shared}{σ:St}{H:Hp}{R:V->V->Hp->Prop}(I:Inv X pins σ H s)(h:ta σ H fun x H1=>tb σ H1 fun y H2=>R x y H2)
  {α:Type} {Q:α->Shared->Prop} {f:Value->Value->Sem α}
  (hf:∀v u s2 x y H2,Inv X pins σ H2 s2->RelV x v->RelV y u->R x y H2->wpAny (model X.prog X.w) X.A (f v u) Q X.xe s2) :
  wpAny (model X.prog X.w) X.A (eval a X.env) (fun v s₁=>wpAny (model X.prog X.w) X.A (eval b X.env) (fun u s₂=>wpAny (model X.prog X.w) X.A (f v u) Q X.xe s₂) X.xe s₁) X.xe s:=by
 refine thn (ha pins s σ H _ I h) fun v s1 hhx=>?_
 obtain ⟨x,H1,I1,r1,q1⟩:=hhx
 refine thn (hb pins s1 σ H1 _ I1 q1) fun u s2 hhx=>?_
 obtain ⟨y,H2,I2,r2,q2⟩:=hhx
 exact hf v u s2 x y H2 I2 r1 r2 q2
def ue(i:Nat):TE:=fun σ H Q=>∃v,σ[i]?=some (some v)/\Q v H
def tC(v:V):TE:=fun _ H Q=>Q v H
theorem tz{i:Nat}{x:Str}{pos:Pos}(hN:X.N[i]?=some x)(hv:Vis X.env.scope x)(hd:(x == ("__debug__":Str))=false:=by decide) (hcd:(x == ("__classdict__":Str))=false:=by decide):PE X (.Name x pos) (ue i):=by
 intro pins s σ H Q I h
 obtain ⟨v,e,h⟩:=h
 obtain ⟨m,hn,hl⟩:=I.loc
 obtain ⟨u,r,l⟩:=hl i x v hN e hv
 have fin:EP X pins σ Q u s:=⟨v,H,I,r,h⟩
 rcases l with ⟨hk,hm⟩ | ⟨hk,c,hc,hcell⟩
 ·exact wpAny_Name (wpAny_loadName_local I.ok.kind hk hn hm fin) hd
 ·rcases hk with hk | hk
  ·exact wpAny_Name (wpAny_loadName_cell I.ok.kind hk hc hcell fin) hd
  ·exact wpAny_Name (wpAny_loadName_free I.ok.kind hk hc hcell fin hcd) hd
theorem ng{i j pos}:PE X (.Constant (.int i) j pos) (tC (.int i)):=fun _ _ _ H _ I h=>wpAny_Constant_int ⟨.int i,H,I.tok _,⟨_,rfl⟩,h⟩
theorem qX{b j pos}:PE X (.Constant (.bool b) j pos) (tC (.bl b)):=fun _ _ _ H _ I h=>Constant_bool ⟨.bl b,H,I,rfl,h⟩
theorem ni{j pos}:PE X (.Constant .none j pos) (tC .non):=fun _ _ _ H _ I h=>Constant_none ⟨.non,H,I,rfl,h⟩
theorem nk{x j pos}:PE X (.Constant (.str x) j pos) (tC (.str x)):=fun _ _ _ H _ I h=>Calls.Constant_str ⟨.str x,H,I.tok _,⟨_,rfl⟩,h⟩
def Gl(X:Cx)(x:Str):Prop:=X.env.kindOf x=some .globalImplicit
theorem jC{E:Value->Shared->Prop}{pins:List (Addr×Obj)}{s:Shared}{σ:St}{H:Hp}{x:Str}{u:Value}{pos:Pos}{Q:Value->Shared->Prop}(I:Inv X pins σ H s)(hg:Gl X x)(hm:X.mg x=some u)(h:Q u s)
 (hd:(x == ("__debug__":Str))=false:=by decide):wpAny (model X.prog X.w) X.A (eval (.Name x pos) X.env) Q E s:=
 Calls.Name_function_global I.ok.kind hg (Calls.loadGlobal_global (by rw [I.ok.glob];exact I.mod.glob.keeps I.bk) hm h) hd
theorem eS{E:Value->Shared->Prop}{pins:List (Addr×Obj)}{s:Shared}{σ:St}{H:Hp}{x:Str}{u:Value}{pos:Pos}{Q:Value->Shared->Prop}(I:Inv X pins σ H s)(hg:Gl X x)(hm:X.mg x=none)(hv:bootBuiltins x=some u)(h:Q u s)
 (hn:x≠"__name__":=by decide) (hd:(x == ("__debug__":Str))=false:=by decide):wpAny (model X.prog X.w) X.A (eval (.Name x pos) X.env) Q E s:=by
 obtain ⟨mb,h1,h2⟩:=I.mod.blt
 exact Calls.Name_function_global I.ok.kind hg (Calls.loadGlobal_builtin (by rw [I.ok.glob];exact I.mod.glob.keeps I.bk) hm (by rw [I.ok.blt];exact h1.keeps I.bk) ((h2 x hn).trans hv) h) hd
theorem qa{x:Str}{v:V}{pos:Pos}(hg:Gl X x)(hm:X.mg x=none)(hv:bootBuiltins x=some u)(r:RelV v u)(hn:x≠"__name__":=by decide) (hd:(x == ("__debug__":Str))=false:=by decide):PE X (.Name x pos) (tC v):=
 fun _ _ _ H _ I h=>eS I hg hm hv ⟨v,H,I,r,h⟩ hn hd
variable {a b:Expr} {ta tb:TE} {pos:Pos}
def PC(X:Cx)(op:CmpOp)(a b:Expr)(t:TE):Prop:=
 ∀(pins:List (Addr×Obj)) (s:Shared) (σ:St) (H:Hp) (Q:VK),Inv X pins σ H s->t σ H Q->
  wpAny (model X.prog X.w) X.A (eval a X.env) (fun v s₁=>wpAny (model X.prog X.w) X.A (eval b X.env) (fun u s₂=>wpAny (model X.prog X.w) X.A (compareOp op v u) (EP X pins σ Q) X.xe s₂) X.xe s₁) X.xe s
theorem mB(b:Expr){op:CmpOp}(h:op≠.In)(h2:op≠.NotIn):behindInMarks op b=false:=by
 have e1:(op == CmpOp.In)=false:=by cases op <;> first | rfl | exact absurd rfl h
 have e2:(op == CmpOp.NotIn)=false:=by cases op <;> first | rfl | exact absurd rfl h2
 cases b <;> simp [behindInMarks,e1,e2]
def tB(t:TE):TT:=fun σ H Q=>t σ H fun x H1=>∃c,x=.bl c/\Q c H1
theorem vI{op:CmpOp}(h:PC X op a b t)(h1:behindInMarks op b=false:=by first | exact mB _ (by decide) (by decide) | rfl):PT X (.Compare a [op] [b] pos) (tB t):=by
 intro pins s σ H Q I hw
 refine wpAny_isTrue_Compare1 (thn (h pins s σ H _ I hw) fun v s1 h1=>thn h1 fun u s2 h2=>thn h2 fun c s3 hhx=>?_) h1
 obtain ⟨x,H1,I1,r1,q1⟩:=hhx
 obtain ⟨d,rfl,q⟩:=q1
 cases r1
 exact wpAny_truthy_bool ⟨H1,I1,q⟩
theorem tQ{e:Expr}(h:PE X e t)(he:∀whole,isTrue e X.env whole=(do let v <- whole;standAt e.pos;holding [v] (truthy v)):=by intro _;rfl):PT X e (tB t):=by
 intro pins s σ H Q I hw
 refine isTrue_plain (thn (h pins s σ H _ I hw) fun v s1 hhx=>?_) (he _)
 obtain ⟨x,H1,I1,r1,q1⟩:=hhx
 obtain ⟨d,rfl,q⟩:=q1
 cases r1
 exact wpAny_truthy_bool ⟨H1,I1,q⟩
variable {tA tB':TT} {bQ:List Expr}
def u3(t u:TT):TT:=fun σ H Q=>t σ H fun c H1=>if c=true then u σ H1 Q else Q false H1
def tOr(t u:TT):TT:=fun σ H Q=>t σ H fun c H1=>if c=true then Q true H1 else u σ H1 Q
def ua(t:TT):TT:=fun σ H Q=>t σ H fun c H1=>Q (!c) H1
theorem qt(ha:PT X a tA):PW X (.BoolOp .And [a] pos) tA:=by
 intro wh pins s σ H Q I h
 refine isTrue_and (thn (ha pins s σ H Q I h) fun c s1 e=>?_)
 cases c with
 | true=>exact isTrue_and_nil e
 | false=>exact e
theorem tU(ha:PT X a tA):PW X (.BoolOp .Or [a] pos) tA:=by
 intro wh pins s σ H Q I h
 refine isTrue_or (thn (ha pins s σ H Q I h) fun c s1 e=>?_)
 cases c with
 | false=>exact isTrue_or_nil e
 | true=>exact e
theorem tS(ha:PT X a tA)(hb:PW X (.BoolOp .And (b :: bQ) pos) tB'):PW X (.BoolOp .And (a :: b :: bQ) pos) (u3 tA tB'):=by
 intro wh pins s σ H Q I h
 refine isTrue_and (thn (ha pins s σ H _ I h) fun c s1 hhx=>?_)
 obtain ⟨H1,I1,q1⟩:=hhx
 cases c with
 | true=>exact hb wh pins s1 σ H1 Q I1 q1
 | false=>exact ⟨H1,I1,q1⟩
theorem uG(ha:PT X a tA)(hb:PW X (.BoolOp .Or (b :: bQ) pos) tB'):PW X (.BoolOp .Or (a :: b :: bQ) pos) (tOr tA tB'):=by
 intro wh pins s σ H Q I h
 refine isTrue_or (thn (ha pins s σ H _ I h) fun c s1 hhx=>?_)
 obtain ⟨H1,I1,q1⟩:=hhx
 cases c with
 | true=>exact ⟨H1,I1,q1⟩
 | false=>exact hb wh pins s1 σ H1 Q I1 q1
theorem tP(ha:PT X a tA):PT X (.UnaryOp .Not a pos) (ua tA):=by
 intro pins s σ H Q I h
 exact isTrue_not (ha pins s σ H (fun c H1=>Q (!c) H1) I h)
def oR(ta tb:TE):TE:=fun σ H Q=>ta σ H fun x H1=>∃c,x=.bl c/\if c=true then tb σ H1 Q else Q (.bl false) H1
def oX(ta:TE):TE:=fun σ H Q=>ta σ H fun x H1=>∃c,x=.bl c/\Q (.bl (!c)) H1
theorem tq{op}(h:PE X a t):PE X (.BoolOp op [a] pos) t:=fun pins s σ H Q I hw=>BoolOp_one (h pins s σ H Q I hw)
theorem t8(ha:PE X a ta)(hb:PE X (.BoolOp .And (b :: bQ) pos) tb):PE X (.BoolOp .And (a :: b :: bQ) pos) (oR ta tb):=by
 intro pins s σ H Q I h
 refine BoolOp_and (thn (ha pins s σ H _ I h) fun v s1 hhx=>?_)
 obtain ⟨x,H1,I1,r1,q1⟩:=hhx
 obtain ⟨c,rfl,q1⟩:=q1
 cases r1
 refine wpAny_truthy_bool ?_
 cases c with
 | true=>exact hb pins s1 σ H1 Q I1 q1
 | false=>exact ⟨.bl false,H1,I1,rfl,q1⟩
theorem tm(ha:PE X a ta):PE X (.UnaryOp .Not a pos) (oX ta):=by
 intro pins s σ H Q I h
 refine UnaryOp_ (thn (ha pins s σ H _ I h) fun v s1 hhx=>?_)
 obtain ⟨x,H1,I1,r1,q1⟩:=hhx
 obtain ⟨c,rfl,q1⟩:=q1
 cases r1
 exact not_of (wpAny_truthy_bool ⟨.bl (!c),H1,I1,rfl,q1⟩)
def tIf(t:TT)(ta tb:TE):TE:=fun σ H Q=>t σ H fun c H1=>if c=true then ta σ H1 Q else tb σ H1 Q
theorem nc{c:Expr}(hc:PT X c tA)(ha:PE X a ta)(hb:PE X b tb):PE X (.IfExp c a b pos) (tIf tA ta tb):=by
 intro pins s σ H Q I h
 refine wpAny_IfExp (thn (hc pins s σ H _ I h) fun d s1 hhx=>?_)
 obtain ⟨H1,I1,q1⟩:=hhx
 cases d with
 | true=>exact ha pins s1 σ H1 Q I1 q1
 | false=>exact hb pins s1 σ H1 Q I1 q1
end
end L2
variable {P:Program} {X:Cx} {u:Value}
namespace L2
open PySem PySem.Spec PyProof.Rows
def SqL(K:PySem.W.Frag)(H:Hp)(a:Addr)(xs:List V):Prop:=
 Rd H a (.lst xs)\/
  ∃(o:Obj)(its:Array Value)(n:Nat),K.lookup a=some o/\o.cls=.type "list"/\o.dict=none/\o.data=.seq its n/\its.size<=sizeLine/\Vals xs its.toList
def SqT(K:PySem.W.Frag)(H:Hp)(a:Addr)(xs:List V):Prop:=
 Rd H a (.tup xs)\/
  ∃(o:Obj)(its:Array Value)(n:Nat),K.lookup a=some o/\o.cls=.type "tuple"/\o.data=.seq its n/\its.size<=sizeLine/\Vals xs its.toList
def vD:Value->Option V
 | .none=>some .non
 | .bool b=>some (.bl b)
 | .int i _=>some (.int i)
 | .str x _=>some (.str x)
 | .bytes b _=>some (.byt b)
 | .float b _=>some (.flt b)
 | .ref a=>some (.ref a)
 | .type n=>some (.ty n)
 | _=>none
theorem RelV.abs{x:V}(r:RelV x u):vD u=some x:=by
 cases x with
 | non=>cases r;rfl
 | bl _=>cases r;rfl
 | int _=>obtain ⟨t,rfl⟩:=r;rfl
 | str _=>obtain ⟨t,rfl⟩:=r;rfl
 | byt _=>obtain ⟨t,rfl⟩:=r;rfl
 | flt _=>obtain ⟨t,rfl⟩:=r;rfl
 | ref _=>cases r;rfl
 | ty _=>cases r;rfl
theorem RelV.inj{x y:V}(r:RelV x u)(q:RelV y u):x=y:=Option.some.inj (r.abs.symm.trans q.abs)
theorem Vals.inj:∀{xs ys:List V} {us:List Value},Vals xs us->Vals ys us->xs=ys
 | _,_,_,.nil,.nil=>rfl
 | _,_,_,.cons r t,.cons r' t'=>by rw [r.inj r',Vals.inj t t']
section
variable {X:Cx} {pins:List (Addr×Obj)} {σ:St} {H:Hp} {s:Shared} {a:Addr} {xs ys:List V}
theorem SqL.of{K:PySem.W.Frag}(h:H a=some (.lst xs)):SqL K H a xs:=.inl (.inl h)
theorem SqT.of{K:PySem.W.Frag}(h:H a=some (.tup xs)):SqT K H a xs:=.inl (.inl h)
theorem Inv.list(I:Inv X pins σ H s)(h:SqL X.K H a xs):∃its:List Value,Vals xs its/\PlainL s.heap a its.toArray/\xs.length<=sizeLine:=by
 rcases h with h | ⟨o,its,n,hk,hc,hd,hs,hz,r⟩
 ·obtain ⟨z,its,n,r,e⟩:=h.ok I.hok
  exact ⟨its,r,⟨_,n,e,rfl,rfl,rfl⟩,z⟩
 ·refine ⟨its.toList,r,⟨o,n,I.kIn a o hk,hc,hd,by simpa using hs⟩,?_⟩
  have e:=r.length
  simp only [Array.length_toList] at e
  omega
theorem Inv.tuple(I:Inv X pins σ H s)(h:SqT X.K H a xs):∃its:List Value,Vals xs its/\IsTup s.heap a its.toArray/\xs.length<=sizeLine:=by
 rcases h with h | ⟨o,its,n,hk,hc,hs,hz,r⟩
 ·obtain ⟨z,its,r,p⟩:=h.ok I.hok
  exact ⟨its,r,p,z⟩
 ·refine ⟨its.toList,r,⟨o,I.kIn a o hk,hc,n,by simpa using hs⟩,?_⟩
  have e:=r.length
  simp only [Array.length_toList] at e
  omega
theorem Inv.list_inj(I:Inv X pins σ H s)(h:SqL X.K H a xs)(h':SqL X.K H a ys):xs=ys:=by
 obtain ⟨its,r,⟨o,n,e,_,_,d⟩,_⟩:=I.list h
 obtain ⟨its',r',⟨o',n',e',_,_,d'⟩,_⟩:=I.list h'
 rw [e] at e';cases e'
 rw [d] at d'
 injection d' with d1 _
 have:its=its':=by simpa using congrArg Array.toList d1
 subst this
 exact r.inj r'
theorem Inv.tuple_inj(I:Inv X pins σ H s)(h:SqT X.K H a xs)(h':SqT X.K H a ys):xs=ys:=by
 obtain ⟨its,r,⟨o,e,_,n,d⟩,_⟩:=I.tuple h
 obtain ⟨its',r',⟨o',e',_,n',d'⟩,_⟩:=I.tuple h'
 rw [e] at e';cases e'
 rw [d] at d'
 injection d' with d1 _
 have:its=its':=by simpa using congrArg Array.toList d1
 subst this
 exact r.inj r'
end
abbrev Cx.wish (X:Cx) (E:Value->Shared->Prop):Cx:={X with xe:=E}
abbrev Cx.nox (X:Cx):Cx:=X.wish fun _ _=>False
theorem Cx.Ok.wish(ok:X.Ok)(E:Value->Shared->Prop):(X.wish E).Ok:=
 ⟨ok.mod,ok.kind,ok.glob,ok.blt,ok.above,ok.inj,ok.has,ok.cab,ok.hd,ok.frames,ok.stk,ok.exf,ok.bs,ok.bsz,ok.noex,ok.exfs,ok.funs,ok.frf⟩
theorem Cx.Ok.unwish{E:Value->Shared->Prop}(ok:(X.wish E).Ok):X.Ok:=
 ⟨ok.mod,ok.kind,ok.glob,ok.blt,ok.above,ok.inj,ok.has,ok.cab,ok.hd,ok.frames,ok.stk,ok.exf,ok.bs,ok.bsz,ok.noex,ok.exfs,ok.funs,ok.frf⟩
section
variable {X:Cx} {pins:List (Addr×Obj)} {σ:St} {H:Hp} {s:Shared} {E:Value->Shared->Prop}
theorem Inv.wish(I:Inv X pins σ H s)(E:Value->Shared->Prop):Inv (X.wish E) pins σ H s:=⟨I.ok.wish E,I.os,I.bare,I.base,I.loc,I.cell,I.free,I.freeC,I.pin,I.hok,I.len⟩
theorem Inv.unwish(I:Inv (X.wish E) pins σ H s):Inv X pins σ H s:=⟨I.ok.unwish,I.os,I.bare,I.base,I.loc,I.cell,I.free,I.freeC,I.pin,I.hok,I.len⟩
theorem SP.unwish{D:bO}{f:Flow}{s':Shared}(h:SP (X.wish E) pins D f s'):SP X pins D f s':=by
 cases f with
 | next=>obtain ⟨σ',H',I,q⟩:=h;exact ⟨σ',H',I.unwish,q⟩
 | brk=>obtain ⟨σ',H',I,q⟩:=h;exact ⟨σ',H',I.unwish,q⟩
 | cont=>obtain ⟨σ',H',I,q⟩:=h;exact ⟨σ',H',I.unwish,q⟩
 | ret u=>obtain ⟨v,σ',H',I,r,q⟩:=h;exact ⟨v,σ',H',I.unwish,r,q⟩
theorem PSs.nox{st:List Stmt}{t:TS}(h:PSs X.nox st t):PSs X st t:=fun pins s σ H D I hw=>
 wpAny_mono (h pins s σ H D (I.wish _) hw) (fun _ _ q=>q.unwish) fun _ _ z=>False.elim z
end
section
variable {X:Cx} {st:Stmt} {bQ:List Stmt} {t u:TS} {e:Expr} {te:TE} {pos:Pos}
def oW:TS:=fun D σ H=>D.nx σ H
def qJ(t u:TS):TS:=fun D σ H=>t {D with nx:=u D} σ H
theorem qp:PSs X [] oW:=fun _ _ σ H _ I h=>wpAny_execs_nil ⟨σ,H,I,h⟩
theorem nw(h1:PS X st t)(h2:PSs X bQ u):PSs X (st :: bQ) (qJ t u):=by
 intro pins s σ H D I h
 refine wpAny_execs_cons (thn (h1 pins s σ H {D with nx:=u D} I h) fun f s1 q=>?_)
 cases f with
 | next=>
  obtain ⟨σ',H',I',q⟩:=q
  exact h2 pins s1 σ' H' D I' q
 | ret v=>exact q
 | brk=>exact q
 | cont=>exact q
theorem qq(h1:PS X st t):PSs X [st] t:=by
 intro pins s σ H D I h
 refine wpAny_execs_cons (thn (h1 pins s σ H D I h) fun f s1 q=>?_)
 cases f with
 | next=>exact wpAny_execs_nil q
 | ret v=>exact q
 | brk=>exact q
 | cont=>exact q
theorem Inv.quiet{pins:List (Addr×Obj)}{σ:St}{H:Hp}{s:Shared}(I:Inv X pins σ H s):interactive X.env=false:=by simp [interactive,I.ok.kind]
def oV(te:TE):TS:=fun D σ H=>te σ H fun _ H1=>D.nx σ H1
theorem qm(he:PE X e te)(hs:swapsWith e none pos.line X.env=pure false:=by rfl):PS X (.Expr e pos) (oV te):=by
 intro pins s σ H D I h
 exact wpAny_Expr_any (thn (he pins s σ H _ I h) fun v s1 ⟨x,H1,I1,r1,q1⟩=>⟨σ,H1,I1,q1⟩) I.quiet hs
def uc(te:TE):TS:=fun D σ H=>te σ H D.rt
theorem tN(he:PE X e te):PS X (.Return (some e) pos) (uc te):=by
 intro pins s σ H D I h
 exact wpAny_Return_some (thn (he pins s σ H _ I h) fun v s1 ⟨x,H1,I1,r1,q1⟩=>⟨x,σ,H1,I1,r1,q1⟩)
def u8(c:TT)(t u:TS):TS:=fun D σ H=>c σ H fun b H1=>if b=true then t D σ H1 else u D σ H1
theorem uF{c:Expr}{a b:List Stmt}{tc:TT}(hc:PT X c tc)(ha:PSs X a t)(hb:PSs X b u):PS X (.If c a b pos) (u8 tc t u):=by
 intro pins s σ H D I h
 refine wpAny_If (thn (hc pins s σ H _ I h) fun d s1 hhx=>?_)
 obtain ⟨H1,I1,q1⟩:=hhx
 cases d with
 | true=>exact ha pins s1 σ H1 D I1 q1
 | false=>exact hb pins s1 σ H1 D I1 q1
end
abbrev TG:=V->St->Hp->(St->Hp->Prop)->Prop
abbrev TGs:=List V->St->Hp->(St->Hp->Prop)->Prop
def PG(X:Cx)(target:Expr)(t:TG):Prop:=
 ∀(pins:List (Addr×Obj)) (s:Shared) (σ:St) (H:Hp) (v:V) (u:Value) (Q:St->Hp->Prop),Inv X pins σ H s->RelV v u->t v σ H Q->
  wpAny (model X.prog X.w) X.A (assign target X.env u) (fun _ s'=>∃σ' H',Inv X pins σ' H' s'/\Q σ' H') X.xe s
def PGs(X:Cx)(ts:List Expr)(t:TGs):Prop:=
 ∀(pins:List (Addr×Obj)) (s:Shared) (σ:St) (H:Hp) (vs:List V) (us:List Value) (Q:St->Hp->Prop),Inv X pins σ H s->Vals vs us->t vs σ H Q->
  wpAny (model X.prog X.w) X.A (assignInOrder ((assignEach ts X.env).map (·.2)) us) (fun _ s'=>∃σ' H',Inv X pins σ' H' s'/\Q σ' H') X.xe s
abbrev lD:=V->V->V->Hp->(Hp->Prop)->Prop
def sk(X:Cx)(t:lD):Prop:=
 ∀(pins:List (Addr×Obj)) (s:Shared) (σ:St) (H:Hp) (o i v:V) (ov iv u:Value) (Q:Hp->Prop),Inv X pins σ H s->RelV o ov->RelV i iv->RelV v u->t o i v H Q->
  wpAny (model X.prog X.w) X.A (setItem ov iv u) (fun _ s'=>∃H',Inv X pins σ H' s'/\Q H') X.xe s
section
variable {X:Cx} {pos:Pos}
def aS(i:Nat):TG:=fun v σ H Q=>Q (σ.set i (some v)) H
theorem jI{i:Nat}{x:Str}(hN:X.N.Nodup)(hi:X.N[i]?=some x)(hx:Loc X.env.scope x)(hf:X.fn x=true\/X.env.scope.names.lookup x=some .local:=by first | exact .inl rfl | exact .inr rfl | assumption):PG X (.Name x pos) (aS i):=by
 intro pins s σ H v u Q I r h
 exact wpAny_assign_Name (iH I hN hi hx r (fun s' I'=>⟨_,H,I',h⟩) hf)
def sw:TGs:=fun vs σ H Q=>vs=[]/\Q σ H
def lX(t:TG)(u:TGs):TGs:=fun vs σ H Q=>∃v r,vs=v :: r/\t v σ H fun σ' H'=>u r σ' H' Q
theorem qg:PGs X [] sw:=by
 intro pins s σ H vs us Q I r h
 obtain ⟨e,h⟩:=h
 subst e
 cases r
 exact assignInOrder_nil ⟨σ,H,I,h⟩
theorem nn{e:Expr}{es:List Expr}{t:TG}{u:TGs}(h1:PG X e t)(h2:PGs X es u)
 (hs:(assignEach (e :: es) X.env).map (·.2)=assign e X.env :: (assignEach es X.env).map (·.2):=by rfl):PGs X (e :: es) (lX t u):=by
 intro pins s σ H vs us Q I r h
 obtain ⟨v,vr,e1,h⟩:=h
 subst e1
 cases r with
 | cons r rr=>
  rw [hs]
  refine assignInOrder_cons (thn (h1 pins s σ H _ _ _ I r h) fun _ s1 hhx=>?_)
  obtain ⟨σ1,H1,I1,q1⟩:=hhx
  exact h2 pins s1 σ1 H1 _ _ Q I1 rr q1
def sB(K:PySem.W.Frag)(n:Nat)(t:TGs):TG:=fun v σ H Q=>∃a xs,v=.ref a/\SqT K H a xs/\xs.length=n/\t xs σ H Q
theorem tG{es:List Expr}{k:Nat}{t:TGs}{n:Nat}(hc:X.calm=true)(h:PGs X es t)
 (hn:(assignEach es X.env).length=n:=by rfl) (hst:(assignEach es X.env).findIdx? (·.1)=none:=by rfl):PG X (.Tuple es k pos) (sB X.K n t):=by
 intro pins s σ H v u Q I r hw
 obtain ⟨a,xs,e1,hq,hl,hw⟩:=hw
 subst e1
 cases r
 obtain ⟨its,rv,ht,hz⟩:=I.tuple hq
 refine assign_Tuple_tuple (I.ok.hd hc) ht (by simp [hn,<- hl,rv.length]) hst fun h' hx=>?_
 have I1:Inv X pins σ H {s with heap:=h'}:=I.kept (t':=s.toks) fun b o e=>hx b o (Nat.ne_of_lt (Heap.lt_size e)) e
 exact h pins _ σ H xs _ Q I1 (by simpa using rv) hw
def sy(to ti:TE)(t:lD):TG:=fun v σ H Q=>to σ H fun o H1=>ti σ H1 fun i H2=>t o i v H2 fun H3=>Q σ H3
theorem tF{o i:Expr}{to ti:TE}{t:lD}(ho:PE X o to)(hi:PE X i ti)(hs:sk X t)
 (ha:∀v,assign (.Subscript o i pos) X.env v=(do
 let ov <- holding [v] (eval o X.env)
 let iv <- holding [v,ov] (eval i X.env)
 standAt pos
 holding [v,ov,iv] (setItem ov iv v)
 release [v,ov,iv] []):=by intro _;rfl):PG X (.Subscript o i pos) (sy to ti t):=by
 intro pins s σ H v u Q I r h
 rw [ha]
 refine wpAny_bind (wpAny_holding (thn (ho pins s σ H _ I h) fun ov s1 hhx=>?_))
 obtain ⟨x,H1,I1,r1,q1⟩:=hhx
 refine wpAny_bind (wpAny_holding (thn (hi pins s1 σ H1 _ I1 q1) fun iv s2 hhx=>?_))
 obtain ⟨y,H2,I2,r2,q2⟩:=hhx
 refine wpAny_bind (wpAny_standAt (wpAny_bind (wpAny_holding (thn (hs pins s2 σ H2 x y v ov iv u _ I2 r1 r2 r q2) fun _ s3 hhx=>?_))))
 obtain ⟨H3,I3,q3⟩:=hhx
 exact wpAny_release ⟨σ,H3,I3,q3⟩
def oS(te:TE)(g:TG):TS:=fun D σ H=>te σ H fun x H1=>g x σ H1 D.nx
theorem tK{tg e:Expr}{te:TE}{g:TG}(he:PE X e te)(hg:PG X tg g)(hs:swapsWithSole [tg] e pos.line X.env=pure false:=by rfl)(hw:swappedStores [tg] e X.env=pure none:=by rfl)
 (h1:(assignEach [tg] X.env).map (·.2)=[assign tg X.env]:=by rfl):PS X (.Assign [tg] e pos) (oS te g):=by
 intro pins s σ H D I h
 refine wpAny_Assign_stores (thn (he pins s σ H _ I h) fun v s1 hhx=>?_) hs hw
 obtain ⟨x,H1,I1,r1,q1⟩:=hhx
 rw [h1]
 exact thn (hg pins s1 σ H1 x v _ I1 r1 q1) fun _ s2 q=>q
theorem tO{i:Nat}{x:Str}{e:Expr}{te:TE}{pos':Pos}(hN:X.N.Nodup)(hi:X.N[i]?=some x)(hx:Loc X.env.scope x)(he:PE X e te)(hs:swapsWith e (some (.Name x pos')) pos.line X.env=pure false:=by rfl)(hf:X.fn x=true\/X.env.scope.names.lookup x=some .local:=by first | exact .inl rfl | exact .inr rfl | assumption):
  PS X (.Assign [.Name x pos'] e pos) (oS te (aS i)):=by
 intro pins s σ H D I h
 refine wpAny_Assign_Name (thn (he pins s σ H _ I h) fun v s1 hhx=>?_) hs
 obtain ⟨y,H1,I1,r1,q1⟩:=hhx
 exact iH I1 hN hi hx r1 (fun s2 I2=>⟨_,H1,I2,q1⟩) hf
end
section
variable {X:Cx} {pos:Pos}
def jh(c:TT)(tb:TS):TS:=fun D σ H=>∃W:Nat->St->Hp->Prop,(∃m,W m σ H)/\∀m σ H,W m σ H->
 c σ H fun b H1=>if b=true then ∃N:St->Hp->Prop,(∀σ' H',N σ' H'->∃m',m' < m/\W m' σ' H')/\tb {D with nx:=N,ct:=N,bk:=D.nx} σ H1 else D.nx σ H1
theorem nv{c:Expr}{body:List Stmt}{tc:TT}{tb:TS}(hp:PassesOwn (model X.prog X.w) X.A X.env X.xe)(hc:PT X c tc)(hb:PSs X body tb):PS X (.While c body [] pos) (jh tc tb):=by
 intro pins s σ H D I h
 obtain ⟨W,⟨m0,w0⟩,turn⟩:=h
 refine wpAny_While (codeAny_whileLoop (fun n s'=>∃σ' H',Inv X pins σ' H' s'/\W n σ' H') ?_ m0 ⟨σ,H,I,w0⟩)
 rintro n s1 ⟨σ1,H1,I1,w1⟩
 refine wpAny_passesOwn hp (thn (hc pins s1 σ1 H1 _ I1 (turn n σ1 H1 w1)) fun b s2 hhx=>?_)
 obtain ⟨H2,I2,q2⟩:=hhx
 cases b with
 | true=>
  obtain ⟨N,hN,q2⟩:=q2
  rw [if_pos rfl]
  refine wpAny_passesOwn hp (thn (hb pins s2 σ1 H2 _ I2 q2) fun f s3 q3=>?_)
  cases f with
  | next=>
   obtain ⟨σ3,H3,I3,n3⟩:=q3
   obtain ⟨m',hm,w3⟩:=hN σ3 H3 n3
   exact ⟨m',hm,σ3,H3,I3,w3⟩
  | cont=>
   obtain ⟨σ3,H3,I3,n3⟩:=q3
   obtain ⟨m',hm,w3⟩:=hN σ3 H3 n3
   exact ⟨m',hm,σ3,H3,I3,w3⟩
  | brk=>exact q3
  | ret v=>exact q3
 | false=>
  rw [if_neg Bool.false_ne_true]
  exact wpAny_execs_nil ⟨σ1,H2,I2,q2⟩
end
structure It where
 go:Nat->Hp->Prop
 yld:Nat->Hp->V->Hp->Prop
 stop:Nat->Hp->Prop
def gk(X:Cx)(pins:List (Addr×Obj))(H:Hp)(b:Addr):Prop:=
 H b=none/\b≠X.env.locals/\b∉X.fs/\(b∈X.ex\/X.s₀.heap.objs.size<=b)/\(∀x c,X.env.cells.lookup x=some c->c≠b)/\∀p∈X.pn ++ pins,p.1≠b
theorem Inv.fpOk{X:Cx}{pins:List (Addr×Obj)}{σ:St}{H H':Hp}{s:Shared}{b:Addr}(I:Inv X pins σ H s)(hb:s.heap.objs.size<=b)(hn:H' b=none):gk X pins H' b:=by
 refine ⟨hn,Nat.ne_of_gt (Nat.lt_of_lt_of_le I.lt hb),I.nofs hb,.inr (Nat.le_trans I.sz hb),fun x c e z=>?_,fun p hp z=>?_⟩
 ·obtain ⟨v,q⟩:=I.cell x c e
  exact absurd (Nat.lt_of_lt_of_le q.lt (by rw [z];exact hb)) (Nat.lt_irrefl _)
 ·exact absurd (Nat.lt_of_lt_of_le (Heap.lt_size (I.pin p hp).1) (by rw [z];exact hb)) (Nat.lt_irrefl _)
structure ku(P:Program)(w:World)(K:PySem.W.Frag)(tg:Expr)(J:It)(fp:List Addr)(it:Addr)(tn:Nat->Heap->Prop):Prop where
 mem:it∈fp
 obj:∀i h,tn i h->∀b∈fp,∃o,h.get? b=some o/\∀v,o.data≠.cell v
 keep:∀i h h',tn i h->(∀b∈fp,∀o,h.get? b=some o->h'.get? b=some o)->tn i h'
 item:∀(X:Cx),X.prog=P->X.w=w->X.K=K->X.calm=true->∀(i:Nat)(pins:List (Addr×Obj)) (s:Shared) (σ:St) (H:Hp) (E:Value->Shared->Prop),Inv X pins σ H s->(∀b∈fp,gk X pins H b)->tn i s.heap->J.go i H->
  wpAny (model P w) X.A (pyNext (.ref it)) (fun r s1=>∃u,r=some u/\
   wpAny (model P w) X.A (letOwnedTupleGo tg (.ref it) u) (fun _ s2=>∃x H',Inv X pins σ H' s2/\RelV x u/\J.yld i H x H'/\tn (i+1) s2.heap/\∀b∈fp,H' b=none) E s1) E s
 done:∀(X:Cx),X.prog=P->X.w=w->X.K=K->X.calm=true->∀(i:Nat)(pins:List (Addr×Obj)) (s:Shared) (σ:St) (H:Hp) (E:Value->Shared->Prop),Inv X pins σ H s->(∀b∈fp,gk X pins H b)->tn i s.heap->J.stop i H->
  wpAny (model P w) X.A (pyNext (.ref it)) (fun r s1=>r=none/\Inv X pins σ H s1) E s
 self:∀(A:Around)(i:Nat)(s:Shared)(Q:Value->Shared->Prop)(E:Value->Shared->Prop),tn i s.heap->Q (.ref it) s->wpAny (model P w) A (pyIter (.ref it)) Q E s
abbrev TI:=St->Hp->(It->Hp->Prop)->Prop
def PIE(X:Cx)(pins:List (Addr×Obj))(σ:St)(tg:Expr)(R:It->Hp->Prop)(itv:Value)(s2:Shared):Prop:=
 ∃(it:Addr)(fp:List Addr)(tn:Nat->Heap->Prop)(J:It)(H':Hp),itv=.ref it/\Inv X pins σ H' s2/\ku X.prog X.w X.K tg J fp it tn/\tn 0 s2.heap/\(∀b∈fp,gk X pins H' b)/\R J H'
def PI(X:Cx)(tg iter:Expr)(wi:TI):Prop:=
 ∀(pins:List (Addr×Obj)) (s:Shared) (σ:St) (H:Hp) (R:It->Hp->Prop),Inv X pins σ H s->wi σ H R->
  wpAny (model X.prog X.w) X.A (eval iter X.env) (fun v s1=>wpAny (model X.prog X.w) X.A (pyIter v) (PIE X pins σ tg R) X.xe s1) X.xe s
theorem jx{M:Model}{A:Around}{E:Value->Shared->Prop}{s:Shared}{tg:Expr}{it:Addr}{o:Obj}{n:String}{vs:Array Value}{Q:Unit->Shared->Prop}(ho:s.heap.get? it=some o)(hc:o.cls=.type n)(hd:o.data=.fields vs)
 (hn:["enumerate","zip","dict_itemiterator","dict_reverseitemiterator","odict_iterator","itertools.zip_longest","itertools.pairwise"].contains n=false) (hQ:Q () s):wpAny M A (letOwnedTupleGo tg (.ref it) u) Q E s:=by
  unfold letOwnedTupleGo
  cases tg <;> first
    | exact wpAny_pure hQ
    | (cases u <;> first
        | exact wpAny_pure hQ
        | (refine wpAny_bind (wpAny_load ho ?_)
           rw [hc,hd]
           show wpAny M A (if (["enumerate","zip","dict_itemiterator","dict_reverseitemiterator","odict_iterator","itertools.zip_longest","itertools.pairwise"].contains n && vs[0]? == some (rawInt _))=true then _ else _) Q E s
           rw [if_neg (by intro h;rw [hn,Bool.false_and] at h;cases h)]
           exact wpAny_pure hQ))
def Itl(K:PySem.W.Frag)(a:Addr):It:=
 ⟨fun i H=>∃xs x,SqL K H a xs/\xs[i]?=some x,fun i H x H'=>H'=H/\∀xs,SqL K H a xs->xs[i]?=some x,fun i H=>∃xs,SqL K H a xs/\xs.length<=i⟩
def Itt(K:PySem.W.Frag)(a:Addr):It:=
 ⟨fun i H=>∃xs x,SqT K H a xs/\xs[i]?=some x,fun i H x H'=>H'=H/\∀xs,SqT K H a xs->xs[i]?=some x,fun i H=>∃xs,SqT K H a xs/\xs.length<=i⟩
def Itr(lo:Int)(n:Nat):It:=⟨fun i _=>i < n,fun i H x H'=>H'=H/\x=.int (lo+i),fun i _=>n<=i⟩
theorem lr{w:World}{K:PySem.W.Frag}{tg:Expr}(a it:Addr):ku P w K tg (Itl K a) [it] it (fun i h=>h.IsListIter it a i) where
 mem:=by simp
 obj:=fun i h st b hb=>by
  have e:b=it:=by simpa using hb
  subst e
  obtain ⟨o,e,c,d⟩:=st
  exact ⟨o,e,fun v z=>by rw [d] at z;cases z⟩
 keep:=fun i h h' st k=>st.at fun o e=>k it (by simp) o e
 item:=by
  intro X hP hw hK hc i pins s σ H E I hf st hg
  subst hP hw hK
  obtain ⟨xs,x,hq,hx⟩:=hg
  obtain ⟨its,rv,p,hz⟩:=I.list hq
  obtain ⟨u,hu,ru⟩:=rv.get hx
  obtain ⟨f0,f1,f2,f3,f4,f5⟩:=hf it (by simp)
  refine wpAny_pyNext_list_item st p.isList (x:=u) (by simpa using hu) fun h' st' sb=>?_
  have I1:Inv X pins σ H {s with heap:=h'}:=I.turned (t':=s.toks) (fun b o hb e=>(sb.2 b hb).trans e) f0 f1 f3 f4 f5
  obtain ⟨o,e,c,d⟩:=id st'
  exact ⟨u,rfl,jx (s:={s with heap:=h'}) e c d (by decide) ⟨x,H,I1,ru,⟨rfl,fun ys hy=>by rw [I.list_inj hy hq];exact hx⟩,st',fun b hb=>(hf b hb).1⟩⟩
 done:=by
  intro X hP hw hK hc i pins s σ H E I hf st hg
  subst hP hw hK
  obtain ⟨xs,hq,hx⟩:=hg
  obtain ⟨its,rv,p,hz⟩:=I.list hq
  obtain ⟨f0,f1,f2,f3,f4,f5⟩:=hf it (by simp)
  have hl:=rv.length
  exact wpAny_pyNext_list_end (I.ok.hd hc) st p.isList (by simp;omega) fun h' eb=>⟨rfl,I.turned (t':=s.toks) (fun b o hb e=>eb b o hb e) f0 f1 f3 f4 f5⟩
 self:=fun _ _ _ _ _ st h=>wpAny_pyIter_listiter st h
theorem jk{w:World}{K:PySem.W.Frag}{tg:Expr}(a it:Addr):ku P w K tg (Itt K a) [it] it (fun i h=>h.IsTupleIter it a i) where
 mem:=by simp
 obj:=fun i h st b hb=>by
  have e:b=it:=by simpa using hb
  subst e
  obtain ⟨o,e,c,d⟩:=st
  exact ⟨o,e,fun v z=>by rw [d] at z;cases z⟩
 keep:=fun i h h' st k=>st.at fun o e=>k it (by simp) o e
 item:=by
  intro X hP hw hK hc i pins s σ H E I hf st hg
  subst hP hw hK
  obtain ⟨xs,x,hq,hx⟩:=hg
  obtain ⟨its,rv,p,hz⟩:=I.tuple hq
  obtain ⟨u,hu,ru⟩:=rv.get hx
  obtain ⟨f0,f1,f2,f3,f4,f5⟩:=hf it (by simp)
  refine wpAny_pyNext_tuple_item st (show s.heap.IsTuple a its.toArray from p) (x:=u) (by simpa using hu) fun h' st' sb=>?_
  have I1:Inv X pins σ H {s with heap:=h'}:=I.turned (t':=s.toks) (fun b o hb e=>(sb.2 b hb).trans e) f0 f1 f3 f4 f5
  obtain ⟨o,e,c,d⟩:=id st'
  exact ⟨u,rfl,jx (s:={s with heap:=h'}) e c d (by decide) ⟨x,H,I1,ru,⟨rfl,fun ys hy=>by rw [I.tuple_inj hy hq];exact hx⟩,st',fun b hb=>(hf b hb).1⟩⟩
 done:=by
  intro X hP hw hK hc i pins s σ H E I hf st hg
  subst hP hw hK
  obtain ⟨xs,hq,hx⟩:=hg
  obtain ⟨its,rv,p,hz⟩:=I.tuple hq
  obtain ⟨f0,f1,f2,f3,f4,f5⟩:=hf it (by simp)
  have hl:=rv.length
  exact wpAny_pyNext_tuple_end (I.ok.hd hc) st (show s.heap.IsTuple a its.toArray from p) (by simp;omega) fun h' eb=>⟨rfl,I.turned (t':=s.toks) (fun b o hb e=>eb b o hb e) f0 f1 f3 f4 f5⟩
 self:=fun _ _ _ _ _ st h=>wpAny_pyIter_tupleiter st h
theorem jj{w:World}{K:PySem.W.Frag}{tg:Expr}(it:Addr)(lo:Int)(n:Nat):ku P w K tg (Itr lo n) [it] it (fun i h=>IsRangeIter h it (lo+(i:Nat) * 1) ((n:Int) - (i:Nat)) 1) where
 mem:=by simp
 obj:=fun i h st b hb=>by
  have e:b=it:=by simpa using hb
  subst e
  exact ⟨_,st,fun v z=>by
   have z':Data.fields _=Data.cell v:=z
   cases z'⟩
 keep:=fun i h h' st k=>k it (by simp) _ st
 item:=by
  intro X hP hw hK hc i pins s σ H E I hf st hg
  subst hP hw hK
  obtain ⟨f0,f1,f2,f3,f4,f5⟩:=hf it (by simp)
  have W:=Walks.range (prog:=X.prog) (w:=X.w) (I.ok.hd hc) it lo 1 n
  refine W.item i s _ _ hg st fun v h' tk hv st' kk=>?_
  obtain ⟨t,rfl⟩:=hv
  have I1:Inv X pins σ H {s with heap:=h',toks:=tk}:=I.turned (fun b o hb e=>kk b o (by simpa using hb) e) f0 f1 f3 f4 f5
  refine ⟨_,rfl,jx (s:={s with heap:=h',toks:=tk}) (n:="range_iterator") st' rfl rfl (by decide) ⟨.int (lo+i),H,I1,⟨t,?_⟩,⟨rfl,rfl⟩,st',fun b hb=>(hf b hb).1⟩⟩
  rw [Int.mul_one]
 done:=by
  intro X hP hw hK hc i pins s σ H E I hf st hg
  subst hP hw hK
  obtain ⟨f0,f1,f2,f3,f4,f5⟩:=hf it (by simp)
  exact wpAny_pyNext_range_end (I.ok.hd hc) st (by have:n<=i:=hg;omega) fun h' eb=>⟨rfl,I.turned (t':=s.toks) (fun b o hb e=>eb b o hb e) f0 f1 f3 f4 f5⟩
 self:=fun _ _ _ _ _ st h=>wpAny_pyIter_rangeiter st h
end L2
variable {H:Hp} {g:TG} {pins:List (Addr×Obj)} {σ:St}
namespace L2
open PySem PySem.Spec PyProof.Rows
section
variable {X:Cx} {tg:Expr}
def m4(K:PySem.W.Frag)(tl:TE):TI:=fun σ H R=>tl σ H fun x H1=>∃a,x=.ref a/\(∃xs,SqL K H1 a xs)/\R (Itl K a) H1
def sC(K:PySem.W.Frag)(tl:TE):TI:=fun σ H R=>tl σ H fun x H1=>∃a,x=.ref a/\(∃xs,SqT K H1 a xs)/\R (Itt K a) H1
theorem qi{l:Expr}{tl:TE}(hl:PE X l tl):PI X tg l (m4 X.K tl):=by
 intro pins s σ H R I h
 refine thn (hl pins s σ H _ I h) fun v s1 hhx=>?_
 obtain ⟨x,H1,I1,r1,q1⟩:=hhx
 obtain ⟨a,e,⟨xs,hq⟩,q⟩:=q1
 subst e
 cases r1
 obtain ⟨its,rv,p,hz⟩:=I1.list hq
 refine wpAny_pyIter_list p.isList ?_
 refine ⟨s1.heap.objs.size,[s1.heap.objs.size],_,_,H1,rfl,I1.kept (t':=s1.toks) fun b o e=>Heap.get?_push_of_some _ e,lr a _,⟨_,Heap.get?_push_size _ rfl,rfl,rfl⟩,fun b hb=>?_,q⟩
 have e:b=s1.heap.objs.size:=by simpa using hb
 subst e
 exact I1.fpOk (Nat.le_refl _) (I1.hok.fresh (Nat.le_refl _))
theorem tI{l:Expr}{tl:TE}(hl:PE X l tl):PI X tg l (sC X.K tl):=by
 intro pins s σ H R I h
 refine thn (hl pins s σ H _ I h) fun v s1 hhx=>?_
 obtain ⟨x,H1,I1,r1,q1⟩:=hhx
 obtain ⟨a,e,⟨xs,hq⟩,q⟩:=q1
 subst e
 cases r1
 obtain ⟨its,rv,p,hz⟩:=I1.tuple hq
 refine wpAny_pyIter_tuple (show s1.heap.IsTuple a its.toArray from p) ?_
 refine ⟨s1.heap.objs.size,[s1.heap.objs.size],_,_,H1,rfl,I1.kept (t':=s1.toks) fun b o e=>Heap.get?_push_of_some _ e,jk a _,⟨_,Heap.get?_push_size _ rfl,rfl,rfl⟩,fun b hb=>?_,q⟩
 have e:b=s1.heap.objs.size:=by simpa using hb
 subst e
 exact I1.fpOk (Nat.le_refl _) (I1.hok.fresh (Nat.le_refl _))
theorem ik{pins:List (Addr×Obj)}{σ:St}{H:Hp}{s:Shared}{R:It->Hp->Prop}{E:Value->Shared->Prop}{lo hi:Int}{t u v:Tok}{tk:Nat}(I:Inv X pins σ H s)(h1:-(2 ^ 62)<=lo)(h2:lo < 2 ^ 62)(h3:-(2 ^ 62)<=hi)(h4:hi < 2 ^ 62)
 (q:R (Itr lo (hi - lo).toNat) H):wpAny (model X.prog X.w) X.A (pyIter (.ref s.heap.objs.size)) (PIE X pins σ tg R) E {s with heap:=s.heap.push {cls:=.type "range",data:=.fields #[.int lo t,.int hi u,.int 1 v]},toks:=tk}:=by
 refine wpAny_pyIter_range (IsRange.new ..) (small_one h1 h2 h3 h4) ?_
 have I1:Inv X pins σ H {s with heap:=s.heap.push {cls:=.type "range",data:=.fields #[.int lo t,.int hi u,.int 1 v]},toks:=tk}:=I.kept fun b o e=>Heap.get?_push_of_some _ e
 refine ⟨(s.heap.push {cls:=.type "range",data:=.fields #[.int lo t,.int hi u,.int 1 v]}).objs.size,[(s.heap.push {cls:=.type "range",data:=.fields #[.int lo t,.int hi u,.int 1 v]}).objs.size],_,_,H,rfl,
  I1.kept (t':=tk) fun b o e=>Heap.get?_push_of_some _ e,jj _ lo (hi - lo).toNat,?_,fun b hb=>?_,q⟩
 ·have e1:lo+((0:Nat):Int) * 1=lo:=by simp
  have e2:(((hi - lo).toNat:Nat):Int) - ((0:Nat):Int)=Builtin.Range.rangeSize lo hi 1:=by rw [rangeSize_one];split <;> omega
  show IsRangeIter _ _ (lo+((0:Nat):Int) * 1) ((((hi - lo).toNat:Nat):Int) - ((0:Nat):Int)) 1
  rw [e1,e2]
  exact Heap.get?_push_size _ rfl
 ·have e:b=(s.heap.push {cls:=.type "range",data:=.fields #[.int lo t,.int hi u,.int 1 v]}).objs.size:=by simpa using hb
  subst e
  exact I1.fpOk (Nat.le_refl _) (I1.hok.fresh (Nat.le_refl _))
def m5(ta:TA):TI:=fun σ H R=>ta σ H fun vs H1=>∃j:Int,vs=[.int j]/\-(2 ^ 62)<=j/\j < 2 ^ 62/\R (Itr 0 j.toNat) H1
def m6(ta:TA):TI:=fun σ H R=>ta σ H fun vs H1=>∃i j:Int,vs=[.int i,.int j]/\(-(2 ^ 62)<=i/\i < 2 ^ 62/\-(2 ^ 62)<=j/\j < 2 ^ 62)/\R (Itr i (j - i).toNat) H1
theorem l5{a:Expr}{ta:TA}{p pos:Pos}(hg:Gl X "range") (hm:X.mg "range"=none) (ha:PA X [a] ta) (hs:starEach [a] X.env=[(false,eval a X.env)]:=by rfl):PI X tg (.Call (.Name "range" p) [a] [] pos) (m5 ta):=by
 intro pins s σ H R I h
 refine Call_ (eS I hg hm boot_range (PyProof.Rows.callWith_type1 (thn (ha pos pins s σ H _ I h) fun us s1 hhx=>?_) hs rfl))
 obtain ⟨vs,H1,I1,r1,q1⟩:=hhx
 obtain ⟨j,e,q1,q2,q⟩:=q1
 subst e
 cases r1 with
 | cons r rr=>
  cases rr
  obtain ⟨t,rfl⟩:=r
  exact call_range_1 (ik I1 (by omega) (by omega) q1 q2 (by simpa using q))
theorem l6{a b:Expr}{ta:TA}{p pos:Pos}(hg:Gl X "range") (hm:X.mg "range"=none) (ha:PA X [a,b] ta) (hs:starEach [a,b] X.env=[(false,eval a X.env),(false,eval b X.env)]:=by rfl) (hs2:starEach [b] X.env=[(false,eval b X.env)]:=by rfl) :
  PI X tg (.Call (.Name "range" p) [a,b] [] pos) (m6 ta):=by
 intro pins s σ H R I h
 refine Call_ (eS I hg hm boot_range (PyProof.Rows.callWith_type1 (thn (ha pos pins s σ H _ I h) fun us s1 hhx=>?_) (by rw [hs,hs2]) (by rw [hs2];rfl)))
 obtain ⟨vs,H1,I1,r1,q1⟩:=hhx
 obtain ⟨i,j,e,⟨q1,q2,q3,q4⟩,q⟩:=q1
 subst e
 cases r1 with
 | cons r rr=>
  cases rr with
  | cons r' rr=>
   cases rr
   obtain ⟨t,rfl⟩:=r
   obtain ⟨t',rfl⟩:=r'
   exact call_range_2 (ik I1 q1 q2 q3 q4 q)
def u6(wi:TI)(g:TG)(tb:TS):TS:=fun D σ H=>wi σ H fun J H1=>∃W:Nat->Nat->St->Hp->Prop,(∃m,W 0 m σ H1)/\∀i m σ H,W i m σ H->
 (J.stop i H/\D.nx σ H)\/(J.go i H/\∃N:St->Hp->Prop,(∀σ' H',N σ' H'->∃m',m' < m/\W (i+1) m' σ' H')/\∀x H',J.yld i H x H'->g x σ H' fun σ2 H2=>tb {D with nx:=N,ct:=N,bk:=D.nx} σ2 H2)
def dA(fp:List Addr)(h:Heap):List (Addr×Obj):=fp.filterMap fun b=>(h.get? b).map fun o=>(b,o)
theorem bP{fp:List Addr}{h:Heap}{b:Addr}{o:Obj}(hb:b∈fp)(e:h.get? b=some o):(b,o)∈dA fp h:=List.mem_filterMap.mpr ⟨b,hb,by rw [e];rfl⟩
theorem kS{fp:List Addr}{h:Heap}{p:Addr×Obj}(hp:p∈dA fp h):p.1∈fp/\h.get? p.1=some p.2:=by
 obtain ⟨b,hb,e⟩:=List.mem_filterMap.mp hp
 cases q:h.get? b with
 | none=>rw [q] at e;cases e
 | some o=>
  rw [q] at e
  have e':(b,o)=p:=Option.some.inj e
  subst e'
  exact ⟨hb,q⟩
theorem Inv.pinned{pins:List (Addr×Obj)}{σ:St}{H:Hp}{s:Shared}{fp:List Addr}(I:Inv X pins σ H s)(hf:∀b∈fp,gk X pins H b)(ho:∀b∈fp,∃o,s.heap.get? b=some o/\∀v,o.data≠.cell v):Inv X (pins ++ dA fp s.heap) σ H s:=
 I.pins_of fun p hp=>(List.mem_append.mp hp).elim (fun z=>I.pin p (List.mem_append_right _ z)) fun z=>by
  obtain ⟨hb,e⟩:=kS z
  obtain ⟨f0,f1,f2,_⟩:=hf p.1 hb
  obtain ⟨o,e',d⟩:=ho p.1 hb
  rw [e] at e';cases e'
  exact ⟨e,f0,f1,f2,d⟩
theorem Inv.unpinned{pl:List (Addr×Obj)}{σ:St}{H:Hp}{s:Shared}(I:Inv X (pins ++ pl) σ H s):Inv X pins σ H s:=I.pins_of fun p hp=>I.pin p (List.mem_append_right _ (List.mem_append_left _ hp))
theorem tM{iter:Expr}{body:List Stmt}{wi:TI}{tb:TS}{pos:Pos}(hp:PassesOwn (model X.prog X.w) X.A X.env X.xe)(hc:X.calm=true)(hi:PI X tg iter wi)(hg:PG X tg g)(hb:PSs X body tb)
 (hs:∀x,foldedSetIterable iter X.env x=pure x:=by intro _;rfl):PS X (.For tg iter body [] pos) (u6 wi g tb):=by
 intro pins s σ H D I h
 refine wpAny_For (thn (hi pins s σ H _ I h) fun v s1 h1=>thn h1 fun itv s2 h2=>?_) hs
 obtain ⟨it,fp,tn,J,H2,e,I2,T,st2,f2,W,⟨m0,w0⟩,turn⟩:=h2
 subst e
 have stat:∀{H':Hp},(∀b∈fp,H' b=none)->∀b∈fp,gk X pins H' b:=fun hn b hb=>⟨hn b hb,(f2 b hb).2⟩
 refine codeAny_forLoop_any (fun n s'=>∃i σ' H',Inv X pins σ' H' s'/\tn i s'.heap/\(∀b∈fp,H' b=none)/\W i n σ' H') ?_ m0 ⟨0,σ,H2,I2,st2,fun b hb=>(f2 b hb).1,w0⟩
 rintro n s3 ⟨i,σ3,H3,I3,st3,fr3,w3⟩
 rcases turn i n σ3 H3 w3 with ⟨stop,qn⟩ | ⟨go,N,hN,step⟩
 ·refine wpAny_passesOwn hp (thn (T.done X rfl rfl rfl hc i pins s3 σ3 H3 X.xe I3 (stat fr3) st3 stop) fun r s4 ⟨hr,I4⟩=>?_)
  subst hr
  exact wpAny_execs_nil ⟨σ3,H3,I4,qn⟩
 ·refine wpAny_passesOwn hp (thn (T.item X rfl rfl rfl hc i pins s3 σ3 H3 X.xe I3 (stat fr3) st3 go) fun r s4 ⟨u,hr,h4⟩=>?_)
  subst hr
  refine wpAny_passesOwn hp (thn h4 fun _ s5 hhx=>?_)
  obtain ⟨x,H5,I5,r5,y5,st5,fr5⟩:=hhx
  have I5':=I5.pinned (stat fr5) (T.obj _ _ st5)
  refine wpAny_passesOwn hp (thn (hg _ s5 σ3 H5 x u _ I5' r5 (step x H5 y5)) fun _ s6 hhx=>?_)
  obtain ⟨σ6,H6,I6,q6⟩:=hhx
  refine wpAny_passesOwn hp (thn (hb _ s6 σ6 H6 _ I6 q6) fun f s7 q7=>?_)
  have again:∀{σ7:St} {H7:Hp},Inv X (pins ++ dA fp s5.heap) σ7 H7 s7->N σ7 H7->∃m,m < n/\∃i σ' H',Inv X pins σ' H' s7/\tn i s7.heap/\(∀b∈fp,H' b=none)/\W i m σ' H':=fun {σ7 H7} I7 n7=>by
   obtain ⟨m',hm,w7⟩:=hN σ7 H7 n7
   refine ⟨m',hm,i+1,σ7,H7,I7.unpinned,T.keep _ _ _ st5 fun b hb o e=>(I7.pin (b,o) (List.mem_append_right _ (List.mem_append_right _ (bP hb e)))).1,fun b hb=>?_,w7⟩
   obtain ⟨o,e,d⟩:=T.obj _ _ st5 b hb
   exact (I7.pin (b,o) (List.mem_append_right _ (List.mem_append_right _ (bP hb e)))).2.1
  cases f with
  | next=>obtain ⟨σ7,H7,I7,n7⟩:=q7;exact again I7 n7
  | cont=>obtain ⟨σ7,H7,I7,n7⟩:=q7;exact again I7 n7
  | brk=>obtain ⟨σ7,H7,I7,q7⟩:=q7;exact ⟨σ7,H7,I7.unpinned,q7⟩
  | ret v=>obtain ⟨x7,σ7,H7,I7,r7,q7⟩:=q7;exact ⟨x7,σ7,H7,I7.unpinned,r7,q7⟩
end
theorem lV{K:PySem.W.Frag}{a:Addr}{xs:List V}{g:TG}{tb:TS}{D:bO}{σ:St}{H:Hp}(Pv:Nat->St->Hp->Prop)(h0:Pv 0 σ H)(hl:∀i σ H,i<=xs.length->Pv i σ H->SqL K H a xs)
 (hs:∀i x σ H,xs[i]?=some x->Pv i σ H->g x σ H fun σ2 H2=>tb {D with nx:=Pv (i+1),ct:=Pv (i+1),bk:=D.nx} σ2 H2) (hd:∀σ H,Pv xs.length σ H->D.nx σ H) :
 ∃W:Nat->Nat->St->Hp->Prop,(∃m,W 0 m σ H)/\∀i m σ H,W i m σ H->
   ((Itl K a).stop i H/\D.nx σ H)\/((Itl K a).go i H/\∃N:St->Hp->Prop,(∀σ' H',N σ' H'->∃m',m' < m/\W (i+1) m' σ' H')/\∀x H',(Itl K a).yld i H x H'->g x σ H' fun σ2 H2=>tb {D with nx:=N,ct:=N,bk:=D.nx} σ2 H2):=by
 refine ⟨fun i m σ H=>m=xs.length - i/\i<=xs.length/\Pv i σ H,⟨xs.length,by simp,Nat.zero_le _,h0⟩,?_⟩
 rintro i m σ H ⟨rfl,hi,p⟩
 have q:=hl i σ H hi p
 by_cases hlt:i < xs.length
 ·refine .inr ⟨⟨xs,xs[i],q,by simp [hlt]⟩,Pv (i+1),fun σ' H' p'=>⟨xs.length - (i+1),by omega,rfl,hlt,p'⟩,fun x H' y=>?_⟩
  obtain ⟨e,y⟩:=y
  subst e
  exact hs i x σ _ (y xs q) p
 ·have e:i=xs.length:=by omega
  subst e
  exact .inl ⟨⟨xs,q,Nat.le_refl _⟩,hd σ H p⟩
theorem kH{lo:Int}{n:Nat}{g:TG}{tb:TS}{D:bO}{σ:St}{H:Hp}(Pv:Nat->St->Hp->Prop)(h0:Pv 0 σ H)
 (hs:∀i σ H,i < n->Pv i σ H->g (.int (lo+i)) σ H fun σ2 H2=>tb {D with nx:=Pv (i+1),ct:=Pv (i+1),bk:=D.nx} σ2 H2) (hd:∀σ H,Pv n σ H->D.nx σ H) :
 ∃W:Nat->Nat->St->Hp->Prop,(∃m,W 0 m σ H)/\∀i m σ H,W i m σ H->
   ((Itr lo n).stop i H/\D.nx σ H)\/((Itr lo n).go i H/\∃N:St->Hp->Prop,(∀σ' H',N σ' H'->∃m',m' < m/\W (i+1) m' σ' H')/\∀x H',(Itr lo n).yld i H x H'->g x σ H' fun σ2 H2=>tb {D with nx:=N,ct:=N,bk:=D.nx} σ2 H2):=by
 refine ⟨fun i m σ H=>m=n - i/\i<=n/\Pv i σ H,⟨n,by simp,Nat.zero_le _,h0⟩,?_⟩
 rintro i m σ H ⟨rfl,hi,p⟩
 by_cases hlt:i < n
 ·refine .inr ⟨hlt,Pv (i+1),fun σ' H' p'=>⟨n - (i+1),by omega,rfl,hlt,p'⟩,fun x H' y=>?_⟩
  obtain ⟨e,y⟩:=y
  subst e y
  exact hs i σ _ hlt p
 ·have e:i=n:=by omega
  subst e
  exact .inl ⟨Nat.le_refl _,hd σ H p⟩
end L2
namespace L2
open PySem PySem.Spec PyProof.Rows
abbrev R2:=V->V->Hp->VK->Prop
def OpR(X:Cx)(f:Value->Value->Sem Value)(r:R2):Prop:=
 ∀(pins:List (Addr×Obj)) (s:Shared) (σ:St) (H:Hp) (x y:V) (v u:Value) (Q:VK),Inv X pins σ H s->RelV x v->RelV y u->r x y H Q->
  wpAny (model X.prog X.w) X.A (f v u) (EP X pins σ Q) X.xe s
def UnR(X:Cx)(f:Value->Sem Value)(r:V->Hp->VK->Prop):Prop:=
 ∀(pins:List (Addr×Obj)) (s:Shared) (σ:St) (H:Hp) (x:V) (v:Value) (Q:VK),Inv X pins σ H s->RelV x v->r x H Q->
  wpAny (model X.prog X.w) X.A (f v) (EP X pins σ Q) X.xe s
def bT(X:Cx)(f:Value)(r:List V->Hp->VK->Prop):Prop:=
 ∀(pins:List (Addr×Obj)) (s:Shared) (σ:St) (H:Hp) (xs:List V) (us:List Value) (Q:VK),Inv X pins σ H s->Vals xs us->r xs H Q->
  wpAny (model X.prog X.w) X.A (call f us) (EP X pins σ Q) X.xe s
def tOp(r:R2)(ta tb:TE):TE:=fun σ H Q=>ta σ H fun x H1=>tb σ H1 fun y H2=>r x y H2 Q
def tUn(r:V->Hp->VK->Prop)(ta:TE):TE:=fun σ H Q=>ta σ H fun x H1=>r x H1 Q
def rI(C:Int->Int->Prop)(g:Int->Int->V):R2:=fun x y H Q=>∃i j,x=.int i/\y=.int j/\C i j/\Q (g i j) H
def rI0(g:Int->Int->V):R2:=fun x y H Q=>∃i j,x=.int i/\y=.int j/\Q (g i j) H
def rU(g:Int->V):V->Hp->VK->Prop:=fun x H Q=>∃i,x=.int i/\Q (g i) H
section
variable {X:Cx} {a b c:Expr} {ta tb tc:TE} {pos:Pos}
theorem sn(ha:PE X a ta)(hb:PE X b tb){pins:List (Addr×Obj)}{s:Shared}{σ:St}{H:Hp}{R:V->V->Hp->Prop}(I:Inv X pins σ H s)
  (h:ta σ H fun x H1=>tb σ H1 fun y H2=>R x y H2) {Q:Value->Shared->Prop} {f:Value->Value->Sem Value}
  (hf:∀v u s2 x y H2,Inv X pins σ H2 s2->RelV x v->RelV y u->R x y H2->wpAny (model X.prog X.w) X.A (f v u) Q X.xe s2) :
  wpAny (model X.prog X.w) X.A (eval a X.env) (fun v s₁=>wpAny (model X.prog X.w) X.A (eval b X.env) (fun u s₂=>wpAny (model X.prog X.w) X.A (f v u) Q X.xe s₂) X.xe s₁) X.xe s:=by
 refine thn (ha pins s σ H _ I h) fun v s1 hhx=>?_
 obtain ⟨x,H1,I1,r1,q1⟩:=hhx
 refine thn (hb pins s1 σ H1 _ I1 q1) fun u s2 hhx=>?_
 obtain ⟨y,H2,I2,r2,q2⟩:=hhx
 exact hf v u s2 x y H2 I2 r1 r2 q2
theorem uD{op:Operator}{r:R2}(ho:OpR X (binaryOp op) r)(ha:PE X a ta)(hb:PE X b tb):PE X (.BinOp a op b pos) (tOp r ta tb):=by
 intro pins s σ H Q I h
 exact wpAny_BinOp (sn ha hb I h fun v u s2 x y H2 I2 rx ry q=>ho pins s2 σ H2 x y v u Q I2 rx ry q)
theorem uE{op:UnaryOp}{r:V->Hp->VK->Prop}(ho:UnR X (unaryOp op) r)(ha:PE X a ta):PE X (.UnaryOp op a pos) (tUn r ta):=by
 intro pins s σ H Q I h
 exact UnaryOp_ (thn (ha pins s σ H _ I h) fun v s1 ⟨x,H1,I1,r1,q1⟩=>ho pins s1 σ H1 x v Q I1 r1 q1)
theorem opI{f:Value->Value->Sem Value}{C:Int->Int->Prop}{g:Int->Int->Int}
  (rule:∀(i j:Int)(t u:Tok)(s:Shared)(Q:Value->Shared->Prop)(E:Value->Shared->Prop),C i j->Q (.int (g i j) s.toks) {s with toks:=s.toks+1}->wpAny (model X.prog X.w) X.A (f (.int i t) (.int j u)) Q E s) :
  OpR X f (rI C fun i j=>.int (g i j)):=by
 intro pins s σ H x y v u Q I rx ry h
 obtain ⟨i,j,rfl,rfl,hc,q⟩:=h
 obtain ⟨t,rfl⟩:=rx
 obtain ⟨t',rfl⟩:=ry
 exact rule i j t t' s _ _ hc ⟨.int (g i j),H,I.tok _,⟨_,rfl⟩,q⟩
theorem mR{f:Value->Value->Sem Value}{g:Int->Int->Int}
  (rule:∀(i j:Int)(t u:Tok)(s:Shared)(Q:Value->Shared->Prop)(E:Value->Shared->Prop),Q (.int (g i j) s.toks) {s with toks:=s.toks+1}->wpAny (model X.prog X.w) X.A (f (.int i t) (.int j u)) Q E s) :
  OpR X f (rI0 fun i j=>.int (g i j)):=by
 intro pins s σ H x y v u Q I rx ry h
 obtain ⟨i,j,rfl,rfl,q⟩:=h
 obtain ⟨t,rfl⟩:=rx
 obtain ⟨t',rfl⟩:=ry
 exact rule i j t t' s _ _ ⟨.int (g i j),H,I.tok _,⟨_,rfl⟩,q⟩
theorem sR{f:Value->Value->Sem Value}{g:Int->Int->Bool}
  (rule:∀(i j:Int)(t u:Tok)(s:Shared)(Q:Value->Shared->Prop)(E:Value->Shared->Prop),Q (.bool (g i j)) s->wpAny (model X.prog X.w) X.A (f (.int i t) (.int j u)) Q E s) :
  OpR X f (rI0 fun i j=>.bl (g i j)):=by
 intro pins s σ H x y v u Q I rx ry h
 obtain ⟨i,j,rfl,rfl,q⟩:=h
 obtain ⟨t,rfl⟩:=rx
 obtain ⟨t',rfl⟩:=ry
 exact rule i j t t' s _ _ ⟨.bl (g i j),H,I,rfl,q⟩
def kq(i j:Int):Prop:=0<=j/\j<=1000000/\i.natAbs < 2 ^ 64
def CMul(i j:Int):Prop:=(-(2 ^ 64) < i/\i < 2 ^ 64)\/(-(2 ^ 64) < j/\j < 2 ^ 64)
theorem CMul.ok{i j:Int}(h:CMul i j):IntMulOk i j:=by
 rcases h with ⟨h1,h2⟩ | ⟨h1,h2⟩
 ·exact .of_left (intBits_le_64 h1 h2)
 ·exact .of_right (intBits_le_64 h1 h2)
theorem sS:OpR X (binaryOp .Add) (rI0 fun i j=>.int (i+j)):=mR fun _ _ _ _ _ _ _ q=>add_int q
theorem t0:OpR X (binaryOp .Sub) (rI0 fun i j=>.int (i - j)):=mR fun _ _ _ _ _ _ _ q=>sub_int q
theorem sW:OpR X (binaryOp .Mult) (rI CMul fun i j=>.int (i * j)):=opI fun _ _ _ _ _ _ _ hc q=>mul_int q hc.ok
theorem sV:OpR X (binaryOp .Mod) (rI (fun _ j=>0 < j) fun i j=>.int (i % j)):=opI fun i j _ _ _ _ _ hc q=>by
 have h1:(0:Int) < j:=hc
 exact mod_int' (by omega) (by rw [Int.fmod_eq_emod_of_nonneg i (by omega)];exact q)
theorem sY:OpR X (binaryOp .Pow) (rI kq fun i j=>.int (i ^ j.toNat)):=opI fun _ _ _ _ _ _ _ hc q=>pow_int_small hc.1 hc.2.1 hc.2.2 q
theorem sZ:OpR X (binaryOp .LShift) (rI kq fun i j=>.int (i * 2 ^ j.toNat)):=opI fun _ _ _ _ _ _ _ hc q=>lshift_int_small hc.1 hc.2.1 hc.2.2 q
theorem sT:OpR X (binaryOp .BitAnd) (rI0 fun i j=>.int (Builtin.bitAnd i j)):=mR fun _ _ _ _ _ _ _ q=>and_int q
theorem uA:OpR X (binaryOp .BitOr) (rI0 fun i j=>.int (Builtin.bitOr i j)):=mR fun _ _ _ _ _ _ _ q=>or_int q
theorem t7:OpR X (binaryOp .BitXor) (rI0 fun i j=>.int (Builtin.bitXor i j)):=mR fun _ _ _ _ _ _ _ q=>xor_int q
theorem unI{f:Value->Sem Value}{g:Int->Int}
  (rule:∀(i:Int)(t:Tok)(s:Shared)(Q:Value->Shared->Prop)(E:Value->Shared->Prop),Q (.int (g i) s.toks) {s with toks:=s.toks+1}->wpAny (model X.prog X.w) X.A (f (.int i t)) Q E s) :
  UnR X f (rU fun i=>.int (g i)):=by
 intro pins s σ H x v Q I rx h
 obtain ⟨i,rfl,q⟩:=h
 obtain ⟨t,rfl⟩:=rx
 exact rule i t s _ _ ⟨.int (g i),H,I.tok _,⟨_,rfl⟩,q⟩
theorem uf:UnR X (unaryOp .USub) (rU fun i=>.int (-i)):=unI fun _ _ _ _ _ q=>neg_int q
end
def oH:V->V->Bool
 | .non,.non=>true | .non,.int _=>true | .int _,.non=>true | .non,.bl _=>true | .bl _,.non=>true | .non,.str _=>true | .str _,.non=>true
 | .int _,.int _=>true | .bl _,.bl _=>true | .str _,.str _=>true | .byt _,.byt _=>true
 | .int _,.str _=>true | .str _,.int _=>true | .bl _,.str _=>true | .str _,.bl _=>true
 | _,_=>false
def rEq:R2:=fun x y H Q=>oH x y=true/\Q (.bl (decide (x=y))) H
def rNe:R2:=fun x y H Q=>oH x y=true/\Q (.bl (!decide (x=y))) H
theorem jv{i j:Int}:decide (V.int i=V.int j)=(i == j):=by
 rw [Bool.eq_iff_iff]
 simp
theorem lP{i j:Bool}:decide (V.bl i=V.bl j)=(i == j):=by
 rw [Bool.eq_iff_iff]
 simp
theorem jw{i j:Str}:decide (V.str i=V.str j)=(i == j):=by
 rw [Bool.eq_iff_iff]
 simp
theorem ju{i j:Array UInt8}:decide (V.byt i=V.byt j)=(i.toList == j.toList):=by
 rw [Bool.eq_iff_iff]
 cases i
 cases j
 simp
section
variable {X:Cx} {a b c:Expr} {ta tb tc:TE} {pos:Pos}
theorem aK{pins:List (Addr×Obj)}{σ:St}{H:Hp}{s:Shared}{Q:VK}{k k':Bool}(I:Inv X pins σ H s)(q:Q (.bl k) H)(e:k=k'):EP X pins σ Q (.bool k') s:=by
 subst e
 exact ⟨.bl k,H,I,rfl,q⟩
theorem aU:OpR X (compareOp .Eq) rEq:=by
 intro pins s σ H x y v u Q I rx ry h
 obtain ⟨hs,q⟩:=h
 cases x with
 | non=>
  cases rx
  cases y with
  | non=>cases ry;exact PySem.EqNone.eq_none_none (aK I q (by simp))
  | bl j=>cases ry;exact PySem.EqNone.eq_none_bool (aK I q (by simp))
  | int j=>obtain ⟨t',rfl⟩:=ry;exact PySem.EqNone.eq_none_int (aK I q (by simp))
  | str j=>obtain ⟨t',rfl⟩:=ry;exact PySem.EqNone.eq_none_str (aK I q (by simp))
  | _=>exact absurd (show false=true from hs) Bool.false_ne_true
 | bl i=>
  cases rx
  cases y with
  | non=>cases ry;exact PySem.EqNone.eq_bool_none (aK I q (by simp))
  | bl j=>cases ry;exact eq_bool (aK I q lP)
  | str j=>obtain ⟨t',rfl⟩:=ry;exact PySem.EqMixed.eq_bool_str (aK I q (by simp))
  | _=>exact absurd (show false=true from hs) Bool.false_ne_true
 | int i=>
  obtain ⟨t,rfl⟩:=rx
  cases y with
  | non=>cases ry;exact PySem.EqNone.eq_int_none (aK I q (by simp))
  | int j=>obtain ⟨t',rfl⟩:=ry;exact eq_int (aK I q jv)
  | str j=>obtain ⟨t',rfl⟩:=ry;exact PySem.EqMixed.eq_int_str (aK I q (by simp))
  | _=>exact absurd (show false=true from hs) Bool.false_ne_true
 | str i=>
  obtain ⟨t,rfl⟩:=rx
  cases y with
  | non=>cases ry;exact PySem.EqNone.eq_str_none (aK I q (by simp))
  | bl j=>cases ry;exact PySem.EqMixed.eq_str_bool (aK I q (by simp))
  | int j=>obtain ⟨t',rfl⟩:=ry;exact PySem.EqMixed.eq_str_int (aK I q (by simp))
  | str j=>obtain ⟨t',rfl⟩:=ry;exact eq_str (aK I q jw)
  | _=>exact absurd (show false=true from hs) Bool.false_ne_true
 | byt i=>
  obtain ⟨t,rfl⟩:=rx
  cases y with
  | byt j=>obtain ⟨t',rfl⟩:=ry;exact PySem.W.eq_bytes (aK I q ju)
  | _=>exact absurd (show false=true from hs) Bool.false_ne_true
 | _=>cases y <;> exact absurd (show false=true from hs) Bool.false_ne_true
theorem dM:OpR X (compareOp .NotEq) rNe:=by
 intro pins s σ H x y v u Q I rx ry h
 obtain ⟨hs,q⟩:=h
 cases x with
 | non=>
  cases rx
  cases y with
  | non=>cases ry;exact PySem.EqNone.ne_none_none (aK I q (by simp))
  | bl j=>cases ry;exact PySem.EqNone.ne_none_bool (aK I q (by simp))
  | int j=>obtain ⟨t',rfl⟩:=ry;exact PySem.EqNone.ne_none_int (aK I q (by simp))
  | str j=>obtain ⟨t',rfl⟩:=ry;exact PySem.EqNone.ne_none_str (aK I q (by simp))
  | _=>exact absurd (show false=true from hs) Bool.false_ne_true
 | bl i=>
  cases rx
  cases y with
  | non=>cases ry;exact PySem.EqNone.ne_bool_none (aK I q (by simp))
  | bl j=>cases ry;exact ne_bool (aK I q (congrArg not lP))
  | str j=>obtain ⟨t',rfl⟩:=ry;exact PySem.EqMixed.ne_bool_str (aK I q (by simp))
  | _=>exact absurd (show false=true from hs) Bool.false_ne_true
 | int i=>
  obtain ⟨t,rfl⟩:=rx
  cases y with
  | non=>cases ry;exact PySem.EqNone.ne_int_none (aK I q (by simp))
  | int j=>obtain ⟨t',rfl⟩:=ry;exact ne_int (aK I q (congrArg not jv))
  | str j=>obtain ⟨t',rfl⟩:=ry;exact PySem.EqMixed.ne_int_str (aK I q (by simp))
  | _=>exact absurd (show false=true from hs) Bool.false_ne_true
 | str i=>
  obtain ⟨t,rfl⟩:=rx
  cases y with
  | non=>cases ry;exact PySem.EqNone.ne_str_none (aK I q (by simp))
  | bl j=>cases ry;exact PySem.EqMixed.ne_str_bool (aK I q (by simp))
  | int j=>obtain ⟨t',rfl⟩:=ry;exact PySem.EqMixed.ne_str_int (aK I q (by simp))
  | str j=>obtain ⟨t',rfl⟩:=ry;exact ne_str (aK I q (congrArg not jw))
  | _=>exact absurd (show false=true from hs) Bool.false_ne_true
 | byt i=>
  obtain ⟨t,rfl⟩:=rx
  cases y with
  | byt j=>obtain ⟨t',rfl⟩:=ry;exact PySem.W.ne_bytes (aK I q (congrArg not ju))
  | _=>exact absurd (show false=true from hs) Bool.false_ne_true
 | _=>cases y <;> exact absurd (show false=true from hs) Bool.false_ne_true
theorem uz:OpR X (compareOp .Lt) (rI0 fun i j=>.bl (decide (i < j))):=sR fun _ _ _ _ _ _ _ q=>lt_int q
theorem uy:OpR X (compareOp .Gt) (rI0 fun i j=>.bl (decide (j < i))):=sR fun _ _ _ _ _ _ _ q=>gt_int q
theorem ux:OpR X (compareOp .GtE) (rI0 fun i j=>.bl (decide (j<=i))):=sR fun _ _ _ _ _ _ _ q=>ge_int q
theorem mT:OpR X (compareOp .Is) (fun x y H Q=>y=.non/\Q (.bl (decide (x=.non))) H):=by
 intro pins s σ H x y v u Q I rx ry h
 obtain ⟨rfl,q⟩:=h
 cases ry
 refine is_none_gen (aK I q ?_)
 cases x <;> first
  | (cases rx;rfl)
  | (obtain ⟨t,rfl⟩:=rx;rfl)
theorem q5:OpR X (compareOp .IsNot) (fun x y H Q=>y=.non/\Q (.bl (!decide (x=.non))) H):=by
 intro pins s σ H x y v u Q I rx ry h
 obtain ⟨rfl,q⟩:=h
 cases ry
 refine isnot_none_gen (aK I q ?_)
 cases x <;> first
  | (cases rx;rfl)
  | (obtain ⟨t,rfl⟩:=rx;rfl)
theorem ay(b:Expr){op:CmpOp}(h:op≠.In:=by decide)(h2:op≠.NotIn:=by decide):behindInMarks op b=false:=by
 have e1:(op == CmpOp.In)=false:=by cases op <;> first | rfl | exact absurd rfl h
 have e2:(op == CmpOp.NotIn)=false:=by cases op <;> first | rfl | exact absurd rfl h2
 cases b <;> simp [behindInMarks,e1,e2]
theorem qc{op:CmpOp}{r:R2}(ho:OpR X (compareOp op) r)(ha:PE X a ta)(hb:PE X b tb)(hm:behindInMarks op b=false):PE X (.Compare a [op] [b] pos) (tOp r ta tb):=by
 intro pins s σ H Q I h
 exact wpAny_Compare1 (sn ha hb I h fun v u s2 x y H2 I2 rx ry q=>ho pins s2 σ H2 x y v u Q I2 rx ry q) hm
def oZ(t:TE):TT:=fun σ H Q=>t σ H fun x H'=>∃k,x=.bl k/\Q k H'
theorem qr{op:CmpOp}{r:R2}(ho:OpR X (compareOp op) r)(ha:PE X a ta)(hb:PE X b tb)(hm:behindInMarks op b=false):PT X (.Compare a [op] [b] pos) (oZ (tOp r ta tb)):=by
 intro pins s σ H Q I h
 refine wpAny_isTrue_Compare1 (thn (ha pins s σ H _ I h) fun v s1 ⟨x,H1,I1,r1,q1⟩=>thn (hb pins s1 σ H1 _ I1 q1) fun u s2 ⟨y,H2,I2,r2,q2⟩=>
  thn (ho pins s2 σ H2 x y v u _ I2 r1 r2 q2) fun c s3 ⟨z,H3,I3,r3,k,e,q3⟩=>?_) hm
 subst e
 cases r3
 exact wpAny_truthy_bool ⟨H3,I3,q3⟩
theorem eT:(sizeLine:Nat) < 2 ^ 63:=by rw [sizeLine_eq];decide
theorem ee{x:V}{us:List Value}(r:Vals [x] us):∃u,us=[u]/\RelV x u:=by
 cases r with
 | cons r1 r2=>cases r2;exact ⟨_,rfl,r1⟩
theorem vk{x y:V}{us:List Value}(r:Vals [x,y] us):∃u w',us=[u,w']/\RelV x u/\RelV y w':=by
 cases r with
 | cons r1 r2=>
  cases r2 with
  | cons r3 r4=>cases r4;exact ⟨_,_,rfl,r1,r3⟩
theorem bM:bT X (.type "int") (fun xs H Q=>(∃i,xs=[.int i]/\Q (.int i) H)\/∃k,xs=[.bl k]/\Q (.int (if k then 1 else 0)) H):=by
 intro pins s σ H xs us Q I r h
 rcases h with ⟨i,rfl,q⟩ | ⟨k,rfl,q⟩
 ·obtain ⟨u,rfl,t,rfl⟩:=ee r
  exact call_int_int ⟨.int i,H,I,⟨_,rfl⟩,q⟩
 ·obtain ⟨u,rfl,r1⟩:=ee r
  cases r1
  exact call_int_bool ⟨.int (if k then 1 else 0),H,I.tok _,⟨_,rfl⟩,q⟩
end
end L2
namespace L2
open PySem PySem.Spec PyProof.Rows
structure ObjM(h:Heap)(x dx C:Addr)(mA:Str->Option Value):Prop where
 obj:h.get? x=some (PySem.W.instObj C dx)
 ns:h.Ns1 dx mA
 ne:dx≠x
theorem kP{h:Heap}{dx:Addr}{mA:Str->Option Value}(n:h.Ns1 dx mA):∃od,h.get? dx=some od/\∀name,PySem.W.lookIn name od=some (mA name):=by
 obtain ⟨o,es,ep,ho,hd,hk,_,hm⟩:=n
 refine ⟨o,ho,fun name=>?_⟩
 have e:=hm name
 unfold nsFind findBy at e
 rw [<- Array.find?_toList] at e
 unfold PySem.W.lookIn
 rw [hd]
 dsimp only
 split
 ·rename_i y q
  rw [q] at e
  exact congrArg some e
 ·rename_i q
  rw [q] at e
  have a:es.toList.any (·.refKey)=false:=by
   rw [List.any_eq_false]
   intro y hy
   obtain ⟨z,t,hkey⟩:=hk y (Array.mem_toList_iff.mp hy)
   simp [DictEntry.refKey,hkey]
  have a':¬es.toList.any (·.refKey)=true:=by rw [a];exact Bool.false_ne_true
  rw [if_neg a']
  exact congrArg some e
theorem ObjM.look{h:Heap}{x dx C:Addr}{mA:Str->Option Value}(I:ObjM h x dx C mA):∃od,PySem.W.InstAt h x (PySem.W.instObj C dx) C (some od)/\∀name,PySem.W.lookIn name od=some (mA name):=
 let ⟨od,ho,hl⟩:=kP I.ns
 ⟨od,⟨I.obj,rfl,rfl,ho⟩,hl⟩
section
variable {prog:Program} {w:World} {A:Around} {E:Value->Shared->Prop} {s:Shared} {K:PySem.W.Frag} {x dx C f:Addr} {mA:Str->Option Value} {name:Str} {v:Value}
theorem pM{expr:Bool}{Q:Value->Shared->Prop}(X:K.In s.heap)(I:ObjM s.heap x dx C mA)(hg:PySem.W.plainGet K C name=true)(hh:PySem.W.hasDictIn K C=true)
  (ha:PySem.W.findIn K (.ref C) name=some none) (hv:mA name=some v) (hv':PySem.W.handedIn v=true) (h:Q v {s with toks:=s.toks+1}) :
  wpAny (model prog w) A (getAttr (.ref x) name expr) Q E s:=by
 obtain ⟨od,J,hl⟩:=I.look
 exact PySem.W.get_value X J (PySem.W.plainGet_of hg).1 (PySem.W.findObj_own hh ha rfl (by rw [hl,hv])) hv' h
theorem lY{pl:Sem Bool}{Q:Value×List Value->Shared->Prop}(X:K.In s.heap)(I:ObjM s.heap x dx C mA)(hg:PySem.W.plainGet K C name=true)
  (hf:PySem.W.findIn K (.ref C) name=some (some (.ref f))) (ht:PySem.W.isFn K (.ref f)=true) (hv:mA name=none) (h:Q (.ref f,[.ref x]) s) :
  wpAny (model prog w) A (getMethod (.ref x) name pl) Q E s:=by
 obtain ⟨od,J,hl⟩:=I.look
 exact PySem.W.method_fn X J (PySem.W.plainGet_of hg).1 (PySem.W.plainGet_of hg).2 hf (beq_iff_eq.mp ht) (by show (PySem.W.lookIn name od).map (·.isSome)=some false;rw [hl,hv];rfl) h
theorem qE{ns:List Str}{Q:Unit->Shared->Prop}(X:K.In s.heap)(I:ObjM s.heap x dx C mA)
  (hs:PySem.W.findIn K (.ref C) "__setattr__"=some (some (.builtin "object.__setattr__"))) (hp:PySem.W.plainOver K C=true) (ht:PySem.W.takerIn K C name=some none) (hh:PySem.W.hasDictIn K C=true)
  (hw:PySem.Within mA ns) (hsz:ns.length<=sizeLine)
  (h:∀h',ObjM h' x dx C (fun y=>if y=name then some v else mA y)->Heap.SameBut dx s.heap h'->Q () {s with heap:=h',toks:=s.toks+2}) :
  wpAny (model prog w) A (setAttr (.ref x) name v) Q E s:=by
 obtain ⟨od,J,hl⟩:=I.look
 refine PySem.W.set_plain X J hs (PySem.W.osa_open (s:={s with toks:=s.toks+1}) (r:=none) X J hp ht fun b=>?_)
 obtain ⟨cd,hc,hd'⟩:=PySem.W.any_some hh
 have hx:s.heap.get? x=some ⟨.ref C,some dx,.plain,#[]⟩:=I.obj
 refine wpAny_bind (wpAny_pure (wpAny_bind (wpAny_bind (wpAny_loadPart hx (wpAny_bind (PySem.W.Looks.here (s:={s with toks:=s.toks+1}) (PySem.W.looks_clsIn X hc) ?_))))))
 rw [hd']
 refine wpAny_pure (a:=some dx) (wpAny_bind (wpAny_pure (wpAny_bind ?_)))
 refine wpAny_nsSet1 (s:={s with toks:=s.toks+1}) I.ns fun h' hn2 hs2=>?_
 obtain ⟨oD,esD,epD,hoD,hdD,hcD⟩:=hn2.count (PySem.Within.cons name v hw)
 refine wpAny_bind (wpAny_lookBehind hoD (by rw [hdD];exact pastItsLine_dict (Nat.le_trans hcD (by rw [List.length_cons];omega))) ?_)
 exact wpAny_pure (h _ ⟨(hs2.2 _ (Ne.symm I.ne)).trans I.obj,hn2,I.ne⟩ hs2)
theorem mn{R:Result->Shared->Prop}{vs:List Value}{kw:List (Str×Value)}(X:K.In s.heap)(hm:PySem.W.makesIn K C=true)
  (hi:PySem.W.findIn K (.ref C) "__init__"=some (some (.ref f))) (hf:PySem.W.typeIn K (.ref f)=some (.type "function"))
  (h:codeAny (model prog w) (A.under (.builtin "type.__call__" ⟨.ref C :: vs,kw⟩)) (.call (.ref f) ⟨.ref (s.heap.objs.size+1) :: vs,kw⟩) (PySem.W.InitBack (s.heap.objs.size+1) R)
   {s with heap:=(s.heap.push PySem.W.emptyDict).push (PySem.W.instObj C s.heap.objs.size)}) :
  codeAny (model prog w) A (.call (.ref C) ⟨vs,kw⟩) R s:=by
 obtain ⟨hh,g,d,t,os⟩:=s
 exact PySem.W.make_core (PySem.W.makes_of X hm) (PySem.W.looks_findIn X hi) (fun self=>PySem.W.bind_fn X self hf) (.inl rfl) h
end
def bH(f:Str)(v:V):List (Str×V)->List (Str×V)
 | []=>[(f,v)]
 | (g,x) :: r=>if g=f then (g,v) :: r else (g,x) :: bH f v r
theorem dL(f g:Str)(v:V):∀fs:List (Str×V),(bH f v fs).lookup g=if g=f then some v else fs.lookup g
 | []=>by
  show List.lookup g [(f,v)]=_
  by_cases h:g=f
  ·have hb:(g == f)=true:=beq_iff_eq.mpr h
   simp only [List.lookup,hb,if_pos h]
  ·have hb:(g == f)=false:=beq_eq_false_iff_ne.mpr h
   simp only [List.lookup,hb,if_neg h]
 | (k,x) :: r=>by
  have ih:=dL f g v r
  rw [show bH f v ((k,x) :: r)=(if k=f then (k,v) :: r else (k,x) :: bH f v r) from rfl]
  by_cases hk:k=f
  ·rw [if_pos hk]
   by_cases h:g=k
   ·have hb:(g == k)=true:=beq_iff_eq.mpr h
    simp only [List.lookup,hb,if_pos (h.trans hk)]
   ·have hb:(g == k)=false:=beq_eq_false_iff_ne.mpr h
    simp only [List.lookup,hb,if_neg (fun e:g=f=>h (e.trans hk.symm))]
  ·rw [if_neg hk]
   by_cases h:g=k
   ·have hb:(g == k)=true:=beq_iff_eq.mpr h
    simp only [List.lookup,hb,if_neg (fun e:g=f=>hk (h.symm.trans e))]
   ·have hb:(g == k)=false:=beq_eq_false_iff_ne.mpr h
    simp only [List.lookup,hb]
    exact ih
theorem dz(f:Str)(v:V):∀fs:List (Str×V),f∈(bH f v fs).map (·.1)/\∀g,g∈fs.map (·.1)->g∈(bH f v fs).map (·.1)
 | []=>⟨by simp [bH],fun g h=>by simp at h⟩
 | (k,x) :: r=>by
  obtain ⟨i1,i2⟩:=dz f v r
  rw [show bH f v ((k,x) :: r)=(if k=f then (k,v) :: r else (k,x) :: bH f v r) from rfl]
  by_cases hk:k=f
  ·rw [if_pos hk]
   subst hk
   exact ⟨by simp,fun g h=>by simpa using h⟩
  ·rw [if_neg hk]
   refine ⟨?_,fun g h=>?_⟩
   ·rw [List.map_cons]
    exact List.mem_cons_of_mem _ i1
   ·rw [List.map_cons] at h ⊢
    rcases List.mem_cons.mp h with e | e
    ·exact List.mem_cons.mpr (.inl e)
    ·exact List.mem_cons_of_mem _ (i2 g e)
theorem dJ(f:Str)(v:V):∀fs:List (Str×V),(bH f v fs).length<=fs.length+1
 | []=>by simp [bH]
 | (k,x) :: r=>by
  have ih:=dJ f v r
  rw [show bH f v ((k,x) :: r)=(if k=f then (k,v) :: r else (k,x) :: bH f v r) from rfl]
  by_cases hk:k=f
  ·rw [if_pos hk,List.length_cons,List.length_cons];omega
  ·rw [if_neg hk,List.length_cons,List.length_cons];omega
theorem RelO.some_of{v:V}{o:Option Value}(r:RelO (some v) o):∃u,o=some u/\RelV v u:=by
 cases o with
 | none=>exact (show False from r).elim
 | some u=>exact ⟨u,rfl,r⟩
theorem RelO.none_of{o:Option Value}(r:RelO none o):o=none:=by
 cases o with
 | none=>rfl
 | some u=>exact (show False from r).elim
theorem kI{v:V}{u:Value}(r:RelV v u):PySem.W.handedIn u=true:=by
 cases v with
 | non=>cases (show u=Value.none from r);rfl
 | bl b=>cases (show u=Value.bool b from r);rfl
 | int i=>obtain ⟨t,e⟩:=(show ∃t,u=Value.int i t from r);cases e;rfl
 | str x=>obtain ⟨t,e⟩:=(show ∃t,u=Value.str x t from r);cases e;rfl
 | byt b=>obtain ⟨t,e⟩:=(show ∃t,u=Value.bytes b t from r);cases e;rfl
 | flt b=>obtain ⟨t,e⟩:=(show ∃t,u=Value.float b t from r);cases e;rfl
 | ref a=>cases (show u=Value.ref a from r);rfl
 | ty n=>cases (show u=Value.type n from r);rfl
section
variable {P:Program} {w:World} {H H':Hp} {h h':Heap} {a C dx:Addr} {fs fs':List (Str×V)}
theorem gy(hok:HOk P w H h)(e:H a=some (.ins C dx fs)):∃mA,ObjM h a dx C mA/\(∀f,RelO (fs.lookup f) (mA f))/\PySem.Within mA (fs.map (·.1))/\fs.length<=1000/\H dx=some (.own a):=by
 obtain ⟨d,z,ne,ob,mA,n,r,q⟩:=(show ObjOk P w H h a (.ins C dx fs) from hok a _ e)
 exact ⟨mA,⟨ob,n,ne⟩,r,q,z,d⟩
end
structure Cls(K:PySem.W.Frag)(C:Addr):Prop where
 pg:PySem.W.plainGet K C Str.empty=true
 hd:PySem.W.hasDictIn K C=true
 po:PySem.W.plainOver K C=true
 sa:PySem.W.findIn K (.ref C) "__setattr__"=some (some (.builtin "object.__setattr__"))
theorem Cls.get{K:PySem.W.Frag}{C:Addr}(c:Cls K C)(f:Str):PySem.W.plainGet K C f=true:=c.pg
def NoAttr(K:PySem.W.Frag)(C:Addr)(f:Str):Prop:=PySem.W.findIn K (.ref C) f=some none
theorem NoAttr.taker{K:PySem.W.Frag}{C:Addr}{f:Str}(n:NoAttr K C f):PySem.W.takerIn K C f=some none:=by
 unfold PySem.W.takerIn
 rw [show PySem.W.findIn K (.ref C) f=some none from n]
 rfl
structure kr(K:PySem.W.Frag)(C:Addr)(m:Str)(f:Addr):Prop where
 at_:PySem.W.findIn K (.ref C) m=some (some (.ref f))
 fn:PySem.W.isFn K (.ref f)=true
 kp:PySem.W.keepIn K (.ref f)=true
section
variable {X:Cx} {pins:List (Addr×Obj)} {σ:St} {H:Hp} {s:Shared} {a C dx:Addr} {fs:List (Str×V)} {f:Str} {v:V} {A:Around} {E:Value->Shared->Prop}
theorem iU{b:Bool}{Q:Value->Shared->Prop}(I:Inv X pins σ H s)(e:H a=some (.ins C dx fs))(c:Cls X.K C)(n:NoAttr X.K C f)(l:fs.lookup f=some v)
  (h:∀u s',Inv X pins σ H s'->RelV v u->Q u s'):wpAny (model X.prog X.w) A (getAttr (.ref a) f b) Q E s:=by
 obtain ⟨mA,O,r,_,_,_⟩:=gy I.hok e
 obtain ⟨u,hu,ru⟩:=RelO.some_of (v:=v) (o:=mA f) (by rw [<- l];exact r f)
 exact pM I.kIn O (c.get f) c.hd n hu (kI ru) (h u _ (I.tok _) ru)
theorem cQ{m:Str}{g:Addr}{pl:Sem Bool}{Q:Value×List Value->Shared->Prop}(I:Inv X pins σ H s)(e:H a=some (.ins C dx fs))(c:Cls X.K C)(k:kr X.K C m g)(l:fs.lookup m=none)
  (h:Q (.ref g,[.ref a]) s):wpAny (model X.prog X.w) A (getMethod (.ref a) m pl) Q E s:=by
 obtain ⟨mA,O,r,_,_,_⟩:=gy I.hok e
 have hn:mA m=none:=RelO.none_of (by rw [<- l];exact r m)
 exact lY I.kIn O (c.get m) k.at_ k.fn hn h
theorem jc{y:V}{u:Value}{Q:Unit->Shared->Prop}(I:Inv X pins σ H s)(e:H a=some (.ins C dx fs))(c:Cls X.K C)(n:NoAttr X.K C f)(hl:fs.length < 1000)(ry:RelV y u)
  (h:∀s',Inv X pins σ (upd H a (.ins C dx (bH f y fs))) s'->Q () s'):wpAny (model X.prog X.w) A (setAttr (.ref a) f u) Q E s:=by
 obtain ⟨mA,O,r,wi,_,ho⟩:=gy I.hok e
 have hz:(fs.map (·.1)).length<=sizeLine:=by rw [List.length_map,sizeLine_eq];omega
 refine qE I.kIn O c.sa c.po n.taker c.hd wi hz fun h' O' sb=>h _ ?_
 have hd:∃o,h'.get? dx=some o:=let ⟨o,_,_,e',_⟩:=O'.ns;⟨o,e'⟩
 refine I.write (x:=a) (e:=dx) (by rw [e];exact True.intro) (.inr ho) (fun b q hb z=>(sb.2 b hb).trans z) hd ?_
 refine ⟨by rw [ap O.ne];exact ho,?_,O.ne,O'.obj,_,O'.ns,fun g=>?_,fun g hg=>?_⟩
 ·have:=dJ f y fs;omega
 ·show RelO ((bH f y fs).lookup g) (if g=f then some u else mA g)
  rw [dL]
  by_cases q:g=f
  ·rw [if_pos q,if_pos q];exact ry
  ·rw [if_neg q,if_neg q];exact r g
 ·by_cases q:g=f
  ·rw [q];exact (dz f y fs).1
  ·refine (dz f y fs).2 g (wi g fun z=>hg ?_)
   show (if g=f then some u else mA g)=none
   rw [if_neg q];exact z
theorem Inv.made(I:Inv X pins σ H s):Inv X pins σ (upd (upd H s.heap.objs.size (.own (s.heap.objs.size+1))) (s.heap.objs.size+1) (.ins C s.heap.objs.size []))
  {s with heap:=(s.heap.push PySem.W.emptyDict).push (PySem.W.instObj C s.heap.objs.size)}:=by
 have e1:(s.heap.push PySem.W.emptyDict).get? s.heap.objs.size=some PySem.W.emptyDict:=Heap.get?_push_size s.heap rfl
 have e2:((s.heap.push PySem.W.emptyDict).push (PySem.W.instObj C s.heap.objs.size)).get? (s.heap.objs.size+1)=some (PySem.W.instObj C s.heap.objs.size):=by
  have:=Heap.get?_push_size (s.heap.push PySem.W.emptyDict) (o:=PySem.W.instObj C s.heap.objs.size) rfl
  rwa [Heap.size_push] at this
 have e3:(s.heap.push PySem.W.emptyDict).Ns s.heap.objs.size (fun _=>none):=⟨PySem.W.emptyDict,#[],_,e1,rfl,(fun e he=>absurd he (by simp)),fun _=>rfl⟩
 have I1:=I.laid (a:=s.heap.objs.size) (o:=.own (s.heap.objs.size+1)) (h':=s.heap.push PySem.W.emptyDict) (t':=s.toks) (fun b u q=>Heap.get?_push_of_some _ q) (Nat.le_refl _) ⟨_,e1⟩
 refine I1.laid (a:=s.heap.objs.size+1) (o:=.ins C s.heap.objs.size []) (t':=s.toks) (fun b u q=>Heap.get?_push_of_some _ q) (Nat.le_of_eq (Heap.size_push _ _)) ?_
 have ne:s.heap.objs.size≠s.heap.objs.size+1:=Nat.ne_of_lt (Nat.lt_succ_self _)
 refine ⟨by rw [ap ne,ae],Nat.zero_le _,ne,e2,fun _=>none,(Heap.Ns1.of_empty e3).at fun o q=>Heap.get?_push_of_some _ q,fun _=>True.intro,fun y hy=>absurd rfl hy⟩
theorem pE{prog:Program}{w:World}{env:Env}{e:Expr}{f:Str}{pos:Pos}{s:Shared}{Q:Value->Shared->Prop}(hb:attributeBase e f env (eval e env)=eval e env)
  (h:wpAny (model prog w) A (eval e env) (fun o s₁=>wpAny (model prog w) A (getAttr o f true) Q E s₁) E s):wpAny (model prog w) A (eval (.Attribute e f pos) env) Q E s:=
 Attribute_any_ h (by rw [arm_eval_Attribute,hb])
end
def u5(K:PySem.W.Frag)(ta:TE)(f:Str):TE:=fun σ H Q=>ta σ H fun x H1=>∃a C dx fs v,x=.ref a/\H1 a=some (.ins C dx fs)/\Cls K C/\NoAttr K C f/\fs.lookup f=some v/\Q v H1
def u1(K:PySem.W.Frag)(ta tv:TE)(f:Str):TS:=fun D σ H=>tv σ H fun y H1=>ta σ H1 fun x H2=>∃a C dx fs,x=.ref a/\H2 a=some (.ins C dx fs)/\Cls K C/\NoAttr K C f/\fs.length < 1000/\
 D.nx σ (upd H2 a (.ins C dx (bH f y fs)))
section
variable {X:Cx} {o e value:Expr} {f:Str} {pos pos' tpos:Pos} {ta tv:TE}
theorem tf(he:PE X e ta)(hb:attributeBase e f X.env (eval e X.env)=eval e X.env):PE X (.Attribute e f pos) (u5 X.K ta f):=by
 intro pins s σ H Q I h
 refine pE hb (thn (he pins s σ H _ I h) fun u s1 hhx=>?_)
 obtain ⟨x,H1,I1,rx,a,C,dx,fs,v,ex,ea,c,n,l,q⟩:=hhx
 subst ex
 obtain rfl:u=Value.ref a:=rx
 exact iU I1 ea c n l fun u' s2 I2 ru=>⟨v,H1,I2,ru,q⟩
theorem tL(ha:PE X o ta)(hv:PE X value tv)(hs:swapsWith value (some (.Attribute o f pos')) pos.line X.env=pure false):PS X (.Assign [.Attribute o f pos'] value pos) (u1 X.K ta tv f):=by
 intro pins s σ H D I h
 refine plainObj_wpAny_Assign_Attribute (thn (hv pins s σ H _ I h) fun u s1 ⟨y,H1,I1,ry,q⟩=>thn (ha pins s1 σ H1 _ I1 q) fun ov s2 hhx=>?_) hs
 obtain ⟨x,H2,I2,rx,a,C,dx,fs,ex,ea,c,n,l,q2⟩:=hhx
 subst ex
 obtain rfl:ov=Value.ref a:=rx
 exact jc I2 ea c n l ry fun s3 I3=>⟨σ,_,I3,q2⟩
theorem qW{pl:Sem Bool}{m:Str}{apos:Pos}{args:List Expr}{pins:List (Addr×Obj)}{s:Shared}{σ:St}{H:Hp}{Q:Value->Shared->Prop}{te:TE}(he:PE X e te)(I:Inv X pins σ H s)
  (h:te σ H fun x H1=>∃a C dx fs g,x=.ref a/\H1 a=some (.ins C dx fs)/\Cls X.K C/\kr X.K C m g/\fs.lookup m=none/\
   ∀s1,Inv X pins σ H1 s1->wpAny (model X.prog X.w) X.A (callWith pos (.ref g) [.ref a] (backTo pos (starEach args X.env)) (backToKw pos (keywordEach [] X.env))) Q X.xe s1)
  (ht:eval (.Call (.Attribute e m apos) args [] pos) X.env=(do
   let ov <- eval e X.env
   standAt apos.atName
   let (f,first) <- holding [ov] (getMethod ov m pl)
   callWith pos f first (backTo pos (starEach args X.env)) (backToKw pos (keywordEach [] X.env)))) :
  wpAny (model X.prog X.w) X.A (eval (.Call (.Attribute e m apos) args [] pos) X.env) Q X.xe s:=by
 refine PySem.W.methodCall_KW (pl:=pl) (thn (he pins s σ H _ I h) fun u s1 hhx=>?_) ht
 obtain ⟨x,H1,I1,rx,a,C,dx,fs,g,ex,ea,c,k,l,q⟩:=hhx
 subst ex
 obtain rfl:u=Value.ref a:=rx
 exact cQ I1 ea c k l (q s1 I1)
end
section
variable {X:Cx} {pins:List (Addr×Obj)} {σ:St} {H:Hp} {s:Shared} {A:Around} {E:Value->Shared->Prop} {Q:Value->Shared->Prop} {c:Value} {b:Bool}
end
end L2
variable {us:List Value}
namespace L2
open PySem PySem.Spec PyProof.Rows
structure Room(k:Nat)(A:Around):Prop where
 hd:A.handled=none
 dp:A.depth+3 * k+5 < recursionLimit
 un:A.units+16 * k+200 < cLine
theorem Room.mono{j k:Nat}{A:Around}(r:Room k A)(h:j<=k):Room j A:=⟨r.hd,by have:=r.dp;omega,by have:=r.un;omega⟩
theorem Room.deeper{k:Nat}{A:Around}(r:Room (k+1) A)(env:Env):Room k (A.deeper env):=
 ⟨r.hd,by have:=r.dp;show A.depth+1+3 * k+5 < _;omega,by have:=r.un;show A.units+3+16 * k+200 < _;omega⟩
theorem iW{A:Around}{C:Addr}{kw:List (Str×Value)}:(A.under (.builtin "type.__call__" ⟨.ref C :: us,kw⟩)).depth=A.depth+1:=by
 first | rfl | simp [Around.under,Code.weight,Code.isCreation,Code.isGuard,Code.isCaller,Code.frames,Code.isFrame,guardIds]
theorem iX{A:Around}{C:Addr}{kw:List (Str×Value)}:(A.under (.builtin "type.__call__" ⟨.ref C :: us,kw⟩)).units=A.units+1:=by
 first | rfl | simp [Around.under,Code.cUnits,Code.frames,Code.isFrame]
theorem Room.make{k:Nat}{A:Around}(r:Room (k+1) A)(C:Addr)(us:List Value)(kw:List (Str×Value)):Room k (A.under (.builtin "type.__call__" ⟨.ref C :: us,kw⟩)):=
 ⟨r.hd,by have:=r.dp;rw [iW];omega,by have:=r.un;rw [iX];omega⟩
theorem Room.depth{k:Nat}{A:Around}(r:Room k A):A.depth < recursionLimit:=by have:=r.dp;omega
theorem Room.units{k:Nat}{A:Around}(r:Room k A):A.units+64 < cLine:=by have:=r.un;omega
theorem Room.units0{k:Nat}{A:Around}(r:Room k A):A.units < cLine:=by have:=r.un;omega
def lj:TA:=fun _ H Q=>Q [] H
def oT(ta:TE)(tr:TA):TA:=fun σ H Q=>ta σ H fun x H1=>tr σ H1 fun xs H2=>Q (x :: xs) H2
section
variable {X:Cx} {e:Expr} {es:List Expr} {te:TE} {t:TA} {pos:Pos}
theorem mW:PA X [] lj:=fun _ _ _ _ H Q I h=>Calls.spliced_nil ⟨[],H,I,.nil,h⟩
theorem jF(ha:PE X e te)(hr:PA X es t)(hs:starEach (e :: es) X.env=(false,eval e X.env) :: starEach es X.env:=by rfl):PA X (e :: es) (oT te t):=by
 intro pos pins s σ H Q I h
 rw [hs]
 show wpAny _ _ (spliced ((false,eval e X.env) :: backTo pos (starEach es X.env))) _ _ s
 refine Calls.spliced_cons (thn (ha pins s σ H _ I h) fun u s1 hhx=>?_)
 obtain ⟨x,H1,I1,r1,q1⟩:=hhx
 exact thn (hr pos pins s1 σ H1 _ I1 q1) fun us s2 ⟨xs,H2,I2,r2,q2⟩=>⟨x :: xs,H2,I2,.cons r1 r2,q2⟩
def ud(t:TA):TE:=fun σ H Q=>t σ H fun xs H1=>xs.length<=sizeLine/\∀p,H1 p=none->Q (.ref p) (upd H1 p (.tup xs))
def u9(t:TA):TE:=fun σ H Q=>t σ H fun xs H1=>xs.length<=sizeLine/\∀p,H1 p=none->Q (.ref p) (upd H1 p (.lst xs))
theorem tw{x1}(h:PA X es t):PE X (.Tuple es x1 pos) (ud t):=by
 intro pins s σ H Q I hq
 refine wpAny_Tuple_spliced (thn (h pos pins s σ H _ I hq) fun us s1 ⟨xs,H1,I1,r,z,q⟩=>⟨by rw [<- r.length];exact z,?_⟩)
 have hf:H1 s1.heap.objs.size=none:=I1.hok.fresh (Nat.le_refl _)
 refine ⟨.ref s1.heap.objs.size,upd H1 s1.heap.objs.size (.tup xs),I1.laid (t':=s1.toks) (fun b u e=>Heap.get?_push_of_some _ e) (Nat.le_refl _) ?_,rfl,q _ hf⟩
 exact ⟨z,us,r,⟨_,Heap.get?_push_size _ rfl,rfl,_,rfl⟩⟩
theorem tj(h:PA X es t):PE X (.List es pos) (u9 t):=by
 intro pins s σ H Q I hq
 refine wpAny_List_spliced (thn (h pos pins s σ H _ I hq) fun us s1 ⟨xs,H1,I1,r,z,q⟩=>⟨by rw [<- r.length];exact z,?_⟩)
 have hf:H1 s1.heap.objs.size=none:=I1.hok.fresh (Nat.le_refl _)
 refine ⟨.ref s1.heap.objs.size,upd H1 s1.heap.objs.size (.lst xs),I1.laid (t':=s1.toks) (fun b u e=>Heap.get?_push_of_some _ e) (Nat.le_refl _) ?_,rfl,q _ hf⟩
 exact ⟨z,us,0,r,Heap.get?_push_size _ rfl⟩
end
abbrev Sp:=List V->Hp->VK->XK->Prop
abbrev CXT:=List Env->Hp->Shared->XK->Value->Shared->Prop
structure Env0(P:Program)(w:World)(K:PySem.W.Frag)(mg:Str->Option Value)(base:Heap)(A:Around)(outer:List Env)(s:Shared)(H:Hp):Prop where
 frames:A.frames=some outer
 mod:Mod K mg base
 bs:∀b o,base.get? b=some o->s.heap.get? b=some o/\H b=none
 bsz:base.objs.size<=s.heap.objs.size
 funs:s.heap.FunFrames base outer
 frf:∀b∈frs outer,H b=none
 hok:HOk P w H s.heap
 bare:AllBare s.gens
def CE(outer:List Env)(P:Program)(w:World)(H:Hp)(s:Shared)(Q:VK)(u:Value)(s':Shared):Prop:=
 ∃v H',s'.os=s.os/\AllBare s'.gens/\Un (frs outer) [] H H' s.heap s'.heap/\HOk P w H' s'.heap/\RelV v u/\Q v H'
def CR(CX:CXT)(outer:List Env)(P:Program)(w:World)(H:Hp)(s:Shared)(Q:VK)(E:XK)(r:Result)(s':Shared):Prop:=
 match r with
 | .ok (.ret u)=>CE outer P w H s Q u s'
 | .ok _=>False
 | .error e=>CX outer H s E e s'
structure FnOk(P:Program)(w:World)(K:PySem.W.Frag)(mg:Str->Option Value)(base:Heap)(CX:CXT)(k:Nat)(f:Addr)(fd:FuncData)(ps:List Str)(sp:Sp):Prop where
 len:∀vs H Q E,sp vs H Q E->vs.length=ps.length
 run:∀(A:Around)(outer:List Env)(s:Shared)(H:Hp)(args:Args)(us:List Value)(vs:List V)(Q:VK)(E:XK),Room k A->Env0 P w K mg base A outer s H->BindsTo s fd args (ps.zip us)->Vals vs us->sp vs H Q E->
  codeAny (model P w) A (.call (.ref f) args) (CR CX outer P w H s Q E) s
theorem FnOk.mono{P:Program}{w:World}{K:PySem.W.Frag}{mg:Str->Option Value}{base:Heap}{CX:CXT}{j k:Nat}{f:Addr}{fd:FuncData}{ps:List Str}{sp:Sp}(F:FnOk P w K mg base CX j f fd ps sp)(h:j<=k):
  FnOk P w K mg base CX k f fd ps sp:=⟨F.len,fun A outer s H args us vs Q E hr=>F.run A outer s H args us vs Q E (hr.mono h)⟩
theorem Env0.make{P:Program}{w:World}{K:PySem.W.Frag}{mg:Str->Option Value}{base:Heap}{A:Around}{outer:List Env}{s:Shared}{H:Hp}(e:Env0 P w K mg base A outer s H)(C:Addr)(us:List Value)(kw:List (Str×Value)):
  Env0 P w K mg base (A.under (.builtin "type.__call__" ⟨.ref C :: us,kw⟩)) outer s H:=⟨by first | exact e.frames | (simpa [Around.under,Code.envs,Code.isFrame,pushEnvs] using e.frames),e.mod,e.bs,e.bsz,e.funs,e.frf,e.hok,e.bare⟩
section
variable {X:Cx} {pins:List (Addr×Obj)} {σ:St} {H:Hp} {s s':Shared}
theorem Inv.env0(I:Inv X pins σ H s):Env0 X.prog X.w X.K X.mg X.base X.A X.stack s H:=
 ⟨I.ok.frames,I.ok.mod,I.bs,Nat.le_trans I.ok.bsz I.sz,I.stack,I.stkFree,I.hok,I.bare⟩
theorem Inv.after{Q:VK}{u:Value}(I:Inv X pins σ H s)(h:CE X.stack X.prog X.w H s Q u s'):EP X pins σ Q u s':=by
 obtain ⟨v,H',os,bare,un,hok,r,q⟩:=h
 obtain ⟨hh,g,d,t,os'⟩:=s'
 obtain rfl:os'=s.os:=os
 exact ⟨v,H',I.call (h':=hh) (g':=g) (d':=d) (t':=t) (ch:=[]) un hok bare (fun b z=>absurd z (by simp)),r,q⟩
end
def iI(sp:Sp)(dvs:List V)(E:XK)(t:TA):TE:=fun σ H Q=>t σ H fun vs H1=>sp (vs ++ dvs) H1 Q E
def dZ(C:Addr)(m:Str)(sp:Sp)(dvs:List V)(E:XK)(ta:TE)(t:TA):TE:=fun σ H Q=>ta σ H fun x H1=>∃a dx fs,x=.ref a/\H1 a=some (.ins C dx fs)/\fs.lookup m=none/\
 t σ H1 fun vs H2=>sp (x :: (vs ++ dvs)) H2 Q E
def iJ(C:Addr)(sp:Sp)(dvs:List V)(E:XK)(t:TA):TE:=fun σ H Q=>t σ H fun vs H1=>∀x dx,H1 x=none->H1 dx=none->dx≠x->
 sp (.ref x :: (vs ++ dvs)) (upd (upd H1 dx (.own x)) x (.ins C dx [])) (fun v H2=>v=.non/\Q (.ref x) H2) E
def Binds(K:PySem.W.Frag)(fd:FuncData)(ps:List Str)(ds:List Value):Prop:=
 ∀(s:Shared)(us:List Value),K.In s.heap->(us ++ ds).length=ps.length->BindsTo s fd ⟨us,[]⟩ (ps.zip (us ++ ds))
theorem Binds.all{K:PySem.W.Frag}{fd:FuncData}{ps:List Str}(h:∀us:List Value,us.length=ps.length->bindArgs fd ⟨us,[]⟩=pure (ps.zip us)):Binds K fd ps []:=fun s us _ hl=>by
 rw [List.append_nil] at hl ⊢
 exact .of_eq (h us hl)
def cn(CX:CXT)(X:Cx)(E:XK):Prop:=∀(pins:List (Addr×Obj)) (σ:St) (H:Hp) (s:Shared) (e:Value) (s':Shared),Inv X pins σ H s->CX X.stack H s E e s'->X.xe e s'
section
variable {X:Cx} {CX:CXT} {k:Nat} {f C:Addr} {fd:FuncData} {ps:List Str} {sp:Sp} {dvs:List V} {ds:List Value} {E:XK} {x m:Str} {p pos apos:Pos} {e o:Expr} {es:List Expr} {ta:TE} {t:TA}
theorem j8{pins:List (Addr×Obj)}{σ:St}{H:Hp}{s:Shared}{Q:VK}{vs:List V}(F:FnOk X.prog X.w X.K X.mg X.base CX k f fd ps sp)(hr:Room k X.A)(hb:Binds X.K fd ps ds)(hd:Vals dvs ds)(hx:cn CX X E)
 (I:Inv X pins σ H s) (r:Vals vs us) (h:sp (vs ++ dvs) H Q E):wpAny (model X.prog X.w) X.A (call (.ref f) us) (EP X pins σ Q) X.xe s:=by
 have r2:Vals (vs ++ dvs) (us ++ ds):=r.append hd
 have hl:(us ++ ds).length=ps.length:=by rw [<- r2.length];exact F.len _ _ _ _ h
 refine wpAny_call (codeAny_mono (F.run X.A X.stack s H ⟨us,[]⟩ (us ++ ds) (vs ++ dvs) Q E hr I.env0 (hb s us I.kIn hl) r2 h) fun r s' hq=>?_)
 cases r with
 | error e=>exact hx pins σ H s e s' I hq
 | ok fl=>
  cases fl with
  | ret u=>exact I.after hq
  | next=>exact False.elim hq
  | brk=>exact False.elim hq
  | cont=>exact False.elim hq
theorem qb(F:FnOk X.prog X.w X.K X.mg X.base CX k f fd ps sp)(hr:Room k X.A)(hg:Gl X x)(hm:X.mg x=some (.ref f))(hk:PySem.W.keepIn X.K (.ref f)=true)(hb:Binds X.K fd ps ds)(hd:Vals dvs ds)(hx:cn CX X E)
  (ha:PA X (e :: es) t) (hdb:(x == ("__debug__":Str))=false:=by decide) (he:starEach (e :: es) X.env=(false,eval e X.env) :: starEach es X.env:=by rfl) (hpl:(backTo pos (starEach es X.env)).any (·.1)=false:=by rfl) :
  PE X (.Call (.Name x p) (e :: es) [] pos) (iI sp dvs E t):=by
 intro pins s σ H Q I h
 refine wpAny_Call_Name_kw (jC I hg hm ?_ hdb)
 refine PySem.W.callWith_K (h₀:=X.base) I.ok.mod.kin hk (thn (ha pos pins s σ H _ I h) fun us s1 ⟨vs,H1,I1,r,q⟩=>⟨I1.kIn,?_⟩) he hpl
 exact j8 F hr hb hd hx I1 r q
theorem jH{pl:Sem Bool}(he:PE X o ta)(c:Cls X.K C)(hm:kr X.K C m f)(F:FnOk X.prog X.w X.K X.mg X.base CX k f fd ps sp)(hr:Room k X.A)(hb:Binds X.K fd ps ds)(hd:Vals dvs ds)(hx:cn CX X E)(ha:PA X (e :: es) t)
  (hst:starEach (e :: es) X.env=(false,eval e X.env) :: starEach es X.env:=by rfl) (hpl:(backTo pos (starEach es X.env)).any (·.1)=false:=by rfl)
  (ht:eval (.Call (.Attribute o m apos) (e :: es) [] pos) X.env=(do
   let ov <- eval o X.env
   standAt apos.atName
   let (f,first) <- holding [ov] (getMethod ov m pl)
   callWith pos f first (backTo pos (starEach (e :: es) X.env)) (backToKw pos (keywordEach [] X.env))):=by rfl) :
  PE X (.Call (.Attribute o m apos) (e :: es) [] pos) (dZ C m sp dvs E ta t):=by
 intro pins s σ H Q I h
 refine PySem.W.methodCall_KW (pl:=pl) (thn (he pins s σ H _ I h) fun u s1 hhx=>?_) ht
 obtain ⟨x,H1,I1,rx,a,dx,fs,ex,ea,l,q⟩:=hhx
 subst ex
 obtain rfl:u=Value.ref a:=rx
 refine cQ I1 ea c hm l ?_
 refine PySem.W.callWith_K (first:=[.ref a]) (h₀:=X.base) I.ok.mod.kin hm.kp (thn (ha pos pins s1 σ H1 _ I1 q) fun us s2 ⟨vs,H2,I2,r,q2⟩=>⟨I2.kIn,?_⟩) hst hpl
 exact j8 (us:=.ref a :: us) (vs:=.ref a :: vs) F hr hb hd hx I2 (.cons rfl r) q2
theorem nh{pl:Sem Bool}(he:PE X o ta)(c:Cls X.K C)(hm:kr X.K C m f)(F:FnOk X.prog X.w X.K X.mg X.base CX k f fd ps sp)(hr:Room k X.A)(hb:Binds X.K fd ps ds)(hd:Vals dvs ds)(hx:cn CX X E)
  (ht:eval (.Call (.Attribute o m apos) [] [] pos) X.env=(do
   let ov <- eval o X.env
   standAt apos.atName
   let (f,first) <- holding [ov] (getMethod ov m pl)
   callWith pos f first (backTo pos (starEach [] X.env)) (backToKw pos (keywordEach [] X.env))):=by rfl) :
  PE X (.Call (.Attribute o m apos) [] [] pos) (dZ C m sp dvs E ta lj):=by
 intro pins s σ H Q I h
 refine PySem.W.methodCall_KW (pl:=pl) (thn (he pins s σ H _ I h) fun u s1 hhx=>?_) ht
 obtain ⟨x,H1,I1,rx,a,dx,fs,ex,ea,l,q⟩:=hhx
 subst ex
 obtain rfl:u=Value.ref a:=rx
 refine cQ I1 ea c hm l ?_
 exact PySem.W.callWith_K0 (first:=[.ref a]) I1.kIn hm.kp (j8 (us:=[.ref a]) (vs:=[.ref a]) F hr hb hd hx I1 (.cons rfl .nil) q)
structure Mk(K:PySem.W.Frag)(C f:Addr):Prop where
 makes:PySem.W.makesIn K C=true
 init:PySem.W.findIn K (.ref C) "__init__"=some (some (.ref f))
 fn:PySem.W.isFn K (.ref f)=true
 kp:PySem.W.keepIn K (.ref C)=true
theorem oF{pins:List (Addr×Obj)}{σ:St}{H:Hp}{s:Shared}{Q:VK}{us:List Value}{vs:List V}(M:Mk X.K C f)(F:FnOk X.prog X.w X.K X.mg X.base CX k f fd ps sp)(hr:Room (k+1) X.A)(hb:Binds X.K fd ps ds)(hd:Vals dvs ds)
  (hx:cn CX X E) (I:Inv X pins σ H s) (r:Vals vs us)
  (h:∀x dx,H x=none->H dx=none->dx≠x->sp (.ref x :: (vs ++ dvs)) (upd (upd H dx (.own x)) x (.ins C dx [])) (fun v H2=>v=.non/\Q (.ref x) H2) E) :
  wpAny (model X.prog X.w) X.A (call (.ref C) us) (EP X pins σ Q) X.xe s:=by
 have hq:=h (s.heap.objs.size+1) s.heap.objs.size (I.hok.fresh (Nat.le_succ _)) (I.hok.fresh (Nat.le_refl _)) (Nat.ne_of_lt (Nat.lt_succ_self _))
 have I2:=Inv.made (C:=C) I
 have r2:Vals (V.ref (s.heap.objs.size+1) :: (vs ++ dvs)) (Value.ref (s.heap.objs.size+1) :: (us ++ ds)):=.cons rfl (r.append hd)
 have hl:(Value.ref (s.heap.objs.size+1) :: us ++ ds).length=ps.length:=by
  have e:=r2.length
  rw [F.len _ _ _ _ hq] at e
  exact e.symm
 refine wpAny_call (mn (f:=f) I.kIn M.makes M.init (beq_iff_eq.mp M.fn) (codeAny_mono (F.run _ X.stack _ _ ⟨Value.ref (s.heap.objs.size+1) :: us,[]⟩ (Value.ref (s.heap.objs.size+1) :: (us ++ ds)) _ _ E (hr.make C us [])
  (I2.env0.make C us []) (hb _ (Value.ref (s.heap.objs.size+1) :: us) I2.kIn hl) r2 hq) fun r s' hq'=>?_))
 cases r with
 | error e=>exact hx pins σ _ _ e s' I2 hq'
 | ok fl=>
  cases fl with
  | ret u=>
   obtain ⟨v,H',I3,rv,ev,q3⟩:=I2.after hq'
   subst ev
   exact ⟨rv,⟨V.ref (s.heap.objs.size+1),H',I3,rfl,q3⟩⟩
  | next=>exact False.elim hq'
  | brk=>exact False.elim hq'
  | cont=>exact False.elim hq'
theorem qf(M:Mk X.K C f)(F:FnOk X.prog X.w X.K X.mg X.base CX k f fd ps sp)(hr:Room (k+1) X.A)(hg:Gl X x)(hm:X.mg x=some (.ref C))(hb:Binds X.K fd ps ds)(hd:Vals dvs ds)(hx:cn CX X E)
  (ha:PA X (e :: es) t) (hdb:(x == ("__debug__":Str))=false:=by decide) (he:starEach (e :: es) X.env=(false,eval e X.env) :: starEach es X.env:=by rfl) (hpl:(backTo pos (starEach es X.env)).any (·.1)=false:=by rfl) :
  PE X (.Call (.Name x p) (e :: es) [] pos) (iJ C sp dvs E t):=by
 intro pins s σ H Q I h
 refine wpAny_Call_Name_kw (jC I hg hm ?_ hdb)
 refine PySem.W.callWith_K (h₀:=X.base) I.ok.mod.kin M.kp (thn (ha pos pins s σ H _ I h) fun us s1 ⟨vs,H1,I1,r,q⟩=>⟨I1.kIn,?_⟩) he hpl
 exact oF M F hr hb hd hx I1 r q
end
section
variable {X:Cx} {CX:CXT} {k:Nat} {f C:Addr} {fd:FuncData} {ps ks:List Str} {sp:Sp} {E:XK} {x m:Str} {p pos apos kpos:Pos} {e o:Expr} {es:List Expr} {kws:List Keyword} {te ta:TE} {t tk:TA} {nm:Option Str}
variable {g:List Value->List Value->List Value} {gV:List V->List V->List V}
end
structure aB(N P:List Str)(sc:Scope):Prop where
 kind:sc.kind=.function
 co:sc.isCoroutine=false
 gen:sc.isGenerator=false
 nd:N.Nodup
 pre:N.take P.length=P
 par:∀x∈P,sc.names.lookup x=some .local\/sc.names.lookup x=some .cell
 nofree:∀y∈sc.names,y.2≠.free
theorem fH{kindOf:Str->Option NameKind}{x:Str}:∀{binds:List (Str×Value)} {m:Str->Option Value},(∀v,(x,v)∉binds)->bindL kindOf binds m x=m x
 | [],_,_=>rfl
 | (n,v) :: r,m,h=>by
  unfold bindL
  rw [fH fun w hw=>h w (List.mem_cons_of_mem _ hw)]
  split
  ·have:x≠n:=by rintro rfl;exact h v List.mem_cons_self
   simp [this]
  ·rfl
theorem fF{kindOf:Str->Option NameKind}{x:Str}:∀{binds:List (Str×Value)} {m:Str->Option Value},(∀v,(x,v)∉binds)->bindC kindOf binds m x=m x
 | [],_,_=>rfl
 | (n,v) :: r,m,h=>by
  unfold bindC
  rw [fF fun w hw=>h w (List.mem_cons_of_mem _ hw)]
  split
  ·rfl
  ·have:x≠n:=by rintro rfl;exact h v List.mem_cons_self
   simp [this]
theorem fG{kindOf:Str->Option NameKind}{x:Str}{v:Value}:∀{P:List Str} {vs:List Value} {i:Nat} {m:Str->Option Value},P.Nodup->P[i]?=some x->vs[i]?=some v->kindOf x=some .local->
  bindL kindOf (P.zip vs) m x=some v
 | [],_,_,_,_,h,_,_=>by simp at h
 | _ :: _,[],_,_,_,_,h,_=>by simp at h
 | p :: P,w :: vs,0,m,nd,h1,h2,hk=>by
  simp at h1 h2;subst h1;subst h2
  show bindL kindOf ((p,w) :: P.zip vs) m p=_
  unfold bindL
  rw [fH fun v hv=>(List.nodup_cons.mp nd).1 (List.of_mem_zip hv).1,if_pos hk]
  simp
 | p :: P,w :: vs,i+1,m,nd,h1,h2,hk=>by
  show bindL kindOf ((p,w) :: P.zip vs) m x=_
  unfold bindL
  exact fG (i:=i) (List.nodup_cons.mp nd).2 (by simpa using h1) (by simpa using h2) hk
theorem fE{kindOf:Str->Option NameKind}{x:Str}{v:Value}:∀{P:List Str} {vs:List Value} {i:Nat} {m:Str->Option Value},P.Nodup->P[i]?=some x->vs[i]?=some v->kindOf x≠some .local->
  bindC kindOf (P.zip vs) m x=some v
 | [],_,_,_,_,h,_,_=>by simp at h
 | _ :: _,[],_,_,_,_,h,_=>by simp at h
 | p :: P,w :: vs,0,m,nd,h1,h2,hk=>by
  simp at h1 h2;subst h1;subst h2
  show bindC kindOf ((p,w) :: P.zip vs) m p=_
  unfold bindC
  rw [fF fun v hv=>(List.nodup_cons.mp nd).1 (List.of_mem_zip hv).1,if_neg hk]
  simp
 | p :: P,w :: vs,i+1,m,nd,h1,h2,hk=>by
  show bindC kindOf ((p,w) :: P.zip vs) m x=_
  unfold bindC
  exact fE (i:=i) (List.nodup_cons.mp nd).2 (by simpa using h1) (by simpa using h2) hk
def aL(N:List Str)(vs:List V):St:=vs.map some ++ List.replicate (N.length - vs.length) none
def iS(CX:CXT)(P:Program)(w:World)(K:PySem.W.Frag)(mg:Str->Option Value)(base:Heap)(N:List Str)(qual:Str)(scope:Scope)(f:Addr)(cd:Value)(A:Around)(outer:List Env)(s:Shared)(H:Hp)(E:XK):Cx where
 prog:=P
 w:=w
 K:=K
 mg:=mg
 base:=base
 A:=A.deeper (envOfC qual scope s.heap.objs.size f cd)
 N:=N
 s₀:=s
 H₀:=H
 env:=envOfC qual scope s.heap.objs.size f cd
 outer:=outer
 stack:=envOfC qual scope s.heap.objs.size f cd :: outer
 ex:=[]
 calm:=true
 fn:=fun _=>true
 pn:=[]
 xe:=fun e s'=>wpAny (model P w) (A.deeper (envOfC qual scope s.heap.objs.size f cd)) (leaving (envOfC qual scope s.heap.objs.size f cd) e) (fun _ s''=>CX outer H s E e s'') (fun e' s''=>CX outer H s E e' s'') s'
theorem gW{sc:Scope}{n:Nat}{x:Str}(h:sc.names.lookup x=some .cell):∃c,(cellsFrom n sc.names []).lookup x=some c:=by
 have q:=PySem.W.cellsFrom_some sc.names n [] (.inl h)
 exact Option.isSome_iff_exists.mp q
theorem kK{CX:CXT}{P:Program}{w:World}{K:PySem.W.Frag}{mg:Str->Option Value}{base:Heap}{N ps:List Str}{qual:Str}{scope:Scope}{f:Addr}{cd:Value}{A:Around}{outer:List Env}{s s1:Shared}{H:Hp}{E:XK}{us:List Value}{vs:List V}
  (S:aB N ps scope) (hd:A.handled=none) (e0:Env0 P w K mg base A outer s H) (hl:vs.length=ps.length) (r:Vals vs us)
  (x:InCallC s s.heap.objs.size (bindL (envOfC qual scope s.heap.objs.size f cd).kindOf (ps.zip us) fun _=>none) (cellsFrom (s.heap.objs.size+1) scope.names []) (bindC (envOfC qual scope s.heap.objs.size f cd).kindOf (ps.zip us) fun _=>none) s1) :
  Inv (iS CX P w K mg base N qual scope f cd A outer s H E) [] (aL N vs) H s1:=by
 have hpl:ps.length<=N.length:=by have:=congrArg List.length S.pre;rw [List.length_take] at this;omega
 obtain ⟨h1,tk,rfl,hk⟩:=x.done
 have noA:∀b:Addr,b∉(iS CX P w K mg base N qual scope f cd A outer s H E).ex:=fun b z=>absurd (show b∈([]:List Addr) from z) (by simp)
 refine ⟨⟨e0.mod,S.kind,rfl,rfl,Nat.le_refl _,fun y z c h1 h2=>?_,fun y hy=>?_,fun y c _ h=>?_,fun _=>hd,Around.frames_deeper e0.frames,.inr ⟨rfl,rfl⟩,fun b z=>absurd z (noA b),e0.bs,e0.bsz,fun b _ _=>noA b,fun b z=>absurd z (noA b),e0.funs,e0.frf⟩,
  rfl,e0.bare,Un.kept hk,⟨_,x.toInCall.ns,fun i y v h1 h2 h3=>?_⟩,fun y c h=>⟨_,x.cell y c h⟩,e0.hok.fresh (Nat.le_refl _),fun y c h=>?_,fun p hp=>absurd (show p∈([]:List (Addr×Obj)) from hp) (by simp),e0.hok.kept hk,?_⟩
 ·exact name_of_addr x.apart (PySem.mem_of_lookup h1) (PySem.mem_of_lookup h2)
 ·have hy:scope.names.lookup y=some .cell\/scope.names.lookup y=some .free:=hy
  rcases hy with hy | hy
  ·exact gW hy
  ·exact absurd rfl (S.nofree _ (PySem.mem_of_lookup hy))
 ·exact Nat.le_of_lt (x.above y c (PySem.mem_of_lookup h))
 ·have hi:i < vs.length:=by
   unfold aL at h2
   by_cases hi:i < vs.length
   ·exact hi
   ·rw [List.getElem?_append_right (by simpa using hi)] at h2
    rw [List.getElem?_replicate] at h2
    split at h2 <;> cases h2
  have ha:vs[i]?=some v:=by
   unfold aL at h2
   rw [List.getElem?_append_left (by simpa using hi),List.getElem?_map] at h2
   cases e:vs[i]? with
   | none=>rw [e] at h2;cases h2
   | some a=>rw [e] at h2;cases h2;rfl
  obtain ⟨u,hu,rv⟩:=r.get ha
  have hp:ps[i]?=some y:=by
   rw [<- S.pre,List.getElem?_take_of_lt (by omega)];exact h1
  have ndP:ps.Nodup:=by rw [<- S.pre];exact S.nd.sublist (List.take_sublist _ _)
  refine ⟨u,rv,?_⟩
  rcases S.par y (List.mem_of_getElem? hp) with k | k
  ·exact .inl ⟨k,fG ndP hp hu k⟩
  ·obtain ⟨c,e⟩:=gW (n:=s.heap.objs.size+1) k
   refine .inr ⟨.inl k,c,e,?_⟩
   have q:=x.cell y c e
   rw [fE ndP hp hu (by show scope.names.lookup y≠_;rw [k];decide)] at q
   exact q
 ·exact e0.hok.fresh (Nat.le_of_lt (x.above y c (PySem.mem_of_lookup h)))
 ·unfold aL
  show _=N.length
  rw [List.length_append,List.length_map,List.length_replicate]
  omega
theorem ur{CX:CXT}{P:Program}{w:World}{K:PySem.W.Frag}{mg:Str->Option Value}{base:Heap}{k:Nat}{f:Addr}{name qual:Str}{params:Arguments}{body:List Stmt}{scope:Scope}{dV kV doc pm cdv ct oc:Value}{an od:Option Addr}
  {osl:Array (Option Value)} {N ps:List Str} {sp:Sp} (lk:K.lookup f=some ⟨oc,od,.func (PySem.W.fnOf name qual params body scope dV kV doc pm an cdv ct),osl⟩) (hcd:PySem.W.codeIn K cdv qual=true) (S:aB N ps scope)
  (len:∀vs H Q E,sp vs H Q E->vs.length=ps.length)
  (hbody:∀(A:Around)(outer:List Env)(s:Shared)(H:Hp)(vs:List V)(Q:VK)(E:XK),Room k (A.deeper (envOfC qual scope s.heap.objs.size f cdv))->sp vs H Q E->
   ∃t,PSs (iS CX P w K mg base N qual scope f cdv A outer s H E) body t/\t {nx:=fun _ H'=>Q .non H',rt:=Q} (aL N vs) H) :
  FnOk P w K mg base CX (k+1) f (PySem.W.fnOf name qual params body scope dV kV doc pm an cdv ct) ps sp:=by
 refine ⟨len,fun A outer s H args us vs Q E hr e0 hb r hsp=>?_⟩
 have hl:=len _ _ _ _ hsp
 have KX:K.In s.heap:=e0.mod.kin.keeps fun b o e=>(e0.bs b o e).1
 have lim:s.heap.NoLimit:=e0.mod.nolimit.keeps fun b o e=>(e0.bs b o e).1
 have hkind:∀y∈ps.zip us,scope.names.lookup y.1=some .local\/(scope.names.lookup y.1=some .cell/\((cellsFrom (s.heap.objs.size+1) scope.names []).lookup y.1).isSome=true):=fun ⟨n,v⟩ hy=>by
  rcases S.par n (List.of_mem_zip hy).1 with q | q
  ·exact .inl q
  ·exact .inr ⟨q,PySem.W.cellsFrom_some _ _ _ (.inl q)⟩
 refine codeAny_call_function hr.depth (KX _ _ lk) rfl S.co S.gen rfl (PySem.W.codeRec_of KX hcd) (hb _ _ _ _ ?_)
 refine wpAny_newFunctionEnv_cells S.kind hkind fun env he s1 x=>?_
 subst he
 refine ⟨lim.keeps x.toInCall.keep,codeAny_func ?_⟩
 obtain ⟨t,ht,hq⟩:=hbody A outer s H vs Q E (hr.deeper _) hsp
 have I:Inv (iS CX P w K mg base N qual scope f cdv A outer s H E) [] (aL N vs) H s1:=kK S hr.hd e0 hl r x
 refine wpAny_mono (ht [] s1 (aL N vs) H _ I hq) (fun fl s' hs=>?_) fun e s' hs=>hs
 have fin:∀{σ':St} {H':Hp} {v:V} {u:Value},Inv (iS CX P w K mg base N qual scope f cdv A outer s H E) [] σ' H' s'->RelV v u->Q v H'->CE outer P w H s Q u s':=
  fun {σ' H' v u} J rv q=>⟨v,H',J.os,J.bare,J.base,J.hok,rv,q⟩
 cases fl with
 | ret u=>
  obtain ⟨v,σ',H',J,rv,q⟩:=hs
  exact fin J rv q
 | next=>
  obtain ⟨σ',H',J,q⟩:=hs
  exact fin (v:=V.non) (u:=Value.none) J rfl q
 | brk=>
  obtain ⟨_,_,_,q⟩:=hs
  exact False.elim q
 | cont=>
  obtain ⟨_,_,_,q⟩:=hs
  exact False.elim q
end L2
namespace L2
open PySem PySem.Spec PyProof.Rows
section
variable {X:Cx} {x:Str} {p pos:Pos} {e:Expr} {es:List Expr} {t:TA} {id T:String} {r:List V->Hp->VK->Prop}
def tCB(r:List V->Hp->VK->Prop)(t:TA):TE:=fun σ H Q=>t σ H fun vs H1=>r vs H1 Q
theorem mX(hc:bT X (.builtin id) r)(hg:Gl X x)(hm:X.mg x=none)(hv:bootBuiltins x=some (.builtin id))(ha:PA X (e :: es) t)(hn:x≠"__name__":=by decide) (hdb:(x == ("__debug__":Str))=false:=by decide)
  (he:starEach (e :: es) X.env=(false,eval e X.env) :: starEach es X.env:=by rfl) (hpl:(backTo pos (starEach es X.env)).any (·.1)=false:=by rfl):PE X (.Call (.Name x p) (e :: es) [] pos) (tCB r t):=by
 intro pins s σ H Q I h
 refine wpAny_Call_Name_kw (eS I hg hm hv ?_ hn hdb)
 exact PyProof.Rows.callWith_builtin1 (thn (ha pos pins s σ H _ I h) fun us s1 ⟨vs,H1,I1,r1,q1⟩=>hc pins s1 σ H1 vs us Q I1 r1 q1) he hpl
theorem kZ(hc:bT X (.type T) r)(hg:Gl X x)(hm:X.mg x=none)(hv:bootBuiltins x=some (.type T))(ha:PA X (e :: es) t)(hn:x≠"__name__":=by decide) (hdb:(x == ("__debug__":Str))=false:=by decide)
  (he:starEach (e :: es) X.env=(false,eval e X.env) :: starEach es X.env:=by rfl) (hpl:(backTo pos (starEach es X.env)).any (·.1)=false:=by rfl):PE X (.Call (.Name x p) (e :: es) [] pos) (tCB r t):=by
 intro pins s σ H Q I h
 refine wpAny_Call_Name_kw (eS I hg hm hv ?_ hn hdb)
 exact PyProof.Rows.callWith_type1 (thn (ha pos pins s σ H _ I h) fun us s1 ⟨vs,H1,I1,r1,q1⟩=>hc pins s1 σ H1 vs us Q I1 r1 q1) he hpl
end
end L2
namespace HT
open PySem PyProof.Rows
section
open PySem.SeqAt
open PySem.AutoSeq1 (wpAny_loadPart')
open PySem.MeetsSeq PySem.MeetsSeq2 PySem.MeetsSeq3
end
section
variable {prog:Program} {w:World} {A:Around} {E:Value->Shared->Prop} {s:Shared}
def sIx(n d:Nat):Option Int->Nat
 | none=>d
 | some v=>if v < 0 then (v+(n:Int)).toNat else min v.toNat n
theorem il(n d:Nat):sIx n d none=d:=rfl
theorem eF(n d k:Nat):sIx n d (some (k:Int))=min k n:=by
 show (if (k:Int) < 0 then ((k:Int)+(n:Int)).toNat else min (k:Int).toNat n)=min k n
 rw [if_neg (by omega),Int.toNat_natCast]
theorem u2(n d:Nat)(hd:d<=n)(o:Option Int):sIx n d o<=n:=by
 cases o with
 | none=>exact hd
 | some v=>
  show (if v < 0 then (v+(n:Int)).toNat else min v.toNat n)<=n
  by_cases hv:v < 0
  ·rw [if_pos hv];omega
  ·rw [if_neg hv];exact Nat.min_le_right _ _
theorem jt(v:Int)(n d:Nat):(if v < 0 then max (v+(n:Int)) 0 else min v (n:Int))=((sIx n d (some v):Nat):Int):=by
 show (if v < 0 then max (v+(n:Int)) 0 else min v (n:Int))=(((if v < 0 then (v+(n:Int)).toNat else min v.toNat n):Nat):Int)
 by_cases hv:v < 0
 ·simp only [if_pos hv];omega
 ·simp only [if_neg hv];omega
theorem iP(lo hi:Option Int)(n:Nat):Builtin.Slice.sliceAdjust lo hi 1 (n:Int)=(((sIx n 0 lo:Nat):Int),((sIx n n hi:Nat):Int)):=by
 have h1:¬((1:Int) < 0):=by omega
 unfold Builtin.Slice.sliceAdjust
 simp only [h1,if_false]
 refine Prod.ext ?_ ?_
 ·cases lo with
  | none=>rfl
  | some v=>exact jt v n 0
 ·cases hi with
  | none=>rfl
  | some v=>exact jt v n n
theorem j2(i j:Nat):Builtin.Slice.slicePlaces (i:Int) (j:Int) 1=j - i:=by
 unfold Builtin.Slice.slicePlaces
 have h1:(1:Int) > 0:=by omega
 simp only [h1,if_true,Int.ediv_one]
 split <;> omega
theorem fi{v:Value}{o:Option Int}{Q:Option Int->Shared->Prop}(p:IsPart v o)(h:Q o s):wpAny (model prog w) A (Builtin.Slice.slicePartIndex v) Q E s:=by
 cases p with
 | none=>exact slicePart_none h
 | int i t=>exact slicePart_int h
theorem dB{sl:Addr}{vl vu:Value}{lo hi:Option Int}{n:Nat}{Q:Int×Int×Nat->Shared->Prop}(hs:s.heap.IsSliceOf sl vl vu .none)(pl:IsPart vl lo)(pu:IsPart vu hi)
  (h:Q (((sIx n 0 lo:Nat):Int),1,sIx n n hi - sIx n 0 lo) s):wpAny (model prog w) A (Builtin.Slice.sliceApplied (.ref sl) (pure (n:Int))) Q E s:=by
 obtain ⟨os,hos,hcs,hds⟩:=id hs
 unfold Builtin.Slice.sliceApplied Builtin.Slice.sliceFields
 refine wpAny_bind (wpAny_bind (wpAny_field hos hds (x:=vl) rfl (wpAny_bind (wpAny_field hos hds (x:=vu) rfl (wpAny_bind (wpAny_field hos hds (x:=.none) rfl (wpAny_pure ?_)))))))
 refine wpAny_bind (slicePart_none ?_)
 show wpAny _ _ (if ((1:Int) == 0)=true then _ else _) _ _ s
 rw [if_neg (by decide)]
 refine wpAny_bind (fi pl (wpAny_bind (fi pu (wpAny_bind (wpAny_pure ?_)))))
 show wpAny _ _ (match Builtin.Slice.sliceAdjust lo hi 1 (n:Int) with | (lo,hi)=>pure (lo,(1:Int),Builtin.Slice.slicePlaces lo hi 1)) _ _ s
 rw [iP lo hi n]
 show wpAny _ _ (pure (((sIx n 0 lo:Nat):Int),(1:Int),Builtin.Slice.slicePlaces ((sIx n 0 lo:Nat):Int) ((sIx n n hi:Nat):Int) 1)) _ _ s
 rw [j2]
 exact wpAny_pure h
theorem nu(xs:Array Value)(i k:Nat):((List.range k).filterMap fun (m:Nat)=>xs[((i:Int)+(m:Int) * 1).toNat]?).toArray=((xs.toList.drop i).take k).toArray:=by
 have e:(fun (m:Nat)=>xs[((i:Int)+(m:Int) * 1).toNat]?)=fun m=>xs[i+m]?:=by
  funext m
  have:((i:Int)+(m:Int) * 1).toNat=i+m:=by omega
  rw [this]
 rw [e]
 have:=pick_run xs i k
 rw [List.filterMap_map] at this
 have e2:((fun x=>xs[x]?) ∘ fun x=>i+x)=fun m=>xs[i+m]?:=rfl
 rw [e2] at this
 rw [this]
theorem d6{t sl:Addr}{items:Array Value}{vl vu:Value}{lo hi:Option Int}{Q:Value->Shared->Prop}(ht:IsTup s.heap t items)(hs:s.heap.IsSliceOf sl vl vu .none)(pl:IsPart vl lo)(pu:IsPart vu hi)
  (hw:¬(sIx items.size 0 lo=0/\sIx items.size items.size hi=items.size))
  (h:Q (.ref s.heap.objs.size) {s with heap:=s.heap.push {cls:=.type "tuple",data:=.seq ((items.toList.drop (sIx items.size 0 lo)).take (sIx items.size items.size hi - sIx items.size 0 lo)).toArray}})
  (hsz:items.size<=sizeLine):wpAny (model prog w) A (getItem (.ref t) (.ref sl)) Q E s:=by
 have htake:sizeOk (.seq ((items.toList.drop (sIx items.size 0 lo)).take (sIx items.size items.size hi - sIx items.size 0 lo)).toArray):=by
  show ((items.toList.drop (sIx items.size 0 lo)).take (sIx items.size items.size hi - sIx items.size 0 lo)).toArray.size<=sizeLine
  rw [List.size_toArray,List.length_take,List.length_drop,Array.length_toList]
  omega
 have hj:sIx items.size items.size hi<=items.size:=u2 _ _ (Nat.le_refl _) hi
 obtain ⟨os,hos,hcs,hds⟩:=id hs
 have hTs:s.TypeIs (.ref sl) "slice":=⟨os,hos,hcs⟩
 unfold getItem
 try with_reducible refine wpAny_holding ?_
 first | refine wpAny_bind (wpAny_pure ?_) | skip
 refine wpAny_bind (wpAny_sequenceKey ht.typeIs (by decide) ?_)
 refine wpAny_bind (wpAny_callSpecial?_slot (name:=Str.ofString "__getitem__") ht.typeIs PyProof.Rows.slot_tuple_getitem
  (wpAny_call_entry PyProof.Rows.slot_tuple_getitem ht.typeIs entry_tuple_getitem ?_ (args_tuple_getitem _ _)))
 show wpAny _ _ (Builtin.Tuple.tupleItemsOf (.ref t) >>= _) _ _ s
 refine wpAny_bind (tupleItemsOf_ ht ?_)
 refine wpAny_bind (wpAny_typeOf hTs ?_)
 rw [if_pos (by decide)]
 refine wpAny_bind (dB hs pl pu ?_)
 have hno:¬((((sIx items.size 0 lo:Nat):Int) == 0 && (1:Int) == 1 && (sIx items.size items.size hi - sIx items.size 0 lo) == items.size)=true):=by
  intro q
  rw [Bool.and_eq_true,Bool.and_eq_true] at q
  have q1:((sIx items.size 0 lo:Nat):Int)=0:=eq_of_beq q.1.1
  have q2:sIx items.size items.size hi - sIx items.size 0 lo=items.size:=eq_of_beq q.2
  exact hw ⟨by omega,by omega⟩
 show wpAny _ _ (if (((sIx items.size 0 lo:Nat):Int) == 0 && (1:Int) == 1 && (sIx items.size items.size hi - sIx items.size 0 lo) == items.size)=true then _ else _) _ _ s
 rw [if_neg hno,nu]
 first
  | exact wpAny_bind (m:=Builtin.Tuple.tupleExact _) (wpAny_newObj_type (wpAny_pure ⟨_,rfl,wpAny_pure h⟩) htake)
  | exact wpAny_bind (m:=Builtin.Tuple.tupleExact _) (wpAny_newObj_type (wpAny_bind (wpAny_pure (wpAny_pure ⟨_,rfl,wpAny_pure h⟩))) htake)
  | exact wpAny_bind (wpAny_bind (m:=Builtin.Tuple.tupleExact _) (wpAny_newObj_type (wpAny_pure (wpAny_pure ⟨_,rfl,wpAny_pure h⟩)) htake))
  | exact wpAny_bind (wpAny_bind (m:=Builtin.Tuple.tupleExact _) (wpAny_newObj_type (wpAny_pure ⟨_,rfl,wpAny_pure h⟩) htake))
end
end HT
namespace L2
open PySem PySem.Spec PyProof.Rows
abbrev TO:=St->Hp->(Option Int->Hp->Prop)->Prop
def PO(X:Cx)(e:Option Expr)(t:TO):Prop:=
 ∀(pins:List (Addr×Obj)) (s:Shared) (σ:St) (H:Hp) (Q:Option Int->Hp->Prop),Inv X pins σ H s->t σ H Q->
  wpAny (model X.prog X.w) X.A (evalPart e X.env) (fun u s'=>∃o H',Inv X pins σ H' s'/\IsPart u o/\Q o H') X.xe s
def gL:TO:=fun _ H Q=>Q none H
def oY(t:TE):TO:=fun σ H Q=>t σ H fun x H1=>∃i,x=.int i/\Q (some i) H1
section
variable {X:Cx} {e:Expr} {te:TE} {lo hi:Option Expr} {tl th:TO} {pos p2:Pos}
theorem qj:PO X none gL:=by
 intro pins s σ H Q I h
 rw [evalPart_none]
 exact wpAny_pure ⟨none,H,I,.none,h⟩
theorem qk(h:PE X e te):PO X (some e) (oY te):=by
 intro pins s σ H Q I hw
 rw [evalPart_some]
 refine thn (h pins s σ H _ I hw) fun u s1 hhx=>?_
 obtain ⟨x,H1,I1,r1,q1⟩:=hhx
 obtain ⟨i,rfl,q⟩:=q1
 obtain ⟨t,rfl⟩:=r1
 exact ⟨some i,H1,I1,.int i t,q⟩
def SlR(X:Cx)(r:V->Option Int->Option Int->Hp->VK->Prop):Prop:=
 ∀(pins:List (Addr×Obj)) (s:Shared) (σ:St) (H:Hp) (x:V) (v vl vu:Value) (lo hi:Option Int) (sl:Addr) (Q:VK),Inv X pins σ H s->RelV x v->s.heap.IsSliceOf sl vl vu .none->IsPart vl lo->IsPart vu hi->r x lo hi H Q->
  ∃T id,typeLookup (.type T) "__getitem__"=pure (some (.builtin id))/\s.TypeIs v T/\wpAny (model X.prog X.w) X.A (getItem v (.ref sl)) (EP X pins σ Q) X.xe s
def tSl(r:V->Option Int->Option Int->Hp->VK->Prop)(te:TE)(tl th:TO):TE:=fun σ H Q=>te σ H fun x H1=>tl σ H1 fun l H2=>th σ H2 fun u H3=>r x l u H3 Q
theorem nj{r:V->Option Int->Option Int->Hp->VK->Prop}(hr:SlR X r)(he:PE X e te)(hl:PO X lo tl)(hu:PO X hi th):PE X (.Subscript e (.Slice lo hi none p2) pos) (tSl r te tl th):=by
 intro pins s σ H Q I h
 refine Subscript_ (thn (he pins s σ H _ I h) fun v s1 hhx=>?_)
 obtain ⟨x,H1,I1,r1,q1⟩:=hhx
 refine wpAny_Slice (thn (hl pins s1 σ H1 _ I1 q1) fun vl s2 ⟨l,H2,I2,pl,q2⟩=>thn (hu pins s2 σ H2 _ I2 q2) fun vu s3 hhx=>?_)
 obtain ⟨u,H3,I3,pu,q3⟩:=hhx
 rw [evalPart_none]
 refine wpAny_pure ?_
 have I4:Inv X pins σ H3 {s3 with heap:=s3.heap.push {cls:=.type "slice",data:=.fields #[vl,vu,.none]}}:=I3.kept (t':=s3.toks) fun b ob q=>Heap.get?_push_of_some _ q
 obtain ⟨T,id,hT,ht,hg⟩:=hr pins {s3 with heap:=s3.heap.push {cls:=.type "slice",data:=.fields #[vl,vu,.none]}} σ H3 x v vl vu l u s3.heap.objs.size Q I4 r1 (Heap.IsSliceOf.new ..) pl pu q3
 show wpAny (model X.prog X.w) X.A (subscriptTail e (.Slice lo hi none p2) v (.ref s3.heap.objs.size)) (EP X pins σ Q) X.xe {s3 with heap:=s3.heap.push {cls:=.type "slice",data:=.fields #[vl,vu,.none]}}
 exact tail_any (ops:=[.ref s3.heap.objs.size,v]) ht hT hg (by with_unfolding_all rfl)
def cH(xs:List V)(lo hi:Option Int):List V:=(xs.drop (HT.sIx xs.length 0 lo)).take (HT.sIx xs.length xs.length hi - HT.sIx xs.length 0 lo)
theorem dH(xs:List V)(lo hi:Option Int):(cH xs lo hi).length<=xs.length:=by
 unfold cH
 rw [List.length_take,List.length_drop]
 omega
def uP(K:PySem.W.Frag):V->Option Int->Option Int->Hp->VK->Prop:=fun x lo hi H Q=>∃a xs,x=.ref a/\SqT K H a xs/\
 ¬(HT.sIx xs.length 0 lo=0/\HT.sIx xs.length xs.length hi=xs.length)/\∀p,H p=none->Q (.ref p) (upd H p (.tup (cH xs lo hi)))
theorem oJ:SlR X (uP X.K):=by
 intro pins s σ H x v vl vu lo hi sl Q I rx hs pl pu h
 obtain ⟨a,xs,rfl,hx,hw,q⟩:=h
 cases rx
 obtain ⟨its,r,ht,hz⟩:=I.tuple hx
 have hlen:its.toArray.size=xs.length:=by rw [List.size_toArray];exact r.length.symm
 refine ⟨"tuple",_,PyProof.Rows.slot_tuple_getitem.lookup,ht.typeIs,?_⟩
 refine HT.d6 ht hs pl pu (by rw [hlen];exact hw) ?_ (by rw [hlen];exact hz)
 rw [hlen]
 refine ⟨.ref s.heap.objs.size,_,I.laid (t':=s.toks) (o:=.tup (cH xs lo hi)) (fun b ob q=>Heap.get?_push_of_some _ q) (Nat.le_refl _) ?_,rfl,q _ (I.hok.fresh (Nat.le_refl _))⟩
 exact ⟨Nat.le_trans (dH xs lo hi) hz,_,(r.drop (HT.sIx xs.length 0 lo)).take (HT.sIx xs.length xs.length hi - HT.sIx xs.length 0 lo),IsTup.new _ _⟩
end
end L2
namespace L2
open PySem PySem.Spec PyProof.Rows
def ixN(n:Nat)(i:Int):Option Nat:=if 0<=i then (if i < n then some i.toNat else none) else if -(n:Int)<=i then some (i+n).toNat else none
def atI{α:Type}(xs:List α)(i:Int):Option α:=(ixN xs.length i).bind fun j=>xs[j]?
theorem jA{n:Nat}{i:Int}{j:Nat}(h:ixN n i=some j):seqIndex? i n=some j/\j < n/\-(n:Int)<=i/\i < n:=by
 unfold ixN at h
 by_cases h0:0<=i
 ·rw [if_pos h0] at h
  by_cases h1:i < n
  ·rw [if_pos h1] at h
   have e:i.toNat=j:=Option.some.inj h
   exact ⟨by rw [seqIndex_of h0 h1,e],by omega,by omega,h1⟩
  ·rw [if_neg h1] at h;cases h
 ·rw [if_neg h0] at h
  by_cases h1:-(n:Int)<=i
  ·rw [if_pos h1] at h
   have e:(i+n).toNat=j:=Option.some.inj h
   exact ⟨by rw [seqIndex_neg (by omega) h1,e],by omega,h1,by omega⟩
  ·rw [if_neg h1] at h;cases h
theorem gn{α:Type}{xs:List α}{i:Int}{v:α}(h:atI xs i=some v):∃j,seqIndex? i xs.length=some j/\xs[j]?=some v/\j < xs.length/\-(xs.length:Int)<=i/\i < xs.length:=by
 unfold atI at h
 cases e:ixN xs.length i with
 | none=>rw [e] at h;cases h
 | some j=>
  rw [e] at h
  obtain ⟨h1,h2,h3,h4⟩:=jA e
  exact ⟨j,h1,h,h2,h3,h4⟩
theorem b8{α:Type}{xs:List α}{j:Nat}{v:α}(h:xs[j]?=some v):atI xs (j:Int)=some v:=by
 have hj:j < xs.length:=(List.getElem?_eq_some_iff.mp h).1
 have e:ixN xs.length (j:Int)=some j:=by
  unfold ixN
  rw [if_pos (by omega),if_pos (by omega)];simp
 unfold atI;rw [e];exact h
def jp(b:Expr):Prop:=∀o i,subscripted b false o i=operate [o,i] (getItem o i)
def IxR(X:Cx)(r:R2):Prop:=
 ∀(value slice:Expr)(pins:List (Addr×Obj)) (s:Shared) (σ:St) (H:Hp) (x y:V) (v u:Value) (Q:VK),Inv X pins σ H s->RelV x v->RelV y u->r x y H Q->
  subscripted slice false v u=operate [v,u] (getItem v u)->wpAny (model X.prog X.w) X.A (subscriptTail value slice v u) (EP X pins σ Q) X.xe s
def MtR(X:Cx)(id:String)(r:V->List V->Hp->VK->Prop):Prop:=
 ∀(pins:List (Addr×Obj)) (s:Shared) (σ:St) (H:Hp) (x:V) (xs:List V) (v:Value) (us:List Value) (Q:VK),Inv X pins σ H s->RelV x v->Vals xs us->r x xs H Q->
  wpAny (model X.prog X.w) X.A (call (.builtin id) (v :: us)) (EP X pins σ Q) X.xe s
section
variable {X:Cx} {a b:Expr} {ta tb:TE} {pos:Pos}
theorem uC{r:R2}(hr:IxR X r)(ha:PE X a ta)(hb:PE X b tb)(hs:jp b):PE X (.Subscript a b pos) (tOp r ta tb):=by
 intro pins s σ H Q I h
 exact Subscript_ (sn ha hb I h fun v u s2 x y H2 I2 rx ry q=>hr a b pins s2 σ H2 x y v u Q I2 rx ry q (hs _ _))
def uJ(K:PySem.W.Frag):R2:=fun x y H Q=>∃p xs i v,x=.ref p/\y=.int i/\SqL K H p xs/\atI xs i=some v/\Q v H
def uL(K:PySem.W.Frag):R2:=fun x y H Q=>∃p xs i v,x=.ref p/\y=.int i/\SqT K H p xs/\atI xs i=some v/\Q v H
def uK:R2:=fun x y H Q=>∃z i c,x=.str z/\y=.int i/\z.length<=sizeLine/\atI z.cps.toList i=some c/\Q (.str ⟨#[c]⟩) H
theorem aJ:IxR X (uJ X.K):=by
 intro value slice pins s σ H x y v u Q I rx ry h hs
 obtain ⟨p,xs,i,z,rfl,rfl,hq,he,q⟩:=h
 cases rx
 obtain ⟨t,rfl⟩:=ry
 obtain ⟨its,r,pl,hz⟩:=I.list hq
 obtain ⟨j,h1,h2,h3,h4,h5⟩:=gn he
 obtain ⟨w,ew,rw'⟩:=r.get h2
 have hl:=r.length
 have hn:=eT
 have fin:EP X pins σ Q w s:=⟨z,H,I,rw',q⟩
 by_cases h0:0<=i
 ·have hj:i.toNat=j:=by
   rw [seqIndex_of h0 h5] at h1
   exact Option.some.inj h1
  exact item_listR pl.isList h0 (by omega) (by rw [hj];simpa using ew) fin hs
 ·have hj:(i+(its.toArray.size:Int)).toNat=j:=by
   rw [seqIndex_neg (by omega) h4] at h1
   rw [List.size_toArray,<- hl]
   exact Option.some.inj h1
  exact subscriptTail_builtinR (x:=w) pl.isList.typeIs slot_list_getitem.lookup
   (wpAny_getItem_list_neg (Q:=fun r s'=>r=w/\EP X pins σ Q r s') pl.isList (by omega) (by rw [List.size_toArray] <;> omega) (by omega) (by rw [hj];simpa using ew) ⟨rfl,fin⟩) hs
theorem ax:IxR X (uL X.K):=by
 intro value slice pins s σ H x y v u Q I rx ry h hs
 obtain ⟨p,xs,i,z,rfl,rfl,hq,he,q⟩:=h
 cases rx
 obtain ⟨t,rfl⟩:=ry
 obtain ⟨its,r,pl,hz⟩:=I.tuple hq
 obtain ⟨j,h1,h2,h3,h4,h5⟩:=gn he
 obtain ⟨w,ew,rw'⟩:=r.get h2
 have hl:=r.length
 have hn:=eT
 have fin:EP X pins σ Q w s:=⟨z,H,I,rw',q⟩
 exact subscriptTail_builtinR (x:=w) pl.typeIs slot_tuple_getitem.lookup
  (getItem_tuple (j:=j) (Q:=fun r s'=>r=w/\EP X pins σ Q r s') pl (by omega) (by omega) (by rw [List.size_toArray,<- hl];exact h1) (by simpa using ew) ⟨rfl,fin⟩) hs
theorem sE:IxR X uK:=by
 intro value slice pins s σ H x y v u Q I rx ry h hs
 obtain ⟨z,i,c,rfl,rfl,hz,he,q⟩:=h
 obtain ⟨t,rfl⟩:=rx
 obtain ⟨t',rfl⟩:=ry
 obtain ⟨j,h1,h2,h3,h4,h5⟩:=gn he
 have hl:z.cps.toList.length=z.length:=by simp [Str.length]
 rw [hl] at h1 h4 h5
 have hn:=eT
 exact tail_any (typeIs_str s z t) slot_str_getitem.lookup (getItem_str (c:=c) (by
  have e1:decide (i < -(2 ^ 63:Int))=false:=decide_eq_false (by omega)
  have e2:decide (i ≥ 2 ^ 63)=false:=decide_eq_false (by omega)
  rw [e1,e2,Bool.or_false]) (by rw [h1];simpa using h2) ⟨.str ⟨#[c]⟩,H,I.tok _,⟨_,rfl⟩,q⟩) hs
theorem iY(its:List Value)(n j:Nat)(u:Value):Obj.mapSeq (·.setIfInBounds j u) {cls:=.type "list",data:=.seq its.toArray n}={cls:=.type "list",data:=.seq (its.set j u).toArray n}:=by
 simp [Obj.mapSeq]
theorem Inv.lst{pins:List (Addr×Obj)}{σ:St}{H:Hp}{s:Shared}{p:Addr}{xs:List V}(I:Inv X pins σ H s)(h:H p=some (.lst xs)):
  ∃(its:List Value)(n:Nat),Vals xs its/\s.heap.get? p=some {cls:=.type "list",data:=.seq its.toArray n}/\xs.length<=sizeLine:=by
 obtain ⟨z,its,n,r,e⟩:=I.hok p _ h
 exact ⟨its,n,r,e,z⟩
theorem Inv.lstUpd{pins:List (Addr×Obj)}{σ:St}{H:Hp}{s:Shared}{p:Addr}{xs ys:List V}{its its':List Value}{n n':Nat}{f:Obj->Obj}(I:Inv X pins σ H s)(h:H p=some (.lst xs))
  (ho:s.heap.get? p=some {cls:=.type "list",data:=.seq its.toArray n}) (hf:f {cls:=.type "list",data:=.seq its.toArray n}={cls:=.type "list",data:=.seq its'.toArray n'}) (r:Vals ys its') (hz:ys.length<=sizeLine) (t:Nat) :
  Inv X pins σ (upd H p (.lst ys)) {s with heap:=s.heap.update p f,toks:=t}:=by
 have e:(s.heap.update p f).get? p=some {cls:=.type "list",data:=.seq its'.toArray n'}:=by
  rw [Heap.get?_update_self f ho (by rw [hf] <;> rfl),hf]
 refine I.write (x:=p) (e:=p) (by rw [h];trivial) (.inl rfl) (fun b u hb q=>(Heap.get?_update_other _ _ (Ne.symm hb)).trans q) ⟨_,e⟩ ?_
 exact ⟨hz,its',n',r,e⟩
def uM:V->V->V->Hp->(Hp->Prop)->Prop:=fun o i v H Q=>∃p xs k j,o=.ref p/\i=.int k/\H p=some (.lst xs)/\ixN xs.length k=some j/\Q (upd H p (.lst (xs.set j v)))
theorem oI:sk X uM:=by
 intro pins s σ H o i v ov iv u Q I ro ri rv h
 obtain ⟨p,xs,k,j,rfl,rfl,hp,hj,q⟩:=h
 cases ro
 obtain ⟨t,rfl⟩:=ri
 obtain ⟨its,n,r,ho,hz⟩:=I.lst hp
 obtain ⟨h1,h2,h3,h4⟩:=jA hj
 have hl:=r.length
 have hn:=eT
 have I':Inv X pins σ (upd H p (.lst (xs.set j v))) {s with heap:=s.heap.update p (Obj.mapSeq (·.setIfInBounds j u))}:=
  I.lstUpd hp ho (iY its n j u) (r.set rv j) (by rw [List.length_set];exact hz) s.toks
 by_cases h0:0<=k
 ·have hk:k.toNat=j:=by
   rw [seqIndex_of h0 h4] at h1
   exact Option.some.inj h1
  exact PySem.W.ki_setAt ho h0 (by omega) (by rw [List.size_toArray,<- hl];exact h4) (by rw [hk];exact ⟨_,I',q⟩)
 ·have hk:(k+(its.toArray.size:Int)).toNat=j:=by
   rw [seqIndex_neg (by omega) h3] at h1
   rw [List.size_toArray,<- hl]
   exact Option.some.inj h1
  exact PySem.W.ki_setBack ho (by omega) (by rw [List.size_toArray,<- hl];exact h3) (by omega) (by rw [hk];exact ⟨_,I',q⟩)
theorem gI(lo hi:Option Int)(n:Nat):(sliceBounds lo hi none n).1=((HT.sIx n 0 lo:Nat):Int)/\(sliceBounds lo hi none n).2.1=((HT.sIx n n hi:Nat):Int)/\(sliceBounds lo hi none n).2.2=1:=by
 refine ⟨?_,?_,rfl⟩
 ·cases lo with
  | none=>simp [sliceBounds,HT.sIx]
  | some i=>
   simp only [sliceBounds,HT.sIx,Option.getD_none,show (1:Int) > 0 by decide,if_true]
   by_cases h:i < 0
   ·simp only [h,if_true] <;> omega
   ·simp only [h,if_false] <;> omega
 ·cases hi with
  | none=>simp [sliceBounds,HT.sIx]
  | some i=>
   simp only [sliceBounds,HT.sIx,Option.getD_none,show (1:Int) > 0 by decide,if_true]
   by_cases h:i < 0
   ·simp only [h,if_true] <;> omega
   ·simp only [h,if_false] <;> omega
theorem fz(its:List Value)(lo hi:Option Int):slicePick its.toArray lo hi none=((its.drop (HT.sIx its.length 0 lo)).take (HT.sIx its.length its.length hi - HT.sIx its.length 0 lo)).toArray:=by
 obtain ⟨h1,h2,h3⟩:=gI lo hi its.toArray.size
 unfold slicePick
 rw [h1,h2,h3]
 simp only [sliceRange_one,pick_run,List.size_toArray] <;> rfl
def uO(K:PySem.W.Frag):V->Option Int->Option Int->Hp->VK->Prop:=fun x lo hi H Q=>∃a xs,x=.ref a/\SqL K H a xs/\∀p,H p=none->Q (.ref p) (upd H p (.lst (cH xs lo hi)))
theorem dq:SlR X (uO X.K):=by
 intro pins s σ H x v vl vu lo hi sl Q I rx hs pl pu h
 obtain ⟨a,xs,rfl,hx,q⟩:=h
 cases rx
 obtain ⟨its,r,ht,hz⟩:=I.list hx
 have hlen:=r.length
 refine ⟨"list",_,slot_list_getitem.lookup,ht.isList.typeIs,?_⟩
 refine wpAny_getItem_list_slice ht.isList hs pl pu .none (by simp) ?_ (by rw [List.size_toArray] <;> omega)
 rw [fz,<- hlen]
 refine ⟨.ref s.heap.objs.size,_,I.laid (t':=s.toks) (o:=.lst (cH xs lo hi)) (fun b ob q=>Heap.get?_push_of_some _ q) (Nat.le_refl _) ?_,rfl,q _ (I.hok.fresh (Nat.le_refl _))⟩
 exact ⟨Nat.le_trans (dH xs lo hi) hz,_,0,(r.drop (HT.sIx xs.length 0 lo)).take (HT.sIx xs.length xs.length hi - HT.sIx xs.length 0 lo),Heap.get?_push_size _ rfl⟩
def bb:V->Bool
 | .non=>true
 | .bl _=>true
 | .int _=>true
 | .str _=>true
 | _=>false
def eqV:V->V->Bool
 | .non,.non=>true
 | .bl a,.bl b=>a == b
 | .bl a,.int b=>(if a then 1 else 0) == b
 | .int a,.bl b=>a == (if b then 1 else 0)
 | .int a,.int b=>a == b
 | .str a,.str b=>a == b
 | _,_=>false
theorem iT{A:Around}{s:Shared}{y x:V}{u v:Value}(ry:RelV y u)(rx:RelV x v)(fy:bb y=true)(fx:bb x=true):SeqAt.EqAt A s u v (eqV y x):=by
 cases y with
 | non=>
  cases ry
  cases x with
  | non=>cases rx;exact SeqAt.EqAt.same _
  | bl b=>cases rx;exact SeqAt.EqAt.none_bool b
  | int b=>obtain ⟨t,rfl⟩:=rx;exact SeqAt.EqAt.none_int b t
  | str b=>obtain ⟨t,rfl⟩:=rx;exact SeqAt.EqAt.none_str b t
  | _=>exact absurd (show false=true from fx) Bool.false_ne_true
 | bl a=>
  cases ry
  cases x with
  | non=>cases rx;exact SeqAt.EqAt.bool_none a
  | bl b=>cases rx;exact SeqAt.EqAt.bool_bool a b
  | int b=>obtain ⟨t,rfl⟩:=rx;exact SeqAt.EqAt.bool_int a b t
  | str b=>obtain ⟨t,rfl⟩:=rx;exact SeqAt.EqAt.bool_str a b t
  | _=>exact absurd (show false=true from fx) Bool.false_ne_true
 | int a=>
  obtain ⟨t',rfl⟩:=ry
  cases x with
  | non=>cases rx;exact SeqAt.EqAt.int_none a t'
  | bl b=>cases rx;exact SeqAt.EqAt.int_bool a t' b
  | int b=>obtain ⟨t,rfl⟩:=rx;exact SeqAt.EqAt.int_int a t' b t
  | str b=>obtain ⟨t,rfl⟩:=rx;exact SeqAt.EqAt.int_str a t' b t
  | _=>exact absurd (show false=true from fx) Bool.false_ne_true
 | str a=>
  obtain ⟨t',rfl⟩:=ry
  cases x with
  | non=>cases rx;exact SeqAt.EqAt.str_none a t'
  | bl b=>cases rx;exact SeqAt.EqAt.str_bool a t' b
  | int b=>obtain ⟨t,rfl⟩:=rx;exact SeqAt.EqAt.str_int a t' b t
  | str b=>obtain ⟨t,rfl⟩:=rx;exact SeqAt.EqAt.str_str a t' b t
  | _=>exact absurd (show false=true from fx) Bool.false_ne_true
 | _=>exact absurd (show false=true from fy) Bool.false_ne_true
def eqU(x:V)(u:Value):Bool:=match u with
 | .none=>eqV .non x
 | .bool b=>eqV (.bl b) x
 | .int i _=>eqV (.int i) x
 | .str z _=>eqV (.str z) x
 | _=>false
theorem lU{x y:V}{u:Value}(r:RelV y u)(f:bb y=true):eqU x u=eqV y x:=by
 cases y with
 | non=>cases r;rfl
 | bl b=>cases r;rfl
 | int i=>obtain ⟨t,rfl⟩:=r;rfl
 | str z=>obtain ⟨t,rfl⟩:=r;rfl
 | _=>exact absurd (show false=true from f) Bool.false_ne_true
theorem gm{x:V}:∀{xs:List V} {us:List Value},Vals xs us->xs.all bb=true->us.any (eqU x)=xs.any fun y=>eqV y x
 | _,_,.nil,_=>rfl
 | y :: xs,u :: us,.cons r t,f=>by
  rw [List.all_cons,Bool.and_eq_true] at f
  rw [List.any_cons,List.any_cons,lU r f.1,gm t f.2]
theorem eU{A:Around}{s:Shared}{x:V}{v:Value}(rx:RelV x v)(fx:bb x=true):∀{xs:List V} {us:List Value},Vals xs us->xs.all bb=true->∀u∈us,SeqAt.EqAt A s u v (eqU x u)
 | _,_,.nil,_=>fun u hu=>by cases hu
 | y :: xs,u :: us,.cons r t,f=>fun u' hu=>by
  rw [List.all_cons,Bool.and_eq_true] at f
  rcases List.mem_cons.mp hu with rfl | hu
  ·rw [lU r f.1];exact iT r rx f.1 fx
  ·exact eU rx fx t f.2 u' hu
def inV(x:V)(xs:List V):Bool:=xs.any fun y=>eqV y x
def rIn(K:PySem.W.Frag)(neg:Bool):R2:=fun x y H Q=>∃p xs,y=.ref p/\(SqL K H p xs\/SqT K H p xs)/\bb x=true/\xs.all bb=true/\Q (.bl (if neg then !inV x xs else inV x xs)) H
theorem cC:OpR X (compareOp .In) (rIn X.K false):=by
 intro pins s σ H x y v u Q I rx ry h
 obtain ⟨p,xs,rfl,hq,fx,fs,q⟩:=h
 cases ry
 rcases hq with hq | hq
 ·obtain ⟨its,r,pl,hz⟩:=I.list hq
  refine SeqAt.in_listAt (eqU x) pl.isList (fun w hw=>eU rx fx r fs w (by simpa using hw)) ⟨.bl _,H,I,rfl,?_⟩
  rw [show its.toArray.any (eqU x)=its.any (eqU x) by simp,gm r fs]
  exact q
 ·obtain ⟨its,r,pl,hz⟩:=I.tuple hq
  refine SeqAt.in_tupleAt (eqU x) pl (fun w hw=>eU rx fx r fs w (by simpa using hw)) ⟨.bl _,H,I,rfl,?_⟩
  rw [show its.toArray.any (eqU x)=its.any (eqU x) by simp,gm r fs]
  exact q
theorem aC:bT X (.builtin "len") (fun xs H Q=>∃p ys,xs=[.ref p]/\(SqL X.K H p ys\/SqT X.K H p ys)/\Q (.int ys.length) H):=by
 intro pins s σ H xs us Q I r h
 obtain ⟨p,ys,rfl,hq,q⟩:=h
 obtain ⟨u,rfl,rx⟩:=ee r
 cases rx
 have hn:=eT
 rcases hq with hq | hq
 ·obtain ⟨its,r',pl,hz⟩:=I.list hq
  have hlen:=r'.length
  exact Calls.call_len_list pl.isList (by simp only [List.size_toArray] <;> omega) ⟨.int ys.length,H,I.tok _,⟨s.toks+1,by rw [List.size_toArray,hlen]⟩,q⟩
 ·obtain ⟨its,r',pl,hz⟩:=I.tuple hq
  have hlen:=r'.length
  exact len_tuple pl (by simp only [List.size_toArray] <;> omega) ⟨.int ys.length,H,I.tok _,⟨s.toks+1,by rw [List.size_toArray,hlen]⟩,q⟩
theorem bJ:bT X (.type "list") (fun xs H Q=>∃p ys,xs=[.ref p]/\(SqL X.K H p ys\/SqT X.K H p ys)/\∀l,H l=none->Q (.ref l) (upd H l (.lst ys))):=by
 intro pins s σ H xs us Q I r h
 obtain ⟨p,ys,rfl,hq,q⟩:=h
 obtain ⟨u,rfl,rx⟩:=ee r
 cases rx
 have fin:∀(its:List Value),Vals ys its->ys.length<=sizeLine->∀(h':Heap)(c':Nat),(∀b o',s.heap.get? b=some o'->h'.get? b=some o')->
   h'.get? s.heap.objs.size=some {cls:=.type "list",dict:=none,data:=.seq its.toArray c',slots:=#[]}->EP X pins σ Q (.ref s.heap.objs.size) {s with heap:=h'}:=fun its r' hz h' c' kp e=>
  ⟨.ref s.heap.objs.size,_,I.laid (t':=s.toks) kp (Nat.le_refl _) (show ObjOk X.prog X.w _ h' _ (.lst ys) from ⟨hz,its,c',r',e⟩),rfl,q _ (I.hok.fresh (Nat.le_refl _))⟩
 rcases hq with hq | hq
 ·obtain ⟨its,r',pl,hz⟩:=I.list hq
  have hlen:=r'.length
  obtain ⟨o,ho,hc,n,hd⟩:=pl.isList
  exact call_list_seq p (.inl rfl) ho hc hd (fun h' c' kp e=>fin its r' hz h' c' kp e) (by simp only [List.size_toArray] <;> omega)
 ·obtain ⟨its,r',pl,hz⟩:=I.tuple hq
  have hlen:=r'.length
  obtain ⟨o,ho,hc,n,hd⟩:=pl
  exact call_list_seq p (.inr rfl) ho hc hd (fun h' c' kp e=>fin its r' hz h' c' kp e) (by simp only [List.size_toArray] <;> omega)
def tyV(K:PySem.W.Frag)(T:String)(x:V)(H:Hp):Prop:=match x with
 | .str _=>T="str"
 | .int _=>T="int"
 | .ref p=>(T="list"/\∃xs,SqL K H p xs)\/(T="tuple"/\∃o,K.lookup p=some o/\o.cls=.type "tuple"/\o.dict=none)\/
   (T="dict"/\((∃kvs,H p=some (.dK kvs))\/∃kvs,H p=some (.dT kvs)))\/(T="set"/\∃S n,H p=some (.set S n))
 | _=>False
theorem p6{pins:List (Addr×Obj)}{σ:St}{H:Hp}{s:Shared}{T:String}{x:V}{v:Value}(I:Inv X pins σ H s)(r:RelV x v)(ty:tyV X.K T x H):
  s.TypeIs v T/\∀a,v=.ref a->∃ob,s.heap.get? a=some ob/\ob.dict=none:=by
 cases x with
 | str z=>
  obtain ⟨t,rfl⟩:=r
  cases (show T="str" from ty)
  exact ⟨typeIs_str s z t,fun _ e=>nomatch e⟩
 | int i=>
  obtain ⟨t,rfl⟩:=r
  cases (show T="int" from ty)
  exact ⟨typeIs_int s i t,fun _ e=>nomatch e⟩
 | ref p=>
  cases r
  rcases ty with ⟨rfl,xs,hq⟩ | ⟨rfl,o,hk,hc,hd⟩ | ⟨rfl,hk⟩ | ⟨rfl,S,n,hk⟩
  ·obtain ⟨its,_,pl,_⟩:=I.list hq
   refine ⟨pl.isList.typeIs,fun a e=>?_⟩
   cases e
   obtain ⟨o,n,e,c,hd,_⟩:=pl
   exact ⟨o,e,hd⟩
  ·refine ⟨⟨o,I.kIn p o hk,hc⟩,fun a e=>?_⟩
   cases e
   exact ⟨o,I.kIn _ o hk,hd⟩
  ·have z:∃o,s.heap.get? p=some o/\o.ExactDict:=by
    rcases hk with ⟨kvs,hk⟩ | ⟨kvs,hk⟩
    ·obtain ⟨_,_,_,_,o,_,_,e,ex,_⟩:=I.hok p _ hk
     exact ⟨o,e,ex⟩
    ·obtain ⟨_,_,_,_,o,_,_,e,ex,_⟩:=I.hok p _ hk
     exact ⟨o,e,ex⟩
   obtain ⟨o,e,ex⟩:=z
   refine ⟨⟨o,e,ex.1⟩,fun a e2=>?_⟩
   cases e2
   exact ⟨o,e,ex.2.1⟩
  ·obtain ⟨o,_,_,_,e,ex,_⟩:=I.hok p _ hk
   refine ⟨⟨o,e,ex.1⟩,fun a e2=>?_⟩
   cases e2
   exact ⟨o,e,ex.2.1⟩
 | _=>exact False.elim ty
def u4(K:PySem.W.Frag)(T:String)(r:V->List V->Hp->VK->Prop)(to:TE):TE:=fun σ H Q=>to σ H fun x H1=>tyV K T x H1/\r x [] H1 Q
def tBM(K:PySem.W.Frag)(T:String)(r:V->List V->Hp->VK->Prop)(to:TE)(t:TA):TE:=fun σ H Q=>to σ H fun x H1=>tyV K T x H1/\t σ H1 fun xs H2=>r x xs H2 Q
variable {o e:Expr} {es:List Expr} {to:TE} {t:TA} {name:Str} {apos cpos:Pos} {T id:String} {r:V->List V->Hp->VK->Prop}
theorem t9(pa:PlainAttrs T)(slot:Slot T name id)(hty:typeOf (.builtin id)=pure (.type "method_descriptor")) (hm:MtR X id r) (ho:PE X o to)
  (hbase:attributeBase o name X.env (eval o X.env)=eval o X.env:=by rfl) (hline:(apos.endLine == cpos.line)=true:=by rfl):PE X (.Call (.Attribute o name apos) [] [] cpos) (u4 X.K T r to):=by
 intro pins s σ H Q I h
 refine wpAny_Call_method0_late hbase hline (thn (ho pins s σ H _ I h) fun v s1 hhx=>?_)
 obtain ⟨x,H1,I1,r1,ty,q1⟩:=hhx
 obtain ⟨h1,h2⟩:=p6 I1 r1 ty
 exact ⟨T,id,pa,slot,hty,h1,h2,Calls.callWith_builtin rfl (PySem.evalArgs_none (hm pins s1 σ H1 x [] v [] Q I1 r1 .nil q1))⟩
theorem uB(pa:PlainAttrs T)(slot:Slot T name id)(hty:typeOf (.builtin id)=pure (.type "method_descriptor")) (hm:MtR X id r) (ho:PE X o to) (ha:PA X (e :: es) t)
  (hbase:attributeBase o name X.env (eval o X.env)=eval o X.env:=by rfl)
  (hfew:((backTo cpos (starEach (e :: es) X.env)).all (fun x=>!x.1) && (backToKw cpos (keywordEach [] X.env)).all (fun x=>x.1.isSome)
   && decide ((e :: es).length+([]:List Keyword).length+(if ([]:List Keyword).isEmpty then 0 else 1) < 30))=true:=by rfl)
  (hline:(apos.endLine == cpos.line)=true:=by rfl) (hs:starEach (e :: es) X.env=(false,eval e X.env) :: starEach es X.env:=by rfl) (hplain:(backTo cpos (starEach es X.env)).any (·.1)=false:=by rfl) :
  PE X (.Call (.Attribute o name apos) (e :: es) [] cpos) (tBM X.K T r to t):=by
 intro pins s σ H Q I h
 refine wpAny_Call_method_late hbase hfew hline rfl (thn (ho pins s σ H _ I h) fun v s1 hhx=>?_)
 obtain ⟨x,H1,I1,r1,ty,q1⟩:=hhx
 obtain ⟨h1,h2⟩:=p6 I1 r1 ty
 refine ⟨T,id,pa,slot,hty,h1,h2,?_⟩
 have hA:=ha cpos pins s1 σ H1 _ I1 q1
 rw [hs] at hA ⊢
 refine Calls.callWith_builtin (by show (false || (backTo cpos (starEach es X.env)).any (·.1))=false;rw [hplain] <;> rfl) (Calls.evalArgs_plain ?_)
 exact thn hA fun us s2 ⟨vs,H2,I2,r2,q2⟩=>hm pins s2 σ H2 x vs v us Q I2 r1 r2 q2
/- xs.append(e),list.index on a module's tuple .. are MtR facts of 06m -/
end
end L2
namespace L2
open PySem PySem.Spec PyProof.Rows
def MtM(X:Cx)(id:String)(r:V->List V->Hp->VK->Prop):Prop:=
 ∀(pins:List (Addr×Obj)) (s:Shared) (σ:St) (H:Hp) (x:V) (xs:List V) (v:Value) (us:List Value) (Q:VK),Inv X pins σ H s->RelV x v->Vals xs us->r x xs H Q->
  wpAny (model X.prog X.w) X.A (call (.builtin id) (v :: us)) (EP X pins σ Q) X.xe s
theorem Vals.one:∀{x:V} {us:List Value},Vals [x] us->∃u,us=[u]/\RelV x u
 | _,_,.cons r .nil=>⟨_,rfl,r⟩
theorem Vals.zero:∀{us:List Value},Vals [] us->us=[]
 | _,.nil=>rfl
section
variable {X:Cx} {pins:List (Addr×Obj)} {σ:St} {H:Hp} {s:Shared} {l b:Addr} {xs ys zs:List V}
theorem Inv.lset{its its':List Value}{n:Nat}{f:Array Value->Array Value}{t':Nat}(I:Inv X pins σ H s)(hH:H l=some (.lst xs))
  (e:s.heap.get? l=some {cls:=.type "list",data:=.seq its.toArray n}) (hf:f its.toArray=its'.toArray) (hv:Vals ys its') (hz:ys.length<=sizeLine) :
  Inv X pins σ (upd H l (.lst ys)) {s with heap:=s.heap.update l (Obj.mapSeq f),toks:=t'}:=by
 have q:=PySem.IsL.update e f
 rw [hf] at q
 refine I.write (x:=l) (e:=l) (by rw [hH];exact trivial) (.inl rfl) (fun b' u hb hu=>(Heap.get?_update_other s.heap (Obj.mapSeq f) (Ne.symm hb)).trans hu) ⟨_,q⟩ ?_
 exact ⟨hz,its',_,hv,q⟩
theorem Inv.lnew{its:List Value}{t':Nat}(I:Inv X pins σ H s)(hv:Vals ys its)(hz:ys.length<=sizeLine):
  Inv X pins σ (upd H s.heap.objs.size (.lst ys)) {s with heap:=s.heap.push {cls:=.type "list",data:=.seq its.toArray},toks:=t'}:=
 I.laid (fun _ _ q=>Heap.get?_push_of_some _ q) (Nat.le_refl _) ⟨hz,its,0,hv,Heap.get?_push_size _ rfl⟩
theorem Inv.fresh(I:Inv X pins σ H s):H s.heap.objs.size=none:=I.hok.fresh (Nat.le_refl _)
theorem Inv.lstM(I:Inv X pins σ H s)(hH:H l=some (.lst xs)):xs.length<=sizeLine/\∃(its:List Value)(n:Nat),Vals xs its/\xs.length=its.length/\s.heap.get? l=some {cls:=.type "list",data:=.seq its.toArray n}:=by
 obtain ⟨z,its,n,r,e⟩:=I.hok l _ hH
 exact ⟨z,its,n,r,r.length,e⟩
theorem mC{n:Nat}(h:n<=sizeLine):Builtin.List.listTooLong n=false:=by
 unfold Builtin.List.listTooLong
 exact decide_eq_false (by omega)
end
section
variable {X:Cx}
def jJ:V->List V->Hp->VK->Prop:=fun x vs H Q=>∃l xs y,x=.ref l/\vs=[y]/\H l=some (.lst xs)/\xs.length < sizeLine/\Q .non (upd H l (.lst (xs ++ [y])))
theorem bN:MtM X "list.append" jJ:=by
 intro pins s σ H x vs v us Q I rx rv h
 obtain ⟨l,xs,y,rfl,rfl,hH,hz,q⟩:=h
 cases rx
 obtain ⟨u,rfl,ru⟩:=rv.one
 obtain ⟨z,its,n,r,hl,e⟩:=I.lstM hH
 refine call_meets F.slot_list_append ⟨_,e,rfl⟩ F.entry_list_append (F.args_list_append_2 _ _) (PySem.list_append l its.toArray n u (by rw [List.size_toArray];omega)) ⟨e,?_⟩
 refine ⟨.non,_,I.lset (its':=its ++ [u]) hH e (by simp) (r.append (.cons ru .nil)) ?_,rfl,q⟩
 rw [List.length_append,List.length_singleton]
 omega
def qy:V->List V->Hp->VK->Prop:=fun x vs H Q=>∃l b xs zs,x=.ref l/\vs=[.ref b]/\H l=some (.lst xs)/\H b=some (.lst zs)/\xs.length+zs.length<=sizeLine/\Q .non (upd H l (.lst (xs ++ zs)))
theorem uj:MtM X "list.extend" qy:=by
 intro pins s σ H x vs v us Q I rx rv h
 obtain ⟨l,b,xs,zs,rfl,rfl,hH,hB,hz,q⟩:=h
 cases rx
 obtain ⟨u,rfl,ru⟩:=rv.one
 cases ru
 obtain ⟨z,its,n,r,hl,e⟩:=I.lstM hH
 obtain ⟨z2,its2,n2,r2,hl2,e2⟩:=I.lstM hB
 have hsz:its.toArray.size+its2.toArray.size<=sizeLine:=by rw [List.size_toArray,List.size_toArray];omega
 have hlong:¬(!its.toArray.isEmpty && Builtin.List.listTooLong (its.toArray.size+its2.toArray.size))=true:=by
  rw [mC hsz,Bool.and_false]
  exact Bool.false_ne_true
 refine call_meets F.slot_list_extend ⟨_,e,rfl⟩ F.entry_list_extend (F.args_list_extend_2 _ _)
  (AutoSeq1.list_extend_list_list_0 l its.toArray n b its2.toArray n2 hlong (by rw [List.size_toArray];omega) (by omega)) ⟨e,e2,?_⟩
 refine ⟨.non,_,I.lset (its':=its ++ its2) hH e (by simp) (r.append r2) ?_,rfl,q⟩
 rw [List.length_append]
 omega
def uI:R2:=fun x y H Q=>∃l b xs zs,x=.ref l/\y=.ref b/\H l=some (.lst xs)/\H b=some (.lst zs)/\xs.length+zs.length<=sizeLine/\∀p,H p=none->Q (.ref p) (upd H p (.lst (xs ++ zs)))
theorem j0:OpR X (binaryOp .Add) uI:=by
 intro pins s σ H x y v u Q I rx ry h
 obtain ⟨l,b,xs,zs,rfl,rfl,hH,hB,hz,q⟩:=h
 cases rx
 cases ry
 obtain ⟨z,its,n,r,hl,e⟩:=I.lstM hH
 obtain ⟨z2,its2,n2,r2,hl2,e2⟩:=I.lstM hB
 refine PySem.P.add_list e e2 ?_ (by rw [List.size_toArray,List.size_toArray];omega)
 have ea:its.toArray ++ its2.toArray=(its ++ its2).toArray:=by simp
 rw [ea]
 exact ⟨.ref _,_,I.lnew (t':=s.toks) (r.append r2) (by rw [List.length_append];omega),rfl,q _ I.fresh⟩
end
section
variable {prog:Program} {w:World} {A:Around} {E:Value->Shared->Prop} {s:Shared}
end
section
variable {X:Cx}
end
end L2
variable {H:Hp} {o:Option V}
namespace L2
open PySem PySem.Spec PyProof.Rows
section
variable {κ:Type} [DecidableEq κ]
def aY(kvs:List (κ×V))(k:κ):Option V:=(kvs.find? fun kv=>decide (kv.1=k)).map (·.2)
def bi(kvs:List (κ×V))(k:κ)(v:V):List (κ×V):=
 if (kvs.any fun kv=>decide (kv.1=k))=true then kvs.map (fun kv=>if kv.1=k then (kv.1,v) else kv) else kvs ++ [(k,v)]
theorem b3{p:κ×V}{r:List (κ×V)}{k:κ}(e:p.1=k):aY (p :: r) k=some p.2:=by simp [aY,List.find?_cons,e]
theorem b2{p:κ×V}{r:List (κ×V)}{k:κ}(e:¬p.1=k):aY (p :: r) k=aY r k:=by simp [aY,List.find?_cons,e]
theorem bc(k:κ):∀kvs:List (κ×V),(kvs.any fun kv=>decide (kv.1=k))=(aY kvs k).isSome
 | []=>rfl
 | p :: r=>by
  rw [List.any_cons]
  by_cases e:p.1=k
  ·simp only [b3 e,decide_eq_true e,Bool.true_or,Option.isSome_some]
  ·rw [b2 e,decide_eq_false e,Bool.false_or];exact bc k r
theorem iK(k j:κ)(y:V):∀kvs:List (κ×V),aY (kvs.map fun kv=>if kv.1=k then (kv.1,y) else kv) j=(aY kvs j).map fun x=>if j=k then y else x
 | []=>rfl
 | p :: r=>by
  have ih:=iK k j y r
  rw [List.map_cons]
  by_cases h:p.1=k
  ·rw [if_pos h]
   by_cases e:p.1=j
   ·rw [b3 (p:=(p.1,y)) e,b3 e,Option.map_some,if_pos (e.symm.trans h)]
   ·rw [b2 (p:=(p.1,y)) e,b2 e,ih]
  ·rw [if_neg h]
   by_cases e:p.1=j
   ·rw [b3 (p:=p) e,b3 e,Option.map_some,if_neg (fun z=>h (e.trans z))]
   ·rw [b2 (p:=p) e,b2 e,ih]
theorem gf(k j:κ)(y:V):∀kvs:List (κ×V),aY kvs k=none->aY (kvs ++ [(k,y)]) j=if j=k then some y else aY kvs j
 | [],_=>by
  by_cases e:k=j
  ·rw [if_pos e.symm];exact b3 (p:=(k,y)) e
  ·rw [if_neg (fun z=>e z.symm)];exact b2 (p:=(k,y)) e
 | p :: r,hn=>by
  rw [List.cons_append]
  have hk:¬p.1=k:=fun z=>by rw [b3 z] at hn;cases hn
  rw [b2 hk] at hn
  have ih:=gf k j y r hn
  by_cases e:p.1=j
  ·rw [b3 e,b3 e,if_neg (fun z=>hk (e.trans z))]
  ·rw [b2 e,b2 e,ih]
theorem p8(kvs:List (κ×V))(k j:κ)(y:V):aY (bi kvs k y) j=if j=k then some y else aY kvs j:=by
 unfold bi
 by_cases a:(kvs.any fun kv=>decide (kv.1=k))=true
 ·rw [if_pos a,iK]
  rw [bc] at a
  by_cases e:j=k
  ·obtain ⟨x,hx⟩:=Option.isSome_iff_exists.mp a
   rw [if_pos e,e,hx,Option.map_some,if_pos rfl]
  ·rw [if_neg e]
   cases aY kvs j with
   | none=>rfl
   | some x=>rw [Option.map_some,if_neg e]
 ·rw [if_neg a]
  refine gf k j y kvs ?_
  rw [bc] at a
  cases q:aY kvs k with
  | none=>rfl
  | some x=>rw [q] at a;exact (a rfl).elim
theorem bV(kvs:List (κ×V))(k:κ)(v:V):(bi kvs k v).length<=kvs.length+1:=by
 unfold bi
 split
 ·rw [List.length_map];omega
 ·rw [List.length_append,List.length_cons,List.length_nil];omega
theorem ie{kvs:List (κ×V)}{k:κ}(v:V)(h:aY kvs k=none):bi kvs k v=kvs ++ [(k,v)]:=by
 unfold bi
 rw [bc,h]
 exact if_neg (by decide)
theorem RelO.isSome_eq{o:Option V}{u:Option Value}(r:RelO o u):o.isSome=u.isSome:=by
 cases o with
 | none=>cases u with
  | none=>rfl
  | some _=>exact (show False from r).elim
 | some _=>cases u with
  | none=>exact (show False from r).elim
  | some _=>rfl
theorem RelO.getD{o:Option V}{u:Option Value}{d:V}{d':Value}(r:RelO o u)(rd:RelV d d'):RelV (o.getD d) (u.getD d'):=by
 cases o with
 | none=>cases u with
  | none=>exact rd
  | some _=>exact (show False from r).elim
 | some _=>cases u with
  | none=>exact (show False from r).elim
  | some _=>exact r
theorem KV.val{kvs:List (κ×V)}{vs:List (κ×Value)}(r:KV kvs vs)(k:κ):RelO (aY kvs k) (valueAt vs k):=by
 unfold KV at r
 induction r with
 | nil=>exact True.intro
 | @cons p q ps qs h t ih=>
  obtain ⟨h1,h2⟩:=h
  by_cases e:p.1=k
  ·have e':q.1=k:=h1.symm.trans e
   have b:valueAt (q :: qs) k=some q.2:=by simp [valueAt,List.find?_cons,e']
   rw [b3 e,b];exact h2
  ·have e':¬q.1=k:=fun z=>e (h1.trans z)
   have b:valueAt (q :: qs) k=valueAt qs k:=by simp [valueAt,List.find?_cons,e']
   rw [b2 e,b];exact ih
theorem KV.any{kvs:List (κ×V)}{vs:List (κ×Value)}(r:KV kvs vs)(k:κ):(kvs.any fun kv=>decide (kv.1=k))=vs.any fun kv=>decide (kv.1=k):=by
 unfold KV at r
 induction r with
 | nil=>rfl
 | cons h t ih=>rw [List.any_cons,List.any_cons,ih,h.1]
theorem KV.repl{kvs:List (κ×V)}{vs:List (κ×Value)}(r:KV kvs vs)(k:κ){y:V}{u:Value}(ry:RelV y u):
  KV (kvs.map fun kv=>if kv.1=k then (kv.1,y) else kv) (vs.map fun kv=>if kv.1=k then (kv.1,u) else kv):=by
 unfold KV at r ⊢
 induction r with
 | nil=>exact .nil
 | @cons p q ps qs h t ih=>
  rw [List.map_cons,List.map_cons]
  refine .cons ?_ ih
  obtain ⟨h1,h2⟩:=h
  by_cases e:p.1=k
  ·rw [if_pos e,if_pos (h1.symm.trans e)];exact ⟨h1,ry⟩
  ·rw [if_neg e,if_neg (fun z=>e (h1.trans z))];exact ⟨h1,h2⟩
theorem KV.put{kvs:List (κ×V)}{vs:List (κ×Value)}(r:KV kvs vs)(k:κ){y:V}{u:Value}(ry:RelV y u):KV (bi kvs k y) (stored vs k u):=by
 unfold bi stored
 rw [r.any k]
 by_cases e:(vs.any fun kv=>decide (kv.1=k))=true
 ·rw [if_pos e,if_pos e];exact r.repl k ry
 ·rw [if_neg e,if_neg e];exact Paired.snoc r ⟨rfl,ry⟩
theorem KV.length{kvs:List (κ×V)}{vs:List (κ×Value)}(r:KV kvs vs):kvs.length=vs.length:=Paired.length r
end
theorem jB{P:Program}{w:World}{k:Key}{u:Value}(r:RelV (kV k) u):(aP P w).is k u=true:=by
 cases k with
 | inl i=>obtain ⟨t,e⟩:=(show ∃t,u=Value.int i t from r);subst e;exact i4 P w i t
 | inr x=>obtain ⟨t,e⟩:=(show ∃t,u=Value.str x t from r);subst e;exact i5 P w x t
theorem fM{P:Program}{w:World}:∀{ks:List Key} {us:List Value},Vals (ks.map kV) us->ItemsAre (aP P w) ks us
 | [],_,r=>by rw [List.map_nil] at r;cases r;exact .nil
 | k :: ks,_,r=>by
  rw [List.map_cons] at r
  cases r with
  | cons h t=>exact .cons (jB h) (fM t)
abbrev KT (H:Hp):List (List Key×V)->List (List Key×Addr×Value)->Prop:=Paired fun p q=>p.1=q.1/\H q.2.1=some (.tup (p.1.map kV))/\RelV p.2 q.2.2
theorem KT.val{H:Hp}{kvs:List (List Key×V)}{xs:List (List Key×Addr×Value)}(r:KT H kvs xs)(k:List Key):RelO (aY kvs k) ((atKey xs k).map (·.2)):=by
 induction r with
 | nil=>exact True.intro
 | @cons p q ps qs h t ih=>
  obtain ⟨h1,_,h2⟩:=h
  by_cases e:p.1=k
  ·have e':q.1=k:=h1.symm.trans e
   have b:atKey (q :: qs) k=some q.2:=by simp [atKey,List.find?_cons,e']
   rw [b3 e,b];exact h2
  ·have e':¬q.1=k:=fun z=>e (h1.trans z)
   have b:atKey (q :: qs) k=atKey qs k:=by simp [atKey,List.find?_cons,e']
   rw [b2 e,b];exact ih
theorem KT.repl{H:Hp}{kvs:List (List Key×V)}{xs:List (List Key×Addr×Value)}(r:KT H kvs xs)(k:List Key){y:V}{u:Value}(ry:RelV y u):
  KT H (kvs.map fun kv=>if kv.1=k then (kv.1,y) else kv) (xs.map (putAt k u)):=by
 induction r with
 | nil=>exact .nil
 | @cons p q ps qs h t ih=>
  rw [List.map_cons,List.map_cons]
  refine .cons ?_ ih
  obtain ⟨h1,h2,h3⟩:=h
  unfold putAt
  by_cases e:p.1=k
  ·rw [if_pos e,if_pos (h1.symm.trans e)];exact ⟨h1,h2,ry⟩
  ·rw [if_neg e,if_neg (fun z=>e (h1.trans z))];exact ⟨h1,h2,h3⟩
theorem KT.put{H:Hp}{kvs:List (List Key×V)}{xs:List (List Key×Addr×Value)}(r:KT H kvs xs)(k:List Key){b:Addr}{y:V}{u:Value}(hb:H b=some (.tup (k.map kV)))(ry:RelV y u):
  KT H (bi kvs k y) (storedH xs k b u):=by
 have e:(kvs.any fun kv=>decide (kv.1=k))=(atKey xs k).isSome:=by
  rw [bc,(r.val k).isSome_eq,Option.isSome_map]
 unfold bi storedH
 rw [e]
 by_cases q:(atKey xs k).isSome=true
 ·rw [if_pos q,if_pos q];exact r.repl k ry
 ·rw [if_neg q,if_neg q];exact Paired.snoc r ⟨rfl,hb,ry⟩
theorem KT.keeps{H H':Hp}{kvs:List (List Key×V)}{xs:List (List Key×Addr×Value)}(r:KT H kvs xs)(ht:∀b ys,H b=some (.tup ys)->H' b=some (.tup ys)):KT H' kvs xs:=
 Paired.mapP r fun _ _ z=>⟨z.1,ht _ _ z.2.1,z.2.2⟩
section
variable {P:Program} {w:World} {H:Hp} {h:Heap} {a:Addr}
theorem rT{u:HO}(ok:HOk P w H h)(e:Rd H a u):ObjOk P w H h a u:=e.ok ok
theorem d0{kvs:List (Key×V)}(ok:HOk P w H h)(e:Rd H a (.dK kvs)):kvs.length<=sizeLine/\(a == sysModules)=false/\∃vs,KV kvs vs/\h.DictOf (aP P w) a vs:=
 show ObjOk P w H h a (.dK kvs) from rT ok e
theorem lT{kvs:List (Key×V)}(ok:HOk P w H h)(e:H a=some (.dK kvs)):kvs.length<=sizeLine/\(a == sysModules)=false/\∃vs,KV kvs vs/\h.DictOf (aP P w) a vs:=d0 ok (.inl e)
theorem gz{ks:List Key}(ok:HOk P w H h)(e:H a=some (.tup (ks.map kV))):(tupleKind (aP P w)).is h ks a:=by
 obtain ⟨_,its,r,o,h1,h2,n,h3⟩:=(show ObjOk P w H h a (.tup (ks.map kV)) from ok a _ e)
 exact ⟨o,its.toArray,n,h1,h2,h3,by simpa using fM r⟩
theorem h7{kvs:List (List Key×V)}(ok:HOk P w H h)(e:Rd H a (.dT kvs)):kvs.length<=sizeLine/\(a == sysModules)=false/\
  ∃xs,KT H kvs xs/\h.DictOfH (tupleKind (aP P w)) a xs:=by
 obtain ⟨z,y,xs,r,o,es,ep,h1,h2,h3,h4,h5⟩:=(show ObjOk P w H h a (.dT kvs) from rT ok e)
 refine ⟨z,y,xs,r,o,es,ep,h1,h2,h3,h4,fun x hx=>?_,h5⟩
 have all:∀{l:List (List Key×V)} {m:List (List Key×Addr×Value)},KT H l m->∀x∈m,(tupleKind (aP P w)).is h x.1 x.2.1:=by
  intro l m q
  induction q with
  | nil=>intro x hx;exact nomatch hx
  | @cons p q ps qs hq t ih=>
   intro x hx
   rcases List.mem_cons.mp hx with e | hx
   ·subst e
    exact gz ok (by rw [<- hq.1];exact hq.2.1)
   ·exact ih x hx
 exact all r x hx
theorem uq{kvs:List (List Key×V)}(ok:HOk P w H h)(e:H a=some (.dT kvs)):kvs.length<=sizeLine/\(a == sysModules)=false/\
  ∃xs,KT H kvs xs/\h.DictOfH (tupleKind (aP P w)) a xs:=h7 ok (.inl e)
end
def iN(H:Hp)(a:Addr)(y:V)(r:Option V):Prop:=
 (∃kvs k,Rd H a (.dK kvs)/\y=kV k/\r=aY kvs k)\/∃kvs k b,Rd H a (.dT kvs)/\y=.ref b/\H b=some (.tup (k.map kV))/\r=aY kvs k
def DPut(H:Hp)(a:Addr)(y v:V)(H':Hp):Prop:=
 (∃kvs k,H a=some (.dK kvs)/\y=kV k/\kvs.length < sizeLine/\H'=upd H a (.dK (bi kvs k v)))\/
 ∃kvs k b,H a=some (.dT kvs)/\y=.ref b/\H b=some (.tup (k.map kV))/\kvs.length < sizeLine/\H'=upd H a (.dT (bi kvs k v))
theorem DPut.k{H:Hp}{a:Addr}{kvs:List (Key×V)}{k:Key}{v:V}(e:H a=some (.dK kvs))(hl:kvs.length < sizeLine):DPut H a (kV k) v (upd H a (.dK (bi kvs k v))):=.inl ⟨kvs,k,e,rfl,hl,rfl⟩
section
variable {X:Cx} {pins:List (Addr×Obj)} {σ:St} {H:Hp} {s:Shared} {a:Addr} {y v:V} {u r:Value} {o:Option V} {A:Around} {E:Value->Shared->Prop}
theorem Inv.big(I:Inv X pins σ H s):sysModules < s.heap.objs.size:=by
 have h:mainGlobals < s.heap.objs.size:=(I.mod.glob.keeps I.bk).lt
 exact Nat.lt_trans (by decide) h
theorem kC{Q:Value->Shared->Prop}(hu:A.units+1 < cLine)(I:Inv X pins σ H s)(g:iN H a y (some v))(ry:RelV y u)(h:∀w' s',Inv X pins σ H s'->RelV v w'->Q w' s'):
  wpAny (model X.prog X.w) A (getItem (.ref a) u) Q E s:=by
 rcases g with ⟨kvs,k,e,ey,l⟩ | ⟨kvs,k,b,e,ey,eb,l⟩
 ·subst ey
  obtain ⟨z,hd,vs,rel,dd⟩:=d0 I.hok e
  obtain ⟨w',hw,rw'⟩:=RelO.some_of (v:=v) (o:=valueAt vs k) (by rw [l];exact rel.val k)
  exact wpAny_getItem_of (jB ry) dd.mapOf hw (h w' _ (I.tok _) rw')
 ·subst ey
  cases (show u=Value.ref b from ry)
  obtain ⟨z,hd,xs,rel,dd⟩:=h7 I.hok e
  obtain ⟨w',hw,rw'⟩:=RelO.some_of (v:=v) (o:=(atKey xs k).map (·.2)) (by rw [l];exact rel.val k)
  obtain ⟨p,hp,hp2⟩:=Option.map_eq_some_iff.mp hw
  refine wpAny_getItem_heap (tupleKind_room_in1 hu) (gz I.hok eb) dd hp ?_
  rw [hp2]
  exact h w' _ (I.tok _) rw'
theorem gs{h':Heap}{t':Nat}{ob:HO}(I:Inv X pins σ H s)(mu:Mut (H a))(hs:Heap.SameBut a s.heap h')(he:∃q,h'.get? a=some q)(new:ObjOk X.prog X.w (upd H a ob) h' a ob):
  Inv X pins σ (upd H a ob) {s with heap:=h',toks:=t'}:=
 I.write (x:=a) (e:=a) mu (.inl rfl) (fun b q hb z=>(hs.2 b hb).trans z) he new
theorem gu{P:Program}{w:World}{H':Hp}{h':Heap}{kvs:List (Key×V)}{vs:List (Key×Value)}(z:kvs.length<=sizeLine)(hd:(a == sysModules)=false)(rel:KV kvs vs)(dd:h'.DictOf (aP P w) a vs):
  ObjOk P w H' h' a (.dK kvs):=⟨z,hd,vs,rel,dd⟩
theorem kD{H':Hp}{Q:Unit->Shared->Prop}(hu:A.units+1 < cLine)(I:Inv X pins σ H s)(g:DPut H a y v H')(ry:RelV y u)(rv:RelV v r)(h:∀s',Inv X pins σ H' s'->Q () s'):
  wpAny (model X.prog X.w) A (setItem (.ref a) u r) Q E s:=by
 rcases g with ⟨kvs,k,e,ey,l,eH⟩ | ⟨kvs,k,b,e,ey,eb,l,eH⟩
 ·subst ey eH
  obtain ⟨z,hd,vs,rel,dd⟩:=lT I.hok e
  have hz:vs.length<=sizeLine:=by rw [<- rel.length];exact z
  have hl:(bi kvs k v).length<=sizeLine:=by have:=bV kvs k v;omega
  refine wpAny_setItem_pairs (hsz:=hz) (jB ry) dd fun h' dd' hs=>h _ ?_
  have he:∃q,h'.get? a=some q:=let ⟨q,_,_,hq,_⟩:=dd';⟨q,hq⟩
  exact gs I (by rw [e];exact True.intro) hs he (gu hl hd (rel.put k rv) dd')
 ·subst ey eH
  cases (show u=Value.ref b from ry)
  obtain ⟨z,hd,xs,rel,dd⟩:=uq I.hok e
  have hz:xs.length<=sizeLine:=by rw [<- Paired.length rel];exact z
  have hl:(bi kvs k v).length<=sizeLine:=by have:=bV kvs k v;omega
  refine wpAny_setItem_heap (hsz:=hz) (tupleKind_room_in1 hu) (gz I.hok eb) dd fun h' dd' hs=>h _ ?_
  obtain ⟨q,es,ep,hq,h2,h3,h4,_,h5⟩:=dd'
  refine gs I (by rw [e];exact True.intro) hs ⟨q,hq⟩ ⟨hl,hd,_,(rel.put k eb rv).keeps fun c ys ec=>?_,q,es,ep,hq,h2,h3,h4,h5⟩
  rw [ap (bp ec e (fun z=>nomatch z))]
  exact ec
end
section
variable {X:Cx} {pins:List (Addr×Obj)} {σ:St} {H:Hp} {s:Shared} {a:Addr} {kvs:List (Key×V)} {k:Key} {u:Value} {A:Around} {E:Value->Shared->Prop}
theorem pI{Q:Value->Shared->Prop}(I:Inv X pins σ H s)(e:H a=some (.dK kvs))(h:∀s',Inv X pins σ (upd H a (.dK [])) s'->Q .none s'):wpAny (model X.prog X.w) A (call (.builtin "dict.clear") [.ref a]) Q E s:=by
 obtain ⟨z,hd,vs,rel,dd⟩:=lT I.hok e
 refine call_meetsIn PySem.F.slot_dict_clear dd.typeIs PySem.F.entry_dict_clear (PySem.F.args_dict_clear_1 _) (meets_dict_clear (aP X.prog X.w) a) ⟨vs,dd,by rw [<- rel.length];exact z,fun h' dd' hs=>h _ ?_⟩
 have he:∃q,h'.get? a=some q:=let ⟨q,_,_,hq,_⟩:=dd';⟨q,hq⟩
 exact gs (t':=s.toks) I (by rw [e];exact True.intro) hs he (gu (Nat.zero_le _) hd .nil dd')
end
def si(i:Expr):Prop:=∀ov iv,subscripted i false ov iv=operate [ov,iv] (getItem ov iv)
theorem qH{prog:Program}{w:World}{A:Around}{E:Value->Shared->Prop}{s:Shared}{env:Env}{value slice:Expr}{pos:Pos}{T id:String}{Q:Value->Shared->Prop}
  (hl:typeLookup (.type T) "__getitem__"=pure (some (.builtin id))) (hs:si slice)
  (h:wpAny (model prog w) A (eval value env) (fun o s₁=>wpAny (model prog w) A (eval slice env) (fun i s₂=>s₂.TypeIs o T/\wpAny (model prog w) A (getItem o i) Q E s₂) E s₁) E s) :
  wpAny (model prog w) A (eval (.Subscript value slice pos) env) Q E s:=by
 refine Subscript_ (wpAny_mono h (fun o s₁ h₁=>wpAny_mono h₁ (fun i s₂ h₂=>?_) fun _ _ x=>x) fun _ _ x=>x)
 obtain ⟨hT,h₂⟩:=h₂
 unfold subscriptTail
 refine wpAny_bind ?_
 rw [getitemInPython_of_ne hT.not_modules]
 refine wpAny_bind (wpAny_specialOf hT hl ?_)
 have fin:wpAny (model prog w) A (subscripted slice false o i) (fun r s₃=>wpAny (model prog w) A (letTemporaryGo value o r >>= fun _=>pure r) Q E s₃) E s₂:=by
  rw [hs o i]
  exact wpAny_operating (wpAny_mono h₂ (fun r s₃ h₃=>wpAny_bind (wpAny_letTemporaryGo (wpAny_pure h₃))) fun _ _ x=>x)
 first
  | exact wpAny_pure (wpAny_bind fin)
  | exact wpAny_bind (wpAny_pure (wpAny_bind fin))
  | exact wpAny_bind fin
theorem gZ{X:Cx}{pins:List (Addr×Obj)}{σ:St}{H:Hp}{s:Shared}{a:Addr}{y:V}(I:Inv X pins σ H s)(g:iN H a y o):s.TypeIs (.ref a) "dict":=by
 rcases g with ⟨kvs,k,e,_,_⟩ | ⟨kvs,k,b,e,_,_,_⟩
 ·obtain ⟨_,_,vs,_,dd⟩:=d0 I.hok e
  exact dd.typeIs
 ·obtain ⟨_,_,xs,_,dd⟩:=h7 I.hok e
  exact dd.typeIs
def oU(td ty:TE):TE:=fun σ H Q=>td σ H fun x H1=>ty σ H1 fun y H2=>∃a v,x=.ref a/\iN H2 a y (some v)/\Q v H2
def oG(td ty tv:TE):TS:=fun D σ H=>tv σ H fun v H1=>td σ H1 fun x H2=>ty σ H2 fun y H3=>∃a H4,x=.ref a/\DPut H3 a y v H4/\D.nx σ H4
section
variable {X:Cx} {o i e value:Expr} {pos pos' tpos:Pos} {td ty tv:TE}
theorem qe(hu:X.A.units+1 < cLine)(ho:PE X o td)(hi:PE X i ty)(hs:si i):PE X (.Subscript o i pos) (oU td ty):=by
 intro pins s σ H Q I h
 refine qH PySem.F.slot_dict_getitem.lookup hs (thn (ho pins s σ H _ I h) fun u s1 ⟨x,H1,I1,rx,q1⟩=>thn (hi pins s1 σ H1 _ I1 q1) fun iv s2 hhx=>?_)
 obtain ⟨y,H2,I2,ry,a,v,ex,g,q2⟩:=hhx
 subst ex
 obtain rfl:u=Value.ref a:=rx
 exact ⟨gZ I2 g,kC hu I2 g ry fun w' s3 I3 rw'=>⟨v,H2,I3,rw',q2⟩⟩
theorem ql(hu:X.A.units+1 < cLine)(ho:PE X o td)(hi:PE X i ty)(hv:PE X value tv)(hs:swapsWith value (some (.Subscript o i pos')) pos.line X.env=pure false):
  PS X (.Assign [.Subscript o i pos'] value pos) (oG td ty tv):=by
 intro pins s σ H D I h
 refine wpAny_Assign_Subscript (thn (hv pins s σ H _ I h) fun r s1 ⟨v,H1,I1,rv,q1⟩=>thn (ho pins s1 σ H1 _ I1 q1) fun u s2 ⟨x,H2,I2,rx,q2⟩=>thn (hi pins s2 σ H2 _ I2 q2) fun iv s3 hhx=>?_) hs
 obtain ⟨y,H3,I3,ry,a,H4,ex,g,q3⟩:=hhx
 subst ex
 obtain rfl:u=Value.ref a:=rx
 exact kD hu I3 g ry rv fun s4 I4=>⟨σ,H4,I4,q3⟩
end
theorem lS{P:Program}{w:World}(h:Heap)(hb:sysModules < h.objs.size):ObjOk P w H (h.push {cls:=.type "dict",data:=.dict #[]}) h.objs.size (.dK []):=
 ⟨Nat.zero_le _,beq_eq_false_iff_ne.mpr (Ne.symm (Nat.ne_of_lt hb)),[],.nil,Heap.DictOf.new h⟩
def jg:TE:=fun _ H Q=>∀p,H p=none->Q (.ref p) (upd H p (.dK []))
section
variable {X:Cx} {pos:Pos}
theorem n9:PE X (.Dict [] [] pos) jg:=fun pins s σ H Q I h=>
 wpAny_Dict_empty ⟨.ref s.heap.objs.size,_,I.laid (a:=s.heap.objs.size) (o:=.dK []) (t':=s.toks) (fun _ _ q=>Heap.get?_push_of_some _ q) (Nat.le_refl _) (lS s.heap I.big),rfl,h _ (I.hok.fresh (Nat.le_refl _))⟩
end
structure M2(X:Cx)(o:Expr)(m:Str)(apos:Pos)(e f:Expr)(cpos:Pos):Prop where
 base:attributeBase o m X.env (eval o X.env)=eval o X.env
 few:((backTo cpos (starEach [e,f] X.env)).all (fun x=>!x.1) && (backToKw cpos (keywordEach [] X.env)).all (fun x=>x.1.isSome)
  && decide (([e,f]:List Expr).length+([]:List Keyword).length+(if ([]:List Keyword).isEmpty then 0 else 1) < 30))=true
 line:(apos.endLine == cpos.line)=true
 trees:backTo cpos (starEach [e,f] X.env)=[(false,eval e X.env),(false,eval f X.env)]
def IsD(H:Hp)(a:Addr):Prop:=(∃kvs,Rd H a (.dK kvs))\/∃kvs,Rd H a (.dT kvs)
theorem m9{X:Cx}{pins:List (Addr×Obj)}{σ:St}{H:Hp}{s:Shared}{a:Addr}(I:Inv X pins σ H s)(d:IsD H a):
  s.TypeIs (.ref a) "dict"/\(∀b,Value.ref a=.ref b->∃ob,s.heap.get? b=some ob/\ob.dict=none)/\(a == sysModules)=false:=by
 rcases d with ⟨kvs,e⟩ | ⟨kvs,e⟩
 ·obtain ⟨_,hd,vs,_,dd⟩:=d0 I.hok e
  refine ⟨dd.typeIs,fun b q=>?_,hd⟩
  cases q
  obtain ⟨ob,_,_,h1,h2,_⟩:=dd
  exact ⟨ob,h1,h2.2.1⟩
 ·obtain ⟨_,hd,xs,_,dd⟩:=h7 I.hok e
  refine ⟨dd.typeIs,fun b q=>?_,hd⟩
  cases q
  obtain ⟨ob,_,_,h1,h2,_⟩:=dd
  exact ⟨ob,h1,h2.2.1⟩
section
variable {X:Cx} {pins:List (Addr×Obj)} {σ:St} {H:Hp} {s:Shared} {a:Addr} {y d:V} {u r:Value} {o:Option V} {A:Around} {E:Value->Shared->Prop}
theorem sv{Q:Value->Shared->Prop}(hu:A.units+1 < cLine)(I:Inv X pins σ H s)(g:iN H a y o)(ry:RelV y u)(rd:RelV d r)(h:∀w' s',Inv X pins σ H s'->RelV (o.getD d) w'->Q w' s'):
  wpAny (model X.prog X.w) A (call (.builtin "dict.get") [.ref a,u,r]) Q E s:=by
 rcases g with ⟨kvs,k,e,ey,l⟩ | ⟨kvs,k,b,e,ey,eb,l⟩
 ·subst ey
  obtain ⟨z,hd,vs,rel,dd⟩:=d0 I.hok e
  refine call_meetsIn PySem.F.slot_dict_get dd.typeIs PySem.F.entry_dict_get (PySem.F.args_dict_get_3 _ _ _) (meets_dict_get_default (aP X.prog X.w) a (jB ry) hd r) ⟨_,dd.mapOf,h _ _ (I.tok _) ?_⟩
  rw [l]
  exact (rel.val k).getD rd
 ·subst ey
  cases (show u=Value.ref b from ry)
  obtain ⟨z,hd,xs,rel,dd⟩:=h7 I.hok e
  refine call_meetsIn PySem.F.slot_dict_get dd.typeIs PySem.F.entry_dict_get (PySem.F.args_dict_get_3 _ _ _) (meetsH_dict_get_default (tupleKind (aP X.prog X.w)) a b hd r) ⟨tupleKind_room_in1 hu,k,xs,gz I.hok eb,dd,h _ _ (I.tok _) ?_⟩
  rw [l]
  exact (rel.val k).getD rd
end
def jf(td ty tx:TE):TE:=fun σ H Q=>td σ H fun x H1=>∃a,x=.ref a/\IsD H1 a/\ty σ H1 fun y H2=>tx σ H2 fun z H3=>∃o,iN H3 a y o/\Q (o.getD z) H3
section
variable {X:Cx} {o e f:Expr} {apos cpos:Pos} {td ty tx:TE}
theorem n6(hu:X.A.units+1 < cLine)(ho:PE X o td)(he:PE X e ty)(hf:PE X f tx)(m:M2 X o "get" apos e f cpos):PE X (.Call (.Attribute o "get" apos) [e,f] [] cpos) (jf td ty tx):=by
 intro pins s σ H Q I h
 refine wpAny_Call_method m.base m.few m.line PySem.F.plainAttrs_dict PySem.F.slot_dict_get PySem.F.type_dict_get (thn (ho pins s σ H _ I h) fun u s1 hhx=>?_)
 obtain ⟨x,H1,I1,rx,a,ex,d,q1⟩:=hhx
 subst ex
 obtain rfl:u=Value.ref a:=rx
 obtain ⟨t1,t2,_⟩:=m9 I1 d
 refine ⟨t1,t2,?_⟩
 rw [m.trees]
 refine Calls.callWith_builtin rfl (Calls.evalArgs_plain (Calls.spliced_cons (thn (he pins s1 σ H1 _ I1 q1) fun iv s2 ⟨y,H2,I2,ry,q2⟩=>
  Calls.spliced_cons (thn (hf pins s2 σ H2 _ I2 q2) fun fv s3 ⟨z,H3,I3,rz,ov,g,q3⟩=>Calls.spliced_nil ?_))))
 exact sv hu I3 g ry rz fun w' s4 I4 rw'=>⟨_,H3,I4,rw',q3⟩
end
section
variable {X:Cx} {pins:List (Addr×Obj)} {σ:St} {H:Hp} {s:Shared} {a:Addr} {kvs:List (Key×V)} {A:Around} {E:Value->Shared->Prop}
end
section
variable {X:Cx} {pins:List (Addr×Obj)} {σ:St} {H:Hp} {s:Shared} {a:Addr} {y:V} {u:Value} {A:Around} {E:Value->Shared->Prop}
end
end L2
namespace Att
open PySem PySem.W PySem.Calls PyProof.Rows
theorem eg{P:Params}{h:Heap}:∀(ns:List Int)(vs:List Value),WellAll P h vs (ns.map WData.int)->IntsAre vs ns:=by
 intro ns
 induction ns with
 | nil=>
  intro vs w
  rw [List.map_nil] at w
  cases w
  exact .nil
 | cons n ns ih=>
  intro vs w
  rw [List.map_cons] at w
  cases w with
  | cons a b=>
   cases a
   exact .cons _ _ (ih _ b)
theorem lg{l:OpenLaw}{n:Nat}(hn:l.most=some n){P:Params}{h:Heap}{args:List WData}{vals:List Value}
  (hpre:l.row.toRowW.claim.pre args=true) (hwl:WellAll P h vals args) :
  ∃a vs ns,vals=[Value.ref a]/\args=[WData.list (ns.map WData.int)]/\h.get? a=some {cls:=.type "list",data:=.seq vs.toArray}/\IntsAre vs ns/\ns.length<=n:=by
 have hsh:WShape.hasAll [] args [.list .int]=true:=(pre_splitW hpre).1
 have hc:l.pre.holds [] {args:=args}=true:=(pre_splitW hpre).2
 obtain ⟨d,r,rfl,h1,h2⟩:=hasAllW_cons hsh
 obtain rfl:=hasAllW_nil h2
 obtain ⟨xs,rfl,h3⟩:=hasW_list h1
 obtain ⟨ns,rfl⟩:=items_int h3
 have hlen:ns.length<=n:=by
  unfold OpenLaw.pre at hc
  have h4:(WTm.not (.lt (.lit (.int (n:Int))) (.len (.arg 0)))).holds [] {args:=[.list (ns.map .int)]}=true:=by
   have h4:=(holds_andW hc).1
   rw [hn] at h4
   exact h4
  have h5:=condW_of h4 (w_not (w_lt w_lit (w_len_list (w_arg rfl))))
  rw [List.length_map] at h5
  refine Nat.le_of_not_lt fun q=>?_
  have q':(n:Int) < ((ns.length:Nat):Int):=by omega
  first
   | (rw [decide_eq_true q'] at h5;exact absurd h5 (by decide))
   | (simp at h5;omega)
 cases hwl with
 | cons w1 w2=>
  cases w2
  cases w1 with
  | list ho hall=>exact ⟨_,_,ns,rfl,rfl,ho,eg ns _ hall,hlen⟩
theorem l7(l:OpenLaw)(args:List WData):l.row.toRowW.claim.post args (.bool true) args=true:=
 postW_of (r:=l.row.toRowW) (X:=(true == true))
  (show WShape.has [] (.bool true) .bool=true by first | rfl | decide | simp [WShape.has,WShape.arms,WShape.armsAll])
  (show (WTm.eq .res (.lit (.bool true))).value [] {args:=args,res:=some (.bool true),after:=args}=some (.bool (true == true)) from w_eq_bool (w_res rfl) w_lit) rfl
section
variable {prog:Program} {w:World} {A:Around} {E:Value->Shared->Prop} {s:Shared} {K:Frag}
end
end Att
namespace L2
open PySem PySem.Spec PyProof.Rows
theorem gh:∀{vs:List Value} {ns:List Int},IntsAre vs ns->Vals (ns.map V.int) vs
 | _,_,.nil=>.nil
 | _,_,.cons n t h=>.cons ⟨t,rfl⟩ (gh h)
def sj(H:Hp):Prop:=∀b,H b=none\/∃o xs,H b=some (.frz o (.lst xs))
theorem mi{P:Program}{w:World}{K:PySem.W.Frag}{mg mb:Str->Option Value}{CX:CXT}{k:Nat}{fa a:Addr}{fd:FuncData}{x:Str}{sp:Sp}{s₁:Shared}{vs:List Value}{ns:List Int}
  (KX:K.In s₁.heap) (hns:s₁.heap.Ns mainGlobals mg) (hb:s₁.heap.Ns builtinsNs mb) (hbb:∀x:Str,x≠"__name__"->mb x=bootBuiltins x) (hlim:s₁.heap.NoLimit) (hg:s₁.gens=#[])
  (ha:s₁.heap.get? a=some {cls:=.type "list",data:=.seq vs.toArray}) (hi:IntsAre vs ns) (hl:ns.length<=sizeLine) (hr:Room k callerA)
  (F:∀base:Heap,K.In base->base.Ns mainGlobals mg->FnOk P w K mg base CX k fa fd [x] sp) (hbind:∀(s:Shared)(u:Value),BindsTo s fd ⟨[u],[]⟩ [(x,u)])
  (hsp:∀H:Hp,sj H->SqL K H a (ns.map V.int)->sp [.ref a] H (fun v _=>v=.bl true) fun _ _ _=>False)
  (hCX:∀H e s',CX [] H s₁ (fun _ _ _=>False) e s'->False) :
  codeAny (model P w) callerA (.call (.ref fa) ⟨[.ref a],[]⟩) (fun r s'=>r=.ok (.ret (.bool true))/\OldK s₁.heap s'.heap/\s'.os=s₁.os/\AllBare s'.gens) s₁:=by
 have rv:=gh hi
 have lenV:=hi.length
 have core:∀H:Hp,sj H->SqL K H a (ns.map V.int)->HOk P w H s₁.heap->(∀b,H b≠none->b=a)->(H a≠none->K.lookup a=none)->
   codeAny (model P w) callerA (.call (.ref fa) ⟨[.ref a],[]⟩) (fun r s'=>r=.ok (.ret (.bool true))/\OldK s₁.heap s'.heap/\s'.os=s₁.os/\AllBare s'.gens) s₁:=by
  intro H hO hS hok hA hK
  have base_of:∀{b:Addr} {o:Obj},s₁.heap.get? b=some o->H b=none->(gw s₁.heap H).get? b=some o:=fun e n=>lZ e n
  have noA:∀{b:Addr} {o:Obj} {es:Array DictEntry} {ep:Nat},s₁.heap.get? b=some o->o.data=.dict es ep->H b=none:=fun {b o es ep} e d=>by
   cases q:H b with
   | none=>rfl
   | some u=>
    have e':b=a:=hA b (by rw [q];simp)
    subst e'
    rw [ha] at e;cases e
    have d':Data.seq vs.toArray _=Data.dict es ep:=d
    cases d'
  have nsK:∀{b:Addr} {m:Str->Option Value},s₁.heap.Ns b m->(gw s₁.heap H).Ns b m:=fun {b m} ⟨o,es,ep,e,d,r⟩=>⟨o,es,ep,base_of e (noA e d),d,r⟩
  have hKb:K.In (gw s₁.heap H):=fun b o e=>base_of (KX b o e) (by
   cases q:H b with
   | none=>rfl
   | some u=>
    have e':b=a:=hA b (by rw [q];simp)
    subst e'
    rw [hK (by rw [q];simp)] at e;cases e)
  have hM:Mod K mg (gw s₁.heap H):=⟨hKb,nsK hns,⟨mb,nsK hb,hbb⟩,let ⟨mc,h1,h2⟩:=hlim;⟨mc,nsK h1,h2⟩⟩
  have e0:Env0 P w K mg (gw s₁.heap H) callerA [] s₁ H:=⟨rfl,hM,fun b o e=>pS e,Nat.le_of_eq (kJ _ _),trivial,fun b hb=>absurd (show b∈([]:List Addr) from hb) (by simp),hok,.of_eq hg⟩
  refine codeAny_mono ((F _ hKb (nsK hns)).run callerA [] s₁ H ⟨[.ref a],[]⟩ [.ref a] [.ref a] _ _ hr e0 (hbind s₁ (.ref a)) (.cons rfl .nil) (hsp H hO hS)) fun r s' h=>?_
  cases r with
  | error e=>exact (hCX H e s' h).elim
  | ok fl=>
   cases fl with
   | next=>exact False.elim h
   | brk=>exact False.elim h
   | cont=>exact False.elim h
   | ret u=>
    obtain ⟨v,H',os,bare,un,hok',r',q⟩:=h
    have q':v=.bl true:=q
    subst q'
    obtain rfl:u=Value.bool true:=r'
    refine ⟨rfl,OldK.of_keep fun b o e=>?_,os,bare⟩
    cases q:H b with
    | none=>exact un.keep b o e q (by intro z;exact absurd (show b∈([]:List Addr) from z) (by simp)) (by simp)
    | some u=>
     rcases hO b with z | ⟨ob,xs,z⟩
     ·rw [q] at z;cases z
     ·have z2:=un.frzs b ob _ z
      obtain ⟨e1,_⟩:=hok b _ z
      obtain ⟨e2,_⟩:=hok' b _ z2
      rw [e] at e1;cases e1
      exact e2
 cases hk:K.lookup a with
 | some o=>
  have e:=KX a o hk
  rw [ha] at e
  cases e
  refine core (fun _=>none) (fun _=>.inl rfl) (.inr ⟨_,vs.toArray,_,hk,rfl,rfl,rfl,by rw [List.size_toArray,lenV];exact hl,by simpa using rv⟩) (fun b u z=>by have z':(none:Option HO)=some u:=z;cases z') (fun b z=>absurd rfl z) fun z=>absurd rfl z
 | none=>
  refine core (fun b=>if b=a then some (.frz {cls:=.type "list",data:=.seq vs.toArray} (.lst (ns.map V.int))) else none) (fun b=>?_) (.inl (.inr ⟨{cls:=.type "list",data:=.seq vs.toArray},if_pos rfl⟩)) (fun b u z=>?_) (fun b z=>?_) fun _=>hk
  ·by_cases hb:b=a
   ·exact .inr ⟨_,_,if_pos hb⟩
   ·exact .inl (if_neg hb)
  ·by_cases hb:b=a
   ·have z':=(if_pos hb).symm.trans z
    cases z'
    subst hb
    exact ⟨ha,by rw [List.length_map];exact hl,vs,_,rv,ha⟩
   ·have z':=(if_neg hb).symm.trans z
    cases z'
  ·by_cases hb:b=a
   ·exact hb
   ·exact absurd (if_neg hb) z
end L2
namespace L2
open PySem PySem.Spec PyProof.Rows
end L2
/- THE LAST THEOREM (shape;LID,My.* are yours):
   My.Adr: a structure of the addresses that your layer names (classes,functions);My.Txt K t: a structure (Prop) of the equations over K;
   My.txt_mk:{K} {implicit addresses ..} (e1:nsIn K mainGlobals "law"=some (some (.ref f))) (e2:K.lookup f=some ⟨oc,od,.func (fnOf "law" "law" params body scope dV kV doc pm an cdv ct),sl⟩) (e3:codeIn K cdv "law"=true) ..:∃t,My.Txt K t
set_option maxRecDepth 100000 in
set_option maxHeartbeats 0 in
theorem PySem.Challenge.cw_LID_holds:PySem.Challenge.rw_LID.Holds:=by
 w_on;o_law;k_head;(case hw=>w_witness2)
 k_fill
 refine L2.walk_of (l:=PySem.Challenge.rw_LID) (n:=63) (k:=40) (x:="script") (CX:=fun w=>..) (sp:=fun _=>My.sp_law) rfl (by decide) rfl ⟨rfl,by decide,by decide⟩ (fun w h Y=>PySem.W.kIn_of Y) ?F ?S ?C
 case F=>
  intro w mg fa h KX G hmg
  have T:∃t,My.Txt (L2.KOf KX) t:=by
   dsimp only [L2.KOf]                          -- K must stand as «<heap const> w.params» for k_is
   refine' My.txt_mk ?e1 ?e2 ?e3 ..
   (case e1=>PySem.W.k_is)                    -- in the order: a name->its address->its object->its parts
   (case e2=>PySem.W.k_is)
   ..
  obtain ⟨t,T⟩:=T
  have e0:=hmg.symm.trans (PySem.W.mg_of KX G T.law)
  cases e0                                       -- fa is the law's own address
  exact ⟨_,fun s u=>.of_eq rfl,fun base kb nb=>My.law_fn T kb nb⟩     -- if «.of_eq rfl» comes too early: refine' ⟨_,?b,fun base kb nb=>My.law_fn T kb nb⟩;exact fun s u=>.of_eq rfl
 case S=>exact fun w H a ns hl hO hS=>..
 case C=>exact ..
(the tactic k_is has no namespace: write k_is) -/
variable {H:Hp} {f:Addr} {qual:Str}
namespace L2
open PySem PySem.Spec PyProof.Rows
def gx(s:Stmt)(j:Nat):Stmt:=match s with
 | .ClassDef _ _ _ body _ _ _ _ _ _ _=>body.getD j (.Pass ⟨0,0,0,0⟩)
 | _=>.Pass ⟨0,0,0,0⟩
def bK(s:Stmt):Arguments:=match s with
 | .FunctionDef _ a _ _ _ _ _ _ _ _=>a
 | _=>{posonlyargs:=[],args:=[],vararg:=none,kwonlyargs:=[],kw_defaults:=[],kwarg:=none,defaults:=[]}
def bB(s:Stmt):List Stmt:=match s with
 | .FunctionDef _ _ b _ _ _ _ _ _ _=>b
 | _=>[]
def aq(s:Stmt):Scope:=match s with
 | .FunctionDef _ _ _ _ _ _ sc _ _ _=>sc
 | _=>{kind:=.function,names:=[],isGenerator:=false,isCoroutine:=false}
abbrev CX0:CXT:=fun _ _ _ _ _ _=>False
abbrev E0:XK:=fun _ _ _=>False
theorem jG{X:Cx}:cn CX0 X E0:=fun _ _ _ _ _ _ _ h=>h.elim
structure Fun(K:PySem.W.Frag)(x qual:Str)(st:Stmt)(f:Addr)(fd:FuncData):Prop where
 ex:∃(oc:Value)(od:Option Addr)(kV doc pm:Value)(an:Option Addr)(cdv ct:Value)(osl:Array (Option Value)),
  fd=PySem.W.fnOf x qual (bK st) (bB st) (aq st) .none kV doc pm an cdv ct/\K.lookup f=some ⟨oc,od,.func fd,osl⟩/\PySem.W.codeIn K cdv qual=true
 kp:PySem.W.keepIn K (.ref f)=true
section
variable {P:Program} {w:World} {K:PySem.W.Frag} {mg:Str->Option Value} {base:Heap}
theorem Fun.ok{x qual:Str}{st:Stmt}{f:Addr}{fd:FuncData}{N ps:List Str}{k:Nat}{sp:Sp}(F:Fun K x qual st f fd)(S:aB N ps (aq st))(len:∀vs H Q E,sp vs H Q E->vs.length=ps.length)
 (hbody:∀(cdv:Value)(A:Around)(outer:List Env)(s:Shared)(H:Hp)(vs:List V)(Q:VK)(E:XK),Room k (A.deeper (envOfC qual (aq st) s.heap.objs.size f cdv))->sp vs H Q E->
 ∃t,PSs (iS CX0 P w K mg base N qual (aq st) f cdv A outer s H E).nox (bB st) t/\t {nx:=fun _ H'=>Q .non H',rt:=Q} (aL N vs) H):FnOk P w K mg base CX0 (k+1) f fd ps sp:=by
 obtain ⟨oc,od,kV,doc,pm,an,cdv,ct,osl,rfl,lk,hcd⟩:=F.ex
 refine ur lk hcd S len fun A outer s H vs Q E hr hsp=>?_
 obtain ⟨t,h,q⟩:=hbody cdv A outer s H vs Q E hr hsp
 exact ⟨t,h.nox,q⟩
theorem Fun.binds{x qual:Str}{st:Stmt}{f:Addr}{fd:FuncData}{ps:List Str}(F:Fun K x qual st f fd)
 (h:∀(kV doc pm:Value)(an:Option Addr)(cdv ct:Value)(us:List Value),us.length=ps.length->bindArgs (PySem.W.fnOf x qual (bK st) (bB st) (aq st) .none kV doc pm an cdv ct) ⟨us,[]⟩=pure (ps.zip us)):Binds K fd ps []:=by
 obtain ⟨oc,od,kV,doc,pm,an,cdv,ct,osl,rfl,lk,hcd⟩:=F.ex
 exact .all (h kV doc pm an cdv ct)
theorem gv{x qual:Str}{st:Stmt}{f:Addr}{oc:Value}{od an:Option Addr}{osl:Array (Option Value)}{kV doc pm cdv ct:Value}(l:K.lookup f=some ⟨oc,od,.func (PySem.W.fnOf x qual (bK st) (bB st) (aq st) .none kV doc pm an cdv ct),osl⟩)
 (c:PySem.W.codeIn K cdv qual=true) (k:PySem.W.keepIn K (.ref f)=true):Fun K x qual st f (PySem.W.fnOf x qual (bK st) (bB st) (aq st) .none kV doc pm an cdv ct):=⟨⟨oc,od,kV,doc,pm,an,cdv,ct,osl,rfl,l,c⟩,k⟩
end
theorem cj{A:Around}{k:Nat}(hr:Room k A):A.units+1 < cLine:=Nat.lt_of_le_of_lt (Nat.add_le_add_left (by decide:1<=64) _) hr.units
section
variable {X:Cx}
end
theorem uu{A B:Prop}(h:B):if false=true then A else B:=by
 rw [if_neg Bool.false_ne_true]
 exact h
theorem vE{A B:Prop}(h:A):if true=true then A else B:=by
 rw [if_pos rfl]
 exact h
theorem eP{c A B:Prop}[Decidable c](hc:c)(h:B):if (!decide c)=true then A else B:=by
 rw [decide_eq_true hc]
 exact uu h
def Same(H H':Hp):Prop:=∀b o,H b=some o->H' b=some o
theorem Same.refl(H:Hp):Same H H:=fun _ _ h=>h
theorem Same.trans{H H1 H2:Hp}(a:Same H H1)(b:Same H1 H2):Same H H2:=fun c o h=>b c o (a c o h)
theorem Same.free{H H':Hp}(e:Same H H'){l:Addr}(h:H' l=Option.none):H l=Option.none:=by
 cases q:H l with
 | none=>rfl
 | some o=>
  rw [e l o q] at h
  cases h
theorem Same.seq{K:PySem.W.Frag}{H H':Hp}{a:Addr}{xs:List V}(e:Same H H')(h:SqL K H a xs):SqL K H' a xs:=by
 rcases h with (h | ⟨o,h⟩) | h
 ·exact .inl (.inl (e _ _ h))
 ·exact .inl (.inr ⟨o,e _ _ h⟩)
 ·exact .inr h
end L2
namespace L2
open PySem PySem.Spec PyProof.Rows
section
variable {X:Cx}
end
section
variable {κ:Type} [DecidableEq κ]
theorem p7{kvs:List (κ×V)}{k:κ}(h:aY kvs k=none):¬k∈kvs.map (·.1):=by
 intro m
 obtain ⟨p,hp,e⟩:=List.mem_map.mp m
 have q:(kvs.any fun kv=>decide (kv.1=k))=true:=List.any_eq_true.mpr ⟨p,hp,decide_eq_true e⟩
 rw [bc,h] at q
 exact absurd q (by simp)
theorem jE:∀{l:List κ} {k:κ},l.Nodup->¬k∈l->(l ++ [k]).Nodup
 | [],k,_,_=>by simp
 | a :: r,k,h,hk=>by
  obtain ⟨h1,h2⟩:=List.nodup_cons.mp h
  show (a :: (r ++ [k])).Nodup
  refine List.nodup_cons.mpr ⟨fun m=>?_,jE h2 fun m=>hk (List.mem_cons.mpr (Or.inr m))⟩
  rcases List.mem_append.mp m with q | q
  ·exact h1 q
  ·exact hk (List.mem_cons.mpr (Or.inl (List.mem_singleton.mp q).symm))
theorem pR{kvs:List (κ×V)}{k:κ}(v:V)(hn:(kvs.map (·.1)).Nodup)(h:aY kvs k=none):((bi kvs k v).map (·.1)).Nodup:=by
 rw [ie v h,List.map_append]
 exact jE hn (p7 h)
end
end L2
namespace L2
open PySem PySem.Spec PyProof.Rows
section
variable {X:Cx}
def CDivB(i j:Int):Prop:=0 < j/\j.natAbs.log2 < 9000
theorem mS:OpR X (binaryOp .FloorDiv) (rI CDivB fun i j=>.int (i / j)):=opI fun i j _ _ _ _ _ hc q=>by
 have h1:(0:Int) < j:=hc.1
 exact floordiv_int (by omega) (by rw [Int.fdiv_eq_ediv_of_nonneg i (by omega)];exact q) (.inl (PyProof.noPylong_of_log2 hc.2))
theorem CDivB.small{i j:Int}(h:0 < j)(h2:j < 1073741824):CDivB i j:=⟨h,by
 have h3:j.natAbs.log2 < 30:=(Nat.log2_lt (by omega)).mpr (by omega)
 omega⟩
end
theorem aw{c A B:Prop}[Decidable c](h1:c->A)(h2:¬c->B):if decide c=true then A else B:=by
 by_cases h:c
 ·rw [if_pos (decide_eq_true h)];exact h1 h
 ·rw [if_neg (fun q=>h (of_decide_eq_true q))];exact h2 h
theorem me{c A B:Prop}[Decidable c](h1:¬c->A)(h2:c->B):if (!decide c)=true then A else B:=by
 by_cases h:c
 ·rw [decide_eq_true h];exact uu (h2 h)
 ·rw [decide_eq_false h];exact vE (h1 h)
structure aR(K:PySem.W.Frag)(mg:Str->Option Value)(x:Str)(st:Stmt)(ps:List Str)(f:Addr)(fd:FuncData):Prop where
 F:Fun K x x st f fd
 B:Binds K fd ps []
 M:mg x=some (.ref f)
theorem mY{X:Cx}{k:Nat}{f:Addr}{fd:FuncData}{ps:List Str}{sp:Sp}{x:Str}{st:Stmt}{p pos:Pos}{e:Expr}{es:List Expr}{t:TA}(D:aR X.K X.mg x st ps f fd)(G:FnOk X.prog X.w X.K X.mg X.base CX0 k f fd ps sp)(hr:Room k X.A)
  (ha:PA X (e :: es) t) (hg:Gl X x:=by rfl) (hdb:(x == ("__debug__":Str))=false:=by decide) (he:starEach (e :: es) X.env=(false,eval e X.env) :: starEach es X.env:=by rfl) (hpl:(backTo pos (starEach es X.env)).any (·.1)=false:=by rfl) :
  PE X (.Call (.Name x p) (e :: es) [] pos) (iI sp [] E0 t):=qb G hr hg D.M D.F.kp D.B .nil jG ha hdb he hpl
theorem gU{ns:List Int}(h:PySem.W.WData.layableAll [PySem.W.WData.list (ns.map PySem.W.WData.int)]=true):∀n∈ns,Builtin.Int.intBits n<=2 ^ 20:=fun n hn=>by
 have h1:=(PySem.W.layW_cons h).1
 have h2:=PySem.W.layableW_item h1 (PySem.W.WData.int n) (List.mem_map.mpr ⟨n,hn,rfl⟩)
 exact PyData.bits_of_layable (PySem.W.layable0_of_all (PySem.W.lay0_int h2))
section
open PySem.W PySem.Calls
theorem pb{l:PySem.W.OpenLaw}{n k:Nat}{q:Program}{loose:List Str}{XP:(Str->Option Value)->Heap->Prop}{YP:World->Heap->Prop}{d:DefRec}{K:Params->PySem.W.Frag}{CX:World->CXT}{sp:World->Sp}{x:Str}
  (hn:l.most=some n) (hn2:n<=sizeLine) (hdf:d.params.defaults=[]) (hr:Room k callerA)
  (hY:∀(w:World)(h:Heap),YP w h->(K w.params).In h)
  (F:∀(w:World)(mg:Str->Option Value)(fa:Addr)(h:Heap),(K w.params).In h->h.Ns mainGlobals mg->mg d.name=some (.ref fa)->
   ∃fd:FuncData,(∀(s:Shared)(u:Value),BindsTo s fd ⟨[u],[]⟩ [(x,u)])/\
    ∀base:Heap,(K w.params).In base->base.Ns mainGlobals mg->FnOk l.prog w (K w.params) mg base (CX w) k fa fd [x] (sp w))
  (hsp:∀(w:World)(H:Hp)(a:Addr)(ns:List Int),ns.length<=n->(∀z∈ns,Builtin.Int.intBits z<=2 ^ 20)->sj H->SqL (K w.params) H a (ns.map V.int)->sp w [.ref a] H (fun v _=>v=.bl true) fun _ _ _=>False)
  (hCX:∀(w:World)(H:Hp)(s:Shared)(e:Value)(s':Shared),CX w [] H s (fun _ _ _=>False) e s'->False) :
  PySem.W.WalkO q loose XP YP l.row.toRowW d [] (fun f vs=>PySem.call f vs):=by
 intro w s₀ s₁ mg mb G Y fa o pm cd doc dV kV ho hd hcd hD hmg hg args vals as hpre hlay hrd hwl hlo
 obtain rfl:dV=.none:=Dflts.none hD hdf
 obtain rfl:kV=.none:=Dflts.noKw hD
 obtain ⟨a,vs,ns,rfl,rfl,hobj,hints,hlen⟩:=Att.lg hn hpre hwl
 have KX:=hY w _ Y
 obtain ⟨fd,hb,hF⟩:=F w mg fa _ KX G.T.g hmg
 refine enter_call (codeAny_mono (mi KX G.T.g G.T.b G.T.builtins G.T.nolimit hg hobj hints (Nat.le_trans hlen hn2) hr hF hb (fun H hO hS=>hsp w H a ns hlen (gU hlay) hO hS) fun H e s'=>hCX w H s₁ e s') fun r s' hq=>?_)
 obtain ⟨rfl,h2,h3,h4⟩:=hq
 exact ⟨.inl ⟨.bool true,.bool true,[],rfl,fun _=>rfl,.bool true,Att.l7 l _,fun _=>⟨List.Pairwise.nil,fun _ hm=>(nomatch hm)⟩⟩,h2,h3,h4⟩
end
end L2
variable {a0 a1 a10 a11 a12 a13 a14 a2 a3 a4 a5 a6 a7 a8 a9 b:Option V} {c i:Int} {r:St} {t:TA} {ta te:TE}
namespace L2
open PySem PySem.Spec PyProof.Rows
section
variable {H:Hp} {Q:VK} {σ:St} {D:bO}
theorem uT{v:V}{Z:St->Hp->Prop}:aS 0 v (b :: r) H Z=Z (some v :: r) H:=rfl
theorem uU{v:V}{Z:St->Hp->Prop}:aS 1 v (a0 :: b :: r) H Z=Z (a0 :: some v :: r) H:=rfl
theorem uV{v:V}{Z:St->Hp->Prop}:aS 2 v (a0 :: a1 :: b :: r) H Z=Z (a0 :: a1 :: some v :: r) H:=rfl
theorem uW{v:V}{Z:St->Hp->Prop}:aS 3 v (a0 :: a1 :: a2 :: b :: r) H Z=Z (a0 :: a1 :: a2 :: some v :: r) H:=rfl
theorem uX{v:V}{Z:St->Hp->Prop}:aS 4 v (a0 :: a1 :: a2 :: a3 :: b :: r) H Z=Z (a0 :: a1 :: a2 :: a3 :: some v :: r) H:=rfl
theorem uY{v:V}{Z:St->Hp->Prop}:aS 5 v (a0 :: a1 :: a2 :: a3 :: a4 :: b :: r) H Z=Z (a0 :: a1 :: a2 :: a3 :: a4 :: some v :: r) H:=rfl
theorem uZ{v:V}{Z:St->Hp->Prop}:aS 6 v (a0 :: a1 :: a2 :: a3 :: a4 :: a5 :: b :: r) H Z=Z (a0 :: a1 :: a2 :: a3 :: a4 :: a5 :: some v :: r) H:=rfl
theorem v0{v:V}{Z:St->Hp->Prop}:aS 7 v (a0 :: a1 :: a2 :: a3 :: a4 :: a5 :: a6 :: b :: r) H Z=Z (a0 :: a1 :: a2 :: a3 :: a4 :: a5 :: a6 :: some v :: r) H:=rfl
theorem v5{v:V}{Z:St->Hp->Prop}:aS 8 v (a0 :: a1 :: a2 :: a3 :: a4 :: a5 :: a6 :: a7 :: b :: r) H Z=Z (a0 :: a1 :: a2 :: a3 :: a4 :: a5 :: a6 :: a7 :: some v :: r) H:=rfl
theorem v6{v:V}{Z:St->Hp->Prop}:aS 9 v (a0 :: a1 :: a2 :: a3 :: a4 :: a5 :: a6 :: a7 :: a8 :: b :: r) H Z=Z (a0 :: a1 :: a2 :: a3 :: a4 :: a5 :: a6 :: a7 :: a8 :: some v :: r) H:=rfl
theorem rl{v:V}{Z:St->Hp->Prop}:aS 10 v (a0 :: a1 :: a2 :: a3 :: a4 :: a5 :: a6 :: a7 :: a8 :: a9 :: b :: r) H Z=Z (a0 :: a1 :: a2 :: a3 :: a4 :: a5 :: a6 :: a7 :: a8 :: a9 :: some v :: r) H:=rfl
theorem rm{v:V}{Z:St->Hp->Prop}:aS 11 v (a0 :: a1 :: a2 :: a3 :: a4 :: a5 :: a6 :: a7 :: a8 :: a9 :: a10 :: b :: r) H Z=Z (a0 :: a1 :: a2 :: a3 :: a4 :: a5 :: a6 :: a7 :: a8 :: a9 :: a10 :: some v :: r) H:=rfl
theorem rn{v:V}{Z:St->Hp->Prop}:aS 12 v (a0 :: a1 :: a2 :: a3 :: a4 :: a5 :: a6 :: a7 :: a8 :: a9 :: a10 :: a11 :: b :: r) H Z=Z (a0 :: a1 :: a2 :: a3 :: a4 :: a5 :: a6 :: a7 :: a8 :: a9 :: a10 :: a11 :: some v :: r) H:=rfl
theorem rp{v:V}{Z:St->Hp->Prop}:aS 13 v (a0 :: a1 :: a2 :: a3 :: a4 :: a5 :: a6 :: a7 :: a8 :: a9 :: a10 :: a11 :: a12 :: b :: r) H Z=Z (a0 :: a1 :: a2 :: a3 :: a4 :: a5 :: a6 :: a7 :: a8 :: a9 :: a10 :: a11 :: a12 :: some v :: r) H:=rfl
theorem rq{v:V}{Z:St->Hp->Prop}:aS 14 v (a0 :: a1 :: a2 :: a3 :: a4 :: a5 :: a6 :: a7 :: a8 :: a9 :: a10 :: a11 :: a12 :: a13 :: b :: r) H Z=Z (a0 :: a1 :: a2 :: a3 :: a4 :: a5 :: a6 :: a7 :: a8 :: a9 :: a10 :: a11 :: a12 :: a13 :: some v :: r) H:=rfl
theorem rA{v:V}{Z:St->Hp->Prop}:aS 15 v (a0 :: a1 :: a2 :: a3 :: a4 :: a5 :: a6 :: a7 :: a8 :: a9 :: a10 :: a11 :: a12 :: a13 :: a14 :: b :: r) H Z=Z (a0 :: a1 :: a2 :: a3 :: a4 :: a5 :: a6 :: a7 :: a8 :: a9 :: a10 :: a11 :: a12 :: a13 :: a14 :: some v :: r) H:=rfl
theorem rB{v:V}{Z:St->Hp->Prop}{a15:Option V}:aS 16 v (a0 :: a1 :: a2 :: a3 :: a4 :: a5 :: a6 :: a7 :: a8 :: a9 :: a10 :: a11 :: a12 :: a13 :: a14 :: a15 :: b :: r) H Z=Z (a0 :: a1 :: a2 :: a3 :: a4 :: a5 :: a6 :: a7 :: a8 :: a9 :: a10 :: a11 :: a12 :: a13 :: a14 :: a15 :: some v :: r) H:=rfl
theorem rC{v:V}{Z:St->Hp->Prop}{a15:Option V}{a16:Option V}:aS 17 v (a0 :: a1 :: a2 :: a3 :: a4 :: a5 :: a6 :: a7 :: a8 :: a9 :: a10 :: a11 :: a12 :: a13 :: a14 :: a15 :: a16 :: b :: r) H Z=Z (a0 :: a1 :: a2 :: a3 :: a4 :: a5 :: a6 :: a7 :: a8 :: a9 :: a10 :: a11 :: a12 :: a13 :: a14 :: a15 :: a16 :: some v :: r) H:=rfl
theorem r_c{v:V}:tC v σ H Q=Q v H:=rfl
theorem ve{r:R2}{tb:TE}:tOp r ta tb σ H Q=ta σ H fun x H1=>tb σ H1 fun y H2=>r x y H2 Q:=rfl
theorem vi{r:V->Hp->VK->Prop}:tUn r ta σ H Q=ta σ H fun x H1=>r x H1 Q:=rfl
theorem gY{j:Int}:decide (V.int i=V.int j)=decide (i=j):=by
 by_cases h:i=j
 ·rw [decide_eq_true h,decide_eq_true (congrArg V.int h)]
 ·rw [decide_eq_false h,decide_eq_false fun q=>h (V.int.inj q)]
theorem lQ{i j:Str}:decide (V.str i=V.str j)=decide (i=j):=by
 by_cases h:i=j
 ·rw [decide_eq_true h,decide_eq_true (congrArg V.str h)]
 ·rw [decide_eq_false h,decide_eq_false fun q=>h (V.str.inj q)]
theorem rg{j:Int}:rEq (.int i) (.int j) H Q=Q (.bl (decide (i=j))) H:=by
 show (oH (.int i) (.int j)=true/\Q (.bl (decide (V.int i=V.int j))) H)=_
 rw [gY];exact propext ⟨fun h=>h.2,fun h=>⟨rfl,h⟩⟩
theorem rh{i j:Str}:rEq (.str i) (.str j) H Q=Q (.bl (decide (i=j))) H:=by
 show (oH (.str i) (.str j)=true/\Q (.bl (decide (V.str i=V.str j))) H)=_
 rw [lQ];exact propext ⟨fun h=>h.2,fun h=>⟨rfl,h⟩⟩
theorem ou{j:Int}:rNe (.int i) (.int j) H Q=Q (.bl (!decide (i=j))) H:=by
 show (oH (.int i) (.int j)=true/\Q (.bl (!decide (V.int i=V.int j))) H)=_
 rw [gY];exact propext ⟨fun h=>h.2,fun h=>⟨rfl,h⟩⟩
theorem nP{c:Bool}{Z:Bool->Prop}:(∃k,V.bl c=V.bl k/\Z k)=Z c:=propext ⟨by rintro ⟨_,e,q⟩;cases e;exact q,by intro q;exact ⟨c,rfl,q⟩⟩
theorem jO{Z:Int->Prop}:(∃k,V.int c=V.int k/\Z k)=Z c:=propext ⟨by rintro ⟨_,e,q⟩;cases e;exact q,by intro q;exact ⟨c,rfl,q⟩⟩
theorem oC{t:TE}{Z:Bool->Hp->Prop}:oZ t σ H Z=t σ H fun x H'=>∃k,x=.bl k/\Z k H':=rfl
theorem r_B{t:TE}{Z:Bool->Hp->Prop}:tB t σ H Z=t σ H fun x H'=>∃k,x=.bl k/\Z k H':=rfl
theorem r9{t u:TT}{Z:Bool->Hp->Prop}:u3 t u σ H Z=t σ H fun c H1=>if c=true then u σ H1 Z else Z false H1:=rfl
theorem vf{t u:TT}{Z:Bool->Hp->Prop}:tOr t u σ H Z=t σ H fun c H1=>if c=true then Z true H1 else u σ H1 Z:=rfl
theorem rN{t:TT}{Z:Bool->Hp->Prop}:ua t σ H Z=t σ H fun c H1=>Z (!c) H1:=rfl
theorem nB{tb:TE}:oR ta tb σ H Q=ta σ H fun x H1=>∃c,x=.bl c/\if c=true then tb σ H1 Q else Q (.bl false) H1:=rfl
theorem ox:oX ta σ H Q=ta σ H fun x H1=>∃c,x=.bl c/\Q (.bl (!c)) H1:=rfl
theorem v7{t:TT}{tb:TE}:tIf t ta tb σ H Q=t σ H fun c H1=>if c=true then ta σ H1 Q else tb σ H1 Q:=rfl
theorem ow:oW D σ H=D.nx σ H:=rfl
theorem vg{t u:TS}:qJ t u D σ H=t {D with nx:=u D} σ H:=rfl
theorem nK:oV te D σ H=te σ H fun _ H1=>D.nx σ H1:=rfl
theorem rO:uc te D σ H=te σ H D.rt:=rfl
theorem rD{c:TT}{t u:TS}:u8 c t u D σ H=c σ H fun b H1=>if b=true then t D σ H1 else u D σ H1:=rfl
theorem rc{g:TG}:oS te g D σ H=te σ H fun x H1=>g x σ H1 D.nx:=rfl
theorem uQ{r:List V->Hp->VK->Prop}:tCB r t σ H Q=t σ H fun vs H1=>r vs H1 Q:=rfl
theorem rM{Z:List V->Hp->Prop}:lj σ H Z=Z [] H:=rfl
theorem nG{tr:TA}{Z:List V->Hp->Prop}:oT ta tr σ H Z=ta σ H fun x H1=>tr σ H1 fun xs H2=>Z (x :: xs) H2:=rfl
theorem nF{sp:Sp}{E:XK}:iI sp [] E t σ H Q=t σ H fun vs H1=>sp vs H1 Q E:=by
 show (t σ H fun vs H1=>sp (vs ++ []) H1 Q E)=_
 simp only [List.append_nil]
theorem rR:ud t σ H Q=t σ H fun xs H1=>xs.length<=sizeLine/\∀p,H1 p=none->Q (.ref p) (upd H1 p (.tup xs)):=rfl
theorem rL:u9 t σ H Q=t σ H fun xs H1=>xs.length<=sizeLine/\∀p,H1 p=none->Q (.ref p) (upd H1 p (.lst xs)):=rfl
theorem nI{td ty:TE}:oU td ty σ H Q=td σ H fun x H1=>ty σ H1 fun y H2=>∃a v,x=.ref a/\iN H2 a y (some v)/\Q v H2:=rfl
theorem vh{r:V->Option Int->Option Int->Hp->VK->Prop}{tl th:TO}:tSl r te tl th σ H Q=te σ H fun x H1=>tl σ H1 fun l H2=>th σ H2 fun u H3=>r x l u H3 Q:=rfl
theorem ij{Z:Option Int->Hp->Prop}:gL σ H Z=Z none H:=rfl
theorem oz{Z:Option Int->Hp->Prop}:oY te σ H Z=te σ H fun x H1=>∃i,x=.int i/\Z (some i) H1:=rfl
theorem nQ{Z:St->Hp->Prop}:sw [] σ H Z=Z σ H:=propext ⟨fun h=>h.2,fun h=>⟨rfl,h⟩⟩
theorem jQ{t:TG}{u:TGs}{v:V}{r:List V}{Z:St->Hp->Prop}:lX t u (v :: r) σ H Z=t v σ H fun σ' H'=>u r σ' H' Z:=propext ⟨by rintro ⟨_,_,e,q⟩;cases e;exact q,by intro q;exact ⟨v,r,rfl,q⟩⟩
theorem rF{A B:Prop}:(if false=true then A else B)=B:=if_neg Bool.false_ne_true
theorem vd:(!true)=false:=rfl
theorem v9:(!false)=true:=rfl
theorem nY:(([]:List V).length<=sizeLine)=True:=eq_true (by show 0<=sizeLine;decide)
theorem nZ{a0:V}:(([a0]:List V).length<=sizeLine)=True:=eq_true (by show 1<=sizeLine;decide)
theorem o1{a0 a1:V}:(([a0,a1]:List V).length<=sizeLine)=True:=eq_true (by show 2<=sizeLine;decide)
theorem oa{a0 a1 a2:V}:(([a0,a1,a2]:List V).length<=sizeLine)=True:=eq_true (by show 3<=sizeLine;decide)
theorem oe{a0 a1 a2 a3:V}:(([a0,a1,a2,a3]:List V).length<=sizeLine)=True:=eq_true (by show 4<=sizeLine;decide)
theorem og{a0 a1 a2 a3 a4 a5 a6:V}:(([a0,a1,a2,a3,a4,a5,a6]:List V).length<=sizeLine)=True:=eq_true (by show 7<=sizeLine;decide)
theorem oh{a0 a1 a2 a3 a4 a5 a6 a7:V}:(([a0,a1,a2,a3,a4,a5,a6,a7]:List V).length<=sizeLine)=True:=eq_true (by show 8<=sizeLine;decide)
end
def lB(J:It)(g:TG)(tb:TS)(D:bO)(σ:St)(H1:Hp):Prop:=∃W:Nat->Nat->St->Hp->Prop,(∃m,W 0 m σ H1)/\∀i m σ H,W i m σ H->
 (J.stop i H/\D.nx σ H)\/(J.go i H/\∃N:St->Hp->Prop,(∀σ' H',N σ' H'->∃m',m' < m/\W (i+1) m' σ' H')/\∀x H',J.yld i H x H'->g x σ H' fun σ2 H2=>tb {D with nx:=N,ct:=N,bk:=D.nx} σ2 H2)
section
variable {g:TG} {tb:TS} {D:bO} {σ:St} {H:Hp}
theorem rk{wi:TI}:u6 wi g tb D σ H=wi σ H fun J H1=>lB J g tb D σ H1:=rfl
theorem jS{K:PySem.W.Frag}{tl:TE}{R:It->Hp->Prop}:m4 K tl σ H R=tl σ H fun x H1=>∃a,x=.ref a/\(∃xs,SqL K H1 a xs)/\R (Itl K a) H1:=rfl
theorem nU{K:PySem.W.Frag}{tl:TE}{R:It->Hp->Prop}:sC K tl σ H R=tl σ H fun x H1=>∃a,x=.ref a/\(∃xs,SqT K H1 a xs)/\R (Itt K a) H1:=rfl
theorem jT{ta:TA}{R:It->Hp->Prop}:m5 ta σ H R=ta σ H fun vs H1=>∃j:Int,vs=[.int j]/\-(2 ^ 62)<=j/\j < 2 ^ 62/\R (Itr 0 j.toNat) H1:=rfl
theorem jU{ta:TA}{R:It->Hp->Prop}:m6 ta σ H R=ta σ H fun vs H1=>∃i j:Int,vs=[.int i,.int j]/\(-(2 ^ 62)<=i/\i < 2 ^ 62/\-(2 ^ 62)<=j/\j < 2 ^ 62)/\R (Itr i (j - i).toNat) H1:=rfl
theorem nL{Z:Int->Prop}:(∃k,[V.int c]=[V.int k]/\Z k)=Z c:=propext ⟨by rintro ⟨_,e,q⟩;cases e;exact q,by intro q;exact ⟨c,rfl,q⟩⟩
theorem nM{d:Int}{Z:Int->Int->Prop}:(∃k l,[V.int c,V.int d]=[V.int k,V.int l]/\Z k l)=Z c d:=propext ⟨by rintro ⟨_,_,e,q⟩;cases e;exact q,by intro q;exact ⟨c,d,rfl,q⟩⟩
theorem rj{c:Addr}{Z:Addr->Prop}:(∃k,V.ref c=V.ref k/\Z k)=Z c:=propext ⟨by rintro ⟨_,e,q⟩;cases e;exact q,by intro q;exact ⟨c,rfl,q⟩⟩
theorem hZ{lo:Int}{n:Nat}(Pv:Nat->St->Hp->Prop)(h0:Pv 0 σ H)
 (hs:∀(i:Nat)σ H,i < n->Pv i σ H->g (.int (lo+i)) σ H fun σ2 H2=>tb {D with nx:=Pv (i+1),ct:=Pv (i+1),bk:=D.nx} σ2 H2) (hd:∀σ H,Pv n σ H->D.nx σ H):lB (Itr lo n) g tb D σ H:=kH Pv h0 hs hd
theorem bv{n:Nat}(Pv:Nat->St->Hp->Prop)(h0:Pv 0 σ H)
 (hs:∀(i:Nat)σ H,i < n->Pv i σ H->g (.int (i:Int)) σ H fun σ2 H2=>tb {D with nx:=Pv (i+1),ct:=Pv (i+1),bk:=D.nx} σ2 H2) (hd:∀σ H,Pv n σ H->D.nx σ H):lB (Itr 0 n) g tb D σ H:=
 hZ Pv h0 (fun i σ H hi p=>by rw [Int.zero_add];exact hs i σ H hi p) hd
theorem d5{K:PySem.W.Frag}{a:Addr}{xs:List V}(Pv:Nat->St->Hp->Prop)(h0:Pv 0 σ H)(hl:∀i σ H,i<=xs.length->Pv i σ H->SqL K H a xs)
 (hs:∀(i:Nat)x σ H,xs[i]?=some x->Pv i σ H->g x σ H fun σ2 H2=>tb {D with nx:=Pv (i+1),ct:=Pv (i+1),bk:=D.nx} σ2 H2) (hd:∀σ H,Pv xs.length σ H->D.nx σ H):lB (Itl K a) g tb D σ H:=lV Pv h0 hl hs hd
theorem Same.upd{H:Hp}{p:Addr}{o:HO}(h:H p=none):Same H (upd H p o):=fun b u e=>by rw [ap (au e h)];exact e
theorem Same.seqT{K:PySem.W.Frag}{H H':Hp}{a:Addr}{xs:List V}(e:Same H H')(h:SqT K H a xs):SqT K H' a xs:=by
 rcases h with (h | ⟨o,h⟩) | h
 ·exact .inl (.inl (e _ _ h))
 ·exact .inl (.inr ⟨o,e _ _ h⟩)
 ·exact .inr h
end
section
variable {H:Hp} {Q:VK} {σ:St} {D:bO} {K:PySem.W.Frag}
theorem uS{T:String}{r:V->List V->Hp->VK->Prop}{to:TE}:tBM K T r to t σ H Q=to σ H fun x H1=>tyV K T x H1/\t σ H1 fun xs H2=>r x xs H2 Q:=rfl
theorem re{T:String}{r:V->List V->Hp->VK->Prop}{to:TE}:u4 K T r to σ H Q=to σ H fun x H1=>tyV K T x H1/\r x [] H1 Q:=rfl
theorem rH{z:Str}:uK (.str z) (.int i) H Q=(z.length<=sizeLine/\∃c,atI z.cps.toList i=some c/\Q (.str ⟨#[c]⟩) H):=propext ⟨by rintro ⟨_,_,c,e1,e2,h1,h2,q⟩;cases e1;cases e2;exact ⟨h1,c,h2,q⟩,by rintro ⟨h1,c,h2,q⟩;exact ⟨_,_,c,rfl,rfl,h1,h2,q⟩⟩
theorem rG{p:Addr}:uJ K (.ref p) (.int i) H Q=∃xs v,SqL K H p xs/\atI xs i=some v/\Q v H:=propext ⟨by rintro ⟨_,xs,_,v,e1,e2,h1,h2,q⟩;cases e1;cases e2;exact ⟨xs,v,h1,h2,q⟩,by rintro ⟨xs,v,h1,h2,q⟩;exact ⟨_,xs,_,v,rfl,rfl,h1,h2,q⟩⟩
theorem rJ{p:Addr}:uL K (.ref p) (.int i) H Q=∃xs v,SqT K H p xs/\atI xs i=some v/\Q v H:=propext ⟨by rintro ⟨_,xs,_,v,e1,e2,h1,h2,q⟩;cases e1;cases e2;exact ⟨xs,v,h1,h2,q⟩,by rintro ⟨xs,v,h1,h2,q⟩;exact ⟨_,xs,_,v,rfl,rfl,h1,h2,q⟩⟩
theorem rf{a b:Addr}:uI (.ref a) (.ref b) H Q=∃xs zs,H a=some (.lst xs)/\H b=some (.lst zs)/\xs.length+zs.length<=sizeLine/\∀p,H p=none->Q (.ref p) (upd H p (.lst (xs ++ zs))):=propext ⟨by rintro ⟨_,_,xs,zs,e1,e2,h⟩;cases e1;cases e2;exact ⟨xs,zs,h⟩,by rintro ⟨xs,zs,h⟩;exact ⟨_,_,xs,zs,rfl,rfl,h⟩⟩
theorem rP{a:Addr}{lo hi:Option Int}:uO K (.ref a) lo hi H Q=∃xs,SqL K H a xs/\∀p,H p=none->Q (.ref p) (upd H p (.lst (cH xs lo hi))):=propext ⟨by rintro ⟨_,xs,e1,h⟩;cases e1;exact ⟨xs,h⟩,by rintro ⟨xs,h⟩;exact ⟨_,xs,rfl,h⟩⟩
theorem ii{a:Addr}{y:V}:jJ (.ref a) [y] H Q=∃xs,H a=some (.lst xs)/\xs.length < sizeLine/\Q .non (upd H a (.lst (xs ++ [y]))):=propext ⟨by rintro ⟨_,xs,_,e1,e2,h⟩;cases e1;cases e2;exact ⟨xs,h⟩,by rintro ⟨xs,h⟩;exact ⟨_,xs,_,rfl,rfl,h⟩⟩
theorem nN{a:Addr}{Z:Addr->List V->Prop}:(∃p ys,[V.ref a]=[V.ref p]/\Z p ys)=∃ys,Z a ys:=propext ⟨by rintro ⟨_,ys,e1,q⟩;cases e1;exact ⟨ys,q⟩,by rintro ⟨ys,q⟩;exact ⟨a,ys,rfl,q⟩⟩
theorem nW{c:Bool}{Z:Int->Prop}{Y:Bool->Prop}:((∃i,[V.bl c]=[V.int i]/\Z i)\/∃k,[V.bl c]=[V.bl k]/\Y k)=Y c:=propext ⟨fun h=>(by rcases h with ⟨_,e,q⟩ | ⟨_,e,q⟩ <;> cases e <;> exact q),fun q=>Or.inr ⟨c,rfl,q⟩⟩
theorem nS{n:Nat}{t:TGs}{a:Addr}{Z:St->Hp->Prop}:sB K n t (.ref a) σ H Z=∃xs,SqT K H a xs/\xs.length=n/\t xs σ H Z:=propext ⟨by rintro ⟨_,xs,e,h⟩;cases e;exact ⟨xs,h⟩,by rintro ⟨xs,h⟩;exact ⟨a,xs,rfl,h⟩⟩
end
end L2
namespace L2
open PySem PySem.Spec PyProof.Rows
section
variable {prog:Program} {w:World} {A:Around} {R:Result->Shared->Prop} {s:Shared}
end
end L2
namespace L2
open PySem PySem.Spec PyProof.Rows
inductive Dq (K:PySem.W.Frag) (H:Hp):Nat->V->V->Bool->Prop where
 | flat {n:Nat} {x y:V} (fx:bb x=true) (fy:bb y=true):Dq K H n x y (eqV x y)
 | same {n:Nat} {a:Addr}:Dq K H n (.ref a) (.ref a) true
 | lists {n:Nat} {a b:Addr} {xs ys:List V} (e:Nat->Bool) (ne:a≠b) (ha:SqL K H a xs) (hb:SqL K H b ys) (hl:xs.length=ys.length)
   (he:∀(j:Nat)x y,xs[j]?=some x->ys[j]?=some y->Dq K H n x y (e j)):Dq K H (n+1) (.ref a) (.ref b) ((List.range xs.length).all e)
 | lens {n:Nat} {a b:Addr} {xs ys:List V} (ne:a≠b) (ha:SqL K H a xs) (hb:SqL K H b ys) (hl:¬xs.length=ys.length):Dq K H (n+1) (.ref a) (.ref b) false
 | tups {n:Nat} {a b:Addr} {xs ys:List V} (e:Nat->Bool) (ne:a≠b) (ha:SqT K H a xs) (hb:SqT K H b ys)
   (he:∀(j:Nat)x y,xs[j]?=some x->ys[j]?=some y->Dq K H n x y (e j)):Dq K H (n+1) (.ref a) (.ref b) ((List.range (min xs.length ys.length)).all e && xs.length == ys.length)
section
variable {X:Cx} {pins:List (Addr×Obj)} {σ:St} {H:Hp} {s:Shared}
theorem cg{xs:List V}{its:List Value}(r:Vals xs its){j:Nat}(h:j < its.toArray.size):∃x,xs[j]?=some x/\RelV x its.toArray[j]:=by
 have hl:=r.length
 have hj:j < xs.length:=by simpa [hl] using h
 obtain ⟨u,hu,ru⟩:=r.get (List.getElem?_eq_getElem hj)
 have e:its.toArray[j]=u:=by
  have h2:its[j]?=some u:=hu
  have h3:j < its.length:=by simpa using h
  rw [List.getElem?_eq_getElem h3] at h2
  simpa using h2
 exact ⟨xs[j],List.getElem?_eq_getElem hj,by rw [e];exact ru⟩
theorem Dq.at(I:Inv X pins σ H s){n:Nat}{x y:V}{b:Bool}(d:Dq X.K H n x y b):∀{A:Around} {v u:Value},RelV x v->RelV y u->A.units+n < cLine->SeqAt.EqAt A s v u b:=by
 induction d with
 | flat fx fy=>intro A v u rv ru _;exact iT rv ru fx fy
 | same=>intro A v u rv ru _;cases rv;cases ru;exact SeqAt.EqAt.same _
 | @lists n a b xs ys e ne ha hb hl he ih=>
  intro A v u rv ru hu
  cases rv;cases ru
  obtain ⟨its,r,p,_⟩:=I.list ha
  obtain ⟨its2,r2,p2,_⟩:=I.list hb
  have e1:=r.length
  have e2:=r2.length
  have z:=SeqAt.RcAt.lists (A:=A) (e:=e) p.isList p2.isList (by simp;omega) (by omega) fun j h1 h2=>by
   obtain ⟨x,hx,rx⟩:=cg r h1
   obtain ⟨y,hy,ry⟩:=cg r2 h2
   exact ih j x y hx hy rx ry (by show A.units+1+n < cLine;omega)
  have e3:its.toArray.size=xs.length:=by simp [e1]
  rw [e3] at z
  exact SeqAt.EqAt.of_refs ne z
 | @lens n a b xs ys ne ha hb hl=>
  intro A v u rv ru hu
  cases rv;cases ru
  obtain ⟨its,r,p,_⟩:=I.list ha
  obtain ⟨its2,r2,p2,_⟩:=I.list hb
  have e1:=r.length
  have e2:=r2.length
  exact SeqAt.EqAt.of_refs ne (SeqAt.RcAt.lists_lengths (A:=A) p.isList p2.isList (by simp;omega) (by omega))
 | @tups n a b xs ys e ne ha hb he ih=>
  intro A v u rv ru hu
  cases rv;cases ru
  obtain ⟨its,r,p,_⟩:=I.tuple ha
  obtain ⟨its2,r2,p2,_⟩:=I.tuple hb
  have e1:=r.length
  have e2:=r2.length
  have z:=SeqAt.RcAt.tuples (A:=A) (e:=e) (show s.heap.IsTuple a its.toArray from p) (show s.heap.IsTuple b its2.toArray from p2) (by omega) fun j h1 h2=>by
   obtain ⟨x,hx,rx⟩:=cg r h1
   obtain ⟨y,hy,ry⟩:=cg r2 h2
   exact ih j x y hx hy rx ry (by show A.units+1+n < cLine;omega)
  have e3:its.toArray.size=xs.length:=by simp [e1]
  have e4:its2.toArray.size=ys.length:=by simp [e2]
  rw [e3,e4] at z
  exact SeqAt.EqAt.of_refs ne z
end
inductive Rq (K:PySem.W.Frag) (H:Hp) (n:Nat):V->V->Bool->Prop where
 | lists {a b:Addr} {xs ys:List V} (e:Nat->Bool) (ha:SqL K H a xs) (hb:SqL K H b ys) (hl:xs.length=ys.length)
   (he:∀(j:Nat)x y,xs[j]?=some x->ys[j]?=some y->Dq K H n x y (e j)):Rq K H n (.ref a) (.ref b) ((List.range xs.length).all e)
 | lens {a b:Addr} {xs ys:List V} (ha:SqL K H a xs) (hb:SqL K H b ys) (hl:¬xs.length=ys.length):Rq K H n (.ref a) (.ref b) false
 | tups {a b:Addr} {xs ys:List V} (e:Nat->Bool) (ha:SqT K H a xs) (hb:SqT K H b ys)
   (he:∀(j:Nat)x y,xs[j]?=some x->ys[j]?=some y->Dq K H n x y (e j)):Rq K H n (.ref a) (.ref b) ((List.range (min xs.length ys.length)).all e && xs.length == ys.length)
def vJ(K:PySem.W.Frag)(n:Nat):R2:=fun x y H Q=>∃b,Rq K H n x y b/\Q (.bl b) H
def vK(K:PySem.W.Frag)(n:Nat):R2:=fun x y H Q=>∃b,Rq K H n x y b/\Q (.bl (!b)) H
section
variable {X:Cx}
theorem sU{n:Nat}(hu:X.A.units+(n+1) < cLine):OpR X (compareOp .Eq) (vJ X.K n):=by
 intro pins s σ H x y v u Q I rx ry h
 obtain ⟨b,d,q⟩:=h
 cases d with
 | @lists a c xs ys e ha hb hl he=>
  cases rx;cases ry
  obtain ⟨its,r,p,_⟩:=I.list ha
  obtain ⟨its2,r2,p2,_⟩:=I.list hb
  have e1:=r.length
  have e2:=r2.length
  have e3:its.toArray.size=xs.length:=by simp [e1]
  refine SeqAt.eq_listAt (e:=e) p.isList p2.isList (by simp;omega) (by omega) (fun j h1 h2=>?_) ⟨.bl _,H,I,rfl,by rw [e3];exact q⟩
  obtain ⟨x,hx,rx⟩:=cg r h1
  obtain ⟨y,hy,ry⟩:=cg r2 h2
  exact (he j x y hx hy).at I rx ry (by show X.A.units+1+n < cLine;omega)
 | @lens a c xs ys ha hb hl=>
  cases rx;cases ry
  obtain ⟨its,r,p,_⟩:=I.list ha
  obtain ⟨its2,r2,p2,_⟩:=I.list hb
  have e1:=r.length
  have e2:=r2.length
  exact SeqAt.eq_list_lengthsAt p.isList p2.isList (by simp;omega) (by omega) ⟨.bl _,H,I,rfl,q⟩
 | @tups a c xs ys e ha hb he=>
  cases rx;cases ry
  obtain ⟨its,r,p,_⟩:=I.tuple ha
  obtain ⟨its2,r2,p2,_⟩:=I.tuple hb
  have e1:=r.length
  have e2:=r2.length
  have e3:its.toArray.size=xs.length:=by simp [e1]
  have e4:its2.toArray.size=ys.length:=by simp [e2]
  refine SeqAt.eq_tupleAt (e:=e) (show s.heap.IsTuple a its.toArray from p) (show s.heap.IsTuple c its2.toArray from p2) (by omega) (fun j h1 h2=>?_) ⟨.bl _,H,I,rfl,by rw [e3,e4];exact q⟩
  obtain ⟨x,hx,rx⟩:=cg r h1
  obtain ⟨y,hy,ry⟩:=cg r2 h2
  exact (he j x y hx hy).at I rx ry (by show X.A.units+1+n < cLine;omega)
theorem sX{n:Nat}(hu:X.A.units+(n+1) < cLine):OpR X (compareOp .NotEq) (vK X.K n):=by
 intro pins s σ H x y v u Q I rx ry h
 obtain ⟨b,d,q⟩:=h
 cases d with
 | @lists a c xs ys e ha hb hl he=>
  cases rx;cases ry
  obtain ⟨its,r,p,_⟩:=I.list ha
  obtain ⟨its2,r2,p2,_⟩:=I.list hb
  have e1:=r.length
  have e2:=r2.length
  have e3:its.toArray.size=xs.length:=by simp [e1]
  refine SeqAt.RcNeAt.lists (A:=X.A) (e:=e) p.isList p2.isList (by simp;omega) (by omega) (fun j h1 h2=>?_) X.prog X.w X.xe _ ⟨.bl _,H,I,rfl,by rw [e3];exact q⟩
  obtain ⟨x,hx,rx⟩:=cg r h1
  obtain ⟨y,hy,ry⟩:=cg r2 h2
  exact (he j x y hx hy).at I rx ry (by show X.A.units+1+n < cLine;omega)
 | @lens a c xs ys ha hb hl=>
  cases rx;cases ry
  obtain ⟨its,r,p,_⟩:=I.list ha
  obtain ⟨its2,r2,p2,_⟩:=I.list hb
  have e1:=r.length
  have e2:=r2.length
  exact SeqAt.RcNeAt.lists_lengths (A:=X.A) p.isList p2.isList (by simp;omega) (by omega) X.prog X.w X.xe _ ⟨.bl _,H,I,rfl,q⟩
 | @tups a c xs ys e ha hb he=>
  cases rx;cases ry
  obtain ⟨its,r,p,_⟩:=I.tuple ha
  obtain ⟨its2,r2,p2,_⟩:=I.tuple hb
  have e1:=r.length
  have e2:=r2.length
  have e3:its.toArray.size=xs.length:=by simp [e1]
  have e4:its2.toArray.size=ys.length:=by simp [e2]
  refine SeqAt.RcNeAt.tuples (A:=X.A) (e:=e) (show s.heap.IsTuple a its.toArray from p) (show s.heap.IsTuple c its2.toArray from p2) (by omega) (fun j h1 h2=>?_) X.prog X.w X.xe _ ⟨.bl _,H,I,rfl,by rw [e3,e4];exact q⟩
  obtain ⟨x,hx,rx⟩:=cg r h1
  obtain ⟨y,hy,ry⟩:=cg r2 h2
  exact (he j x y hx hy).at I rx ry (by show X.A.units+1+n < cLine;omega)
end
theorem hC{x:V}(h:bb x=true):eqV x x=true:=by
 cases x <;> first | rfl | (exact absurd h Bool.false_ne_true) | (simp [eqV])
theorem eI(n:Nat):(List.range n).all (fun _=>true)=true:=by simp
theorem Rq.listSelf{K:PySem.W.Frag}{H:Hp}{n:Nat}{a b:Addr}{xs:List V}(ha:SqL K H a xs)(hb:SqL K H b xs)(hf:xs.all bb=true):Rq K H n (.ref a) (.ref b) true:=by
 have h:=Rq.lists (n:=n) (fun _=>true) ha hb rfl fun j x y hx hy=>by
  rw [hx] at hy;cases hy
  have f:=List.all_eq_true.mp hf x (List.mem_of_getElem? hx)
  rw [<- hC f]
  exact Dq.flat f f
 rw [eI] at h
 exact h
end L2
variable {X:Cx}
namespace L2
open PySem PySem.Spec PyProof.Rows
def cf(cells:List (Str×Addr)):List (Str×NameKind)->List (Str×Addr)->List (Str×Addr)
 | [],acc=>acc
 | (n,k) :: r,acc=>if k == .free then cf cells r ((n,(cells.lookup n).getD 0) :: acc) else cf cells r acc
theorem cJ{scope:Scope}{env:Env}(h:∀y∈scope.names,y.2=.free->∃c,env.cells.lookup y.1=some c):closureFor scope env=pure (cf env.cells scope.names []):=by
 have key:∀(names:List (Str×NameKind)) (acc:List (Str×Addr)),(∀y∈names,y.2=.free->∃c,env.cells.lookup y.1=some c)->
   (forIn names acc fun x (r:List (Str×Addr))=>match x with
    | (name,kind)=>if (kind == .free)=true then do let c <- cellOf env name;pure (ForInStep.yield ((name,c) :: r)) else pure (ForInStep.yield r))=(pure (cf env.cells names acc):Sem (List (Str×Addr))):=by
  intro names
  induction names with
  | nil=>intro acc _;rfl
  | cons y r ih=>
   intro acc hy
   obtain ⟨n,k⟩:=y
   rw [List.forIn_cons]
   cases hk:(k == NameKind.free) with
   | true=>
    have hk':k=.free:=by simpa using hk
    obtain ⟨c,hc⟩:=hy (n,k) List.mem_cons_self hk'
    have e:cellOf env n=pure c:=by unfold cellOf;rw [show env.cells.lookup n=some c from hc]
    simp only [hk,if_true,e,pure_bind]
    rw [ih _ fun z hz=>hy z (List.mem_cons_of_mem _ hz)]
    simp only [cf,hk,if_true]
    rw [show env.cells.lookup n=some c from hc]
    rfl
   | false=>
    simp only [hk,Bool.false_eq_true,if_false,pure_bind]
    rw [ih _ fun z hz=>hy z (List.mem_cons_of_mem _ hz)]
    simp only [cf,hk,Bool.false_eq_true,if_false]
 refine (show closureFor scope env=((forIn scope.names [] fun x (r:List (Str×Addr))=>match x with
    | (name,kind)=>if (kind == .free)=true then do let c <- cellOf env name;pure (ForInStep.yield ((name,c) :: r)) else pure (ForInStep.yield r)) >>= fun cs=>pure cs) from rfl).trans ?_
 rw [key scope.names [] h]
 rfl
theorem eN{cells:List (Str×Addr)}:∀{names:List (Str×NameKind)} {acc:List (Str×Addr)},(∀y∈names,y.2=.free->∃c,cells.lookup y.1=some c)->(∀y c,acc.lookup y=some c->cells.lookup y=some c)->
  ∀y c,(cf cells names acc).lookup y=some c->cells.lookup y=some c
 | [],_,_,ha=>ha
 | (n,k) :: r,acc,hn,ha=>by
  intro y c
  unfold cf
  split
  ·next hk=>
   refine eN (fun z hz=>hn z (List.mem_cons_of_mem _ hz)) (fun z d hz=>?_) y c
   obtain ⟨e,he⟩:=hn (n,k) List.mem_cons_self (by simpa using hk)
   rw [List.lookup_cons] at hz
   split at hz
   ·next hq=>
    have:z=n:=by simpa using hq
    subst this
    have he':cells.lookup z=some e:=he
    rw [he'] at hz ⊢
    exact hz
   ·exact ha z d hz
  ·exact eN (fun z hz=>hn z (List.mem_cons_of_mem _ hz)) ha y c
theorem eM{cells:List (Str×Addr)}{y:Str}:∀{names:List (Str×NameKind)} {acc:List (Str×Addr)},(∃c,acc.lookup y=some c)->∃c,(cf cells names acc).lookup y=some c
 | [],_,h=>h
 | (n,k) :: r,acc,h=>by
  unfold cf
  split
  ·refine eM ?_
   rw [List.lookup_cons]
   split
   ·exact ⟨_,rfl⟩
   ·exact h
  ·exact eM h
theorem cq{cells:List (Str×Addr)}{y:Str}:∀{names:List (Str×NameKind)} {acc:List (Str×Addr)},(y,NameKind.free)∈names->∃c,(cf cells names acc).lookup y=some c
 | (n,k) :: r,acc,h=>by
  unfold cf
  rcases List.mem_cons.mp h with e | e
  ·cases e
   rw [if_pos (by rfl)]
   exact eM ⟨(cells.lookup y).getD 0,by rw [List.lookup_cons,beq_self_eq_true]⟩
  ·split
   ·exact cq e
   ·exact cq e
structure Bk where
 C:Addr
 fp:List Addr
 s₂:Shared
 H₂:Hp
def Cx.blk(X:Cx)(N':List Str)(scope:Scope)(b:Bk):Cx:=
 {prog:=X.prog,w:=X.w,K:=X.K,mg:=X.mg,base:=X.base,A:=X.A,N:=N',s₀:=b.s₂,H₀:=b.H₂,env:=compEnvC scope (cf X.env.cells scope.names []) b.C X.env,outer:=X.stack,stack:=X.stack,ex:=b.fp,fn:=fun _=>false,calm:=X.calm,pn:=[],xe:=fun _ _=>False}
def aD(os:List (Option V))(ci:List Nat)(σ:St):St:=none :: (os ++ ci.map fun i=>(σ[i]?).join)
def b6(J:It)(g:TG)(tt:TT)(te:TE)(nt:Nat)(ci:List Nat)(σ:St)(acc:Addr)(Q:Hp->Prop)(H0:Hp):Prop:=∃W:Nat->Nat->List V->Hp->Prop,(∃m,W 0 m [] H0)/\∀i m ys H,W i m ys H->
 (J.stop i H/\Q H)\/(J.go i H/\∃N:List V->Hp->Prop,(∀zs H',N zs H'->∃m',m' < m/\W (i+1) m' zs H')/\∀y H' os,os.length=nt->J.yld i H y H'->g y (aD os ci σ) H' fun σ1 H1=>(∃os',os'.length=nt/\σ1=aD os' ci σ)/\tt σ1 H1 fun b H2=>
  if b=true then te σ1 H2 fun z H3=>H3 acc=some (.lst ys)/\ys.length < sizeLine/\N (ys ++ [z]) (upd H3 acc (.lst (ys ++ [z]))) else N ys H2)
def je(wi:TI)(g:Bk->TG)(tt:Bk->TT)(te:Bk->TE)(nt:Nat)(ci:List Nat):TE:=fun σ H Q=>wi σ H fun J H1=>∀acc,H1 acc=none->∀bk:Bk,b6 J (g bk) (tt bk) (te bk) nt ci σ acc (fun H'=>Q (.ref acc) H') (upd H1 acc (.lst []))
def kt(X:Cx)(ifs:List Expr)(t:TT):Prop:=
 ∀(pins:List (Addr×Obj)) (s:Shared) (σ:St) (H:Hp) (Q:Bool->Hp->Prop),Inv X pins σ H s->t σ H Q->
  wpAny (model X.prog X.w) X.A (forIn ifs true fun c r=>if r=true then do let ok <- isTrue c X.env (eval c X.env);pure (ForInStep.yield ok) else pure (ForInStep.yield r)) (TP X pins σ Q) X.xe s
def lp:TT:=fun _ H Q=>Q true H
theorem tD:kt X [] lp:=fun pins s σ H Q I h=>wpAny_tests_nil ⟨H,I,h⟩
theorem tE{X:Cx}{c:Expr}{t:TT}(h:PT X c t):kt X [c] t:=fun pins s σ H Q I q=>wpAny_tests_one (h pins s σ H Q I q)
structure CompSc(X:Cx)(scope:Scope)(cns:List Str)(ci:List Nat):Prop where
 kind:scope.kind=.function
 cell:∀y∈scope.names,y.2≠.cell
 names:∀y∈scope.names,y.2=.local->scope.names.lookup y.1=some .local
 free:∀y∈scope.names,y.2=.free->X.env.kindOf y.1=some .cell\/X.env.kindOf y.1=some .free
 cap:∀(j:Nat)x,cns[j]?=some x->∃i,ci[j]?=some i/\X.N[i]?=some x/\(x,NameKind.free)∈scope.names
 len:cns.length=ci.length
 noloc:∀y,(y,NameKind.free)∈scope.names->¬(relabel scope X.env).names.lookup y=some .local
theorem bL{env:Env}:∀{names:List (Str×NameKind)} {y:Str} {k:NameKind},(names.map fun (n,k)=>if (k == NameKind.free && env.scope.kind == .function && env.kindOf n == some .cell) then (n,NameKind.cell) else (n,k)).lookup y=some k->k=.cell\/k=.free->
  (∀z∈names,z.2≠.cell)->(y,NameKind.free)∈names
 | [],_,_,h,_,_=>by simp at h
 | (n,k0) :: r,y,k,h,hk,hc=>by
  rw [List.map_cons,List.lookup_cons] at h
  by_cases hf:(k0 == NameKind.free && env.scope.kind == .function && env.kindOf n == some .cell)=true
  ·simp only [hf,if_true] at h
   have k0f:k0=.free:=by
    have:=hf
    simp only [Bool.and_eq_true] at this
    simpa using this.1.1
   split at h
   ·next hq=>
    have:y=n:=by simpa using hq
    subst this;subst k0f
    exact List.mem_cons_self
   ·exact List.mem_cons_of_mem _ (bL h hk fun z hz=>hc z (List.mem_cons_of_mem _ hz))
  ·simp only [hf] at h
   split at h
   ·next hq=>
    have:y=n:=by simpa using hq
    subst this
    have e:k0=k:=by simpa using h
    subst e
    rcases hk with z | z
    ·exact absurd z (hc _ List.mem_cons_self)
    ·subst z;exact List.mem_cons_self
   ·exact List.mem_cons_of_mem _ (bL h hk fun z hz=>hc z (List.mem_cons_of_mem _ hz))
section
variable {prog:Program} {w:World} {A:Around} {R:Result->Shared->Prop} {s:Shared}
theorem gq{elt target iter:Expr}{ifs:List Expr}{scope:Scope}{pos:Pos}{it acc:Value}{env:Env}(I:Nat->Shared->Prop)
  (turn:∀n s,I n s->wpAny (model prog w) A (pyNext it) (fun r s₁=>match r with
   | none=>R (.ok .next) s₁
   | some v=>wpAny (model prog w) A (letOwnedTupleGo target it v) (fun _ s₅=>wpAny (model prog w) A (assign target env v) (fun _ s₂=>
     wpAny (model prog w) A (forIn ifs true fun c r=>if r=true then do let ok <- isTrue c env (eval c env);pure (ForInStep.yield ok) else pure (ForInStep.yield r)) (fun ok s₃=>
      if ok=true then wpAny (model prog w) A (eval elt env) (fun x s₄=>
       wpAny (model prog w) A (call (.builtin "list.append") [acc,x]) (fun _ s₅=>∃m,m < n/\I m s₅) (fun _ _=>False) s₄) (fun _ _=>False) s₃
      else ∃m,m < n/\I m s₃) (fun _ _=>False) s₂) (fun _ _=>False) s₅) (fun _ _=>False) s₁) (fun _ _=>False) s)
  (n:Nat) (h:I n s) :
  codeAny (model prog w) A (.compLoop (.ListComp elt [⟨target,iter,ifs,0⟩] scope pos) 0 it acc env) R s:=by
 refine codeAny_loop rfl I (fun n s hI=>?_) n h
 show wpAny _ _ ((compTurn (.ListComp elt [⟨target,iter,ifs,0⟩] scope pos) 0 it acc env).onRaise (fun x=>do noteFrame x env;theTreesLotGoes x)) _ _ s
 refine wpAny_noted ?_
 rw [compTurn_list]
 refine wpAny_bind (wpAny_standAt (wpAny_bind (wpAny_mono (turn n s hI) (fun r s₁ h₁=>?_) fun _ _ h'=>h'.elim)))
 cases r with
 | none=>exact wpAny_pure h₁
 | some v=>
  refine wpAny_bind (wpAny_mono h₁ (fun _ s₅ h₅=>?_) fun _ _ h'=>h'.elim)
  refine wpAny_bind (wpAny_mono h₅ (fun _ s₂ h₂=>wpAny_bind (wpAny_mono h₂ (fun ok s₃ h₃=>?_) fun _ _ h'=>h'.elim)) fun _ _ h'=>h'.elim)
  cases ok with
  | true=>
   rw [if_pos rfl] at h₃
   exact wpAny_bind (wpAny_bind (wpAny_mono h₃ (fun x s₃ h₃=>wpAny_bind (wpAny_mono h₃ (fun _ s₄ h₄=>wpAny_pure (wpAny_pure ⟨rfl,h₄⟩)) fun _ _ h'=>h'.elim)) fun _ _ h'=>h'.elim))
  | false=>
   rw [if_neg Bool.false_ne_true] at h₃
   exact wpAny_bind (wpAny_pure (wpAny_pure ⟨rfl,h₃⟩))
end
theorem fK{X:Cx}{elt iter tgt:Expr}{ifs:List Expr}{pos:Pos}{scope:Scope}{g:Bk->TG}{tt:Bk->TT}{te:Bk->TE}{tns cns:List Str}{ci:List Nat}{RR:Value->Addr->Result->Shared->Prop}{E:Value->Shared->Prop}
  {pins:List (Addr×Obj)} {σ:St} {H2:Hp} {s2:Shared} {it:Addr} {fp:List Addr} {tn:Nat->Heap->Prop} {J:It} {Q:Addr->Hp->Prop}
  (hc:X.calm=true) (S:CompSc X scope cns ci)
  (hg:∀bk:Bk,PG (X.blk (".0" :: (tns ++ cns)) scope bk) tgt (g bk))
  (ht:∀bk:Bk,kt (X.blk (".0" :: (tns ++ cns)) scope bk) ifs (tt bk))
  (he:∀bk:Bk,PE (X.blk (".0" :: (tns ++ cns)) scope bk) elt (te bk))
  (I2:Inv X pins σ H2 s2) (T:ku X.prog X.w X.K tgt J fp it tn) (st2:tn 0 s2.heap) (f2:∀b∈fp,gk X pins H2 b)
  (hcw:∀acc,H2 acc=none->∀bk:Bk,b6 J (g bk) (tt bk) (te bk) tns.length ci σ acc (Q acc) (upd H2 acc (.lst [])))
  (fin:∀D C s5 H4 m,Inv X pins σ H4 s5->s5.heap.Ns C m->gk X pins H4 C->Q D H4->RR (.ref D) C (.ok .next) s5) :
  wpAny (model X.prog X.w) X.A (newList []) (fun acc s₃=>wpAny (model X.prog X.w) X.A (newFunctionEnv scope X.env.globals (cf X.env.cells scope.names []) [] X.env.qual none .none (some X.env)) (fun cenv s₄=>
   codeAny (model X.prog X.w) X.A (.compStart (.ListComp elt [⟨tgt,iter,ifs,0⟩] scope pos) 0 (.ref it) acc {cenv with scope:=relabel scope X.env}) (RR acc cenv.locals) s₄) E s₃) E s2:=by
 have hfc:∀y∈scope.names,y.2=.free->∃c,X.env.cells.lookup y.1=some c:=fun y hy hk=>I2.ok.has _ (S.free y hy hk)
 have hsub:∀y c,(cf X.env.cells scope.names []).lookup y=some c->X.env.cells.lookup y=some c:=eN hfc (fun y c e=>by simp at e)
 refine wpAny_newObj_type (wpAny_newFunctionEnv S.cell (by intro y hy;simp at hy) (fun h₁ hns₁ hsb₁=>?_) S.kind)
 dsimp only at hns₁ hsb₁ ⊢
 generalize hH2:s2.heap.push {cls:=.type "list",dict:=none,data:=.seq ([]:List Value).toArray}=G2 at hns₁ hsb₁ ⊢
 have hCz:G2.objs.size=s2.heap.objs.size+1:=by rw [<- hH2,Heap.size_push]
 have hDC:s2.heap.objs.size≠G2.objs.size:=by rw [hCz];exact Nat.ne_of_lt (Nat.lt_succ_self _)
 have below:∀b,b < s2.heap.objs.size->b≠G2.objs.size:=fun b hb=>by omega
 have old:∀b o,s2.heap.get? b=some o->h₁.get? b=some o:=fun b o e=>hsb₁.extBut b o (below b (Heap.lt_size e)) (Heap.get?_push_of_some _ (hH2 ▸ Heap.get?_push_of_some _ e))
 have hacc:h₁.get? s2.heap.objs.size=some {cls:=.type "list",dict:=none,data:=.seq ([]:List Value).toArray}:=hsb₁.extBut _ _ hDC (Heap.get?_push_of_some _ (hH2 ▸ Heap.get?_push_size _ rfl))
 have hnD:H2 s2.heap.objs.size=none:=I2.hok.fresh (Nat.le_refl _)
 have hnC:H2 G2.objs.size=none:=I2.hok.fresh (by omega)
 obtain ⟨W,⟨m0,w0⟩,turn⟩:=hcw s2.heap.objs.size hnD ⟨G2.objs.size,fp,s2,H2⟩
 have nlt:∀{b:Addr} {o:Obj},s2.heap.get? b=some o->b≠s2.heap.objs.size:=fun q=>Nat.ne_of_lt (Heap.lt_size q)
 have fpl:∀b∈fp,b < s2.heap.objs.size:=fun b hb=>by
  obtain ⟨o,e,_⟩:=T.obj _ _ st2 b hb
  exact Heap.lt_size e
 have clt:∀y c,(cf X.env.cells scope.names []).lookup y=some c->c < s2.heap.objs.size:=fun y c e=>by
  obtain ⟨v,q⟩:=I2.cell y c (hsub y c e)
  exact q.lt
 have hasC:∀y,((relabel scope X.env).names.lookup y=some .cell\/(relabel scope X.env).names.lookup y=some .free)->∃c,(cf X.env.cells scope.names []).lookup y=some c:=fun y hk=>by
  rcases hk with z | z
  ·exact cq (bL z (.inl rfl) S.cell)
  ·exact cq (bL z (.inr rfl) S.cell)
 have ok:(X.blk (".0" :: (tns ++ cns)) scope ⟨G2.objs.size,fp,s2,H2⟩).Ok:={
  mod:=I2.ok.mod
  kind:=S.kind
  glob:=I2.ok.glob
  blt:=I2.ok.blt
  above:=by show s2.heap.objs.size<=G2.objs.size;omega
  inj:=fun y z c e1 e2=>I2.ok.inj y z c (hsub y c e1) (hsub z c e2)
  has:=fun y hk=>hasC y hk
  cab:=fun y c e=>by
   have e':(false=true):=e
   cases e'
  hd:=I2.ok.hd
  frames:=I2.ok.frames
  stk:=.inl rfl
  exf:=fun b hb=>⟨below b (fpl b hb),fun y c e=>(f2 b hb).2.2.2.2.1 y c (hsub y c e)⟩
  bs:=I2.bs
  bsz:=Nat.le_trans I2.ok.bsz I2.sz
  noex:=fun b o e hb=>by
   rcases (f2 b hb).2.2.2.1 with z | z
   ·exact I2.ok.noex b o e z
   ·exact absurd (Nat.lt_of_lt_of_le (Heap.lt_size e) (Nat.le_trans I2.ok.bsz z)) (Nat.lt_irrefl _)
  exfs:=fun b hb hf=>by
   rcases List.mem_cons.mp (I2.stkSub b hf) with z | z
   ·exact (f2 b hb).2.1 z
   ·exact (f2 b hb).2.2.1 z
  funs:=I2.stack
  frf:=I2.stkFree}
 have hokD:HOk X.prog X.w (upd H2 s2.heap.objs.size (.lst [])) h₁:=I2.hok.laid old (Nat.le_refl _) ⟨Nat.zero_le _,[],0,.nil,hacc⟩
 have clD:∀y c,(cf X.env.cells scope.names []).lookup y=some c->c≠s2.heap.objs.size:=fun y c e=>Nat.ne_of_lt (clt y c e)
 have I3:Inv (X.blk (".0" :: (tns ++ cns)) scope ⟨G2.objs.size,fp,s2,H2⟩) [] (aD (List.replicate tns.length none) ci σ) (upd H2 s2.heap.objs.size (.lst [])) {s2 with heap:=h₁,toks:=s2.toks+([]:List (Str×Value)).length}:={
  ok:=ok
  os:=rfl
  bare:=I2.bare
  base:=⟨fun b o e n _ _=>old b o e,fun b o e n _ _=>⟨o.slots,old b o e⟩,fun b o e n _=>by rw [ap (nlt e)];exact n,fun b o e _=>⟨o,old b o e⟩,
   fun b ys e=>by rw [ap (au e hnD)];exact e,fun b o u e=>by rw [ap (au e hnD)];exact e,fun b ps e=>⟨#[],by rw [ap (au e hnD),Array.append_empty];exact e⟩⟩
  loc:=⟨_,hns₁,fun i y v e1 e2 e3=>by
   have e1':((".0":Str) :: (tns ++ cns))[i]?=some y:=e1
   unfold aD at e2
   cases i with
   | zero=>simp at e2
   | succ i=>
    rw [List.getElem?_cons_succ] at e1' e2
    by_cases hi:i < tns.length
    ·rw [List.getElem?_append_left (by simpa using hi),List.getElem?_replicate,if_pos hi] at e2
     cases e2
    ·rw [List.getElem?_append_right (by omega)] at e1'
     rw [List.getElem?_append_right (by simp;omega),List.length_replicate] at e2
     obtain ⟨q,hq,hN,hm⟩:=S.cap _ _ e1'
     rw [List.getElem?_map,hq] at e2
     have e2':(σ[q]?).join=some v:=by simpa using e2
     have e4:σ[q]?=some (some v):=by
      cases z:σ[q]? with
      | none=>rw [z] at e2';cases e2'
      | some o=>rw [z] at e2';rw [show o=some v from e2']
     obtain ⟨m,hns,hl⟩:=I2.loc
     have hvis:Vis X.env.scope y:=by
      rcases S.free (y,.free) hm rfl with z | z
      ·exact .inr (.inl z)
      ·exact .inr (.inr z)
     obtain ⟨u,ru,lk⟩:=hl q y v hN e4 hvis
     refine ⟨u,ru,.inr ?_⟩
     have hkk:X.env.kindOf y=some .cell\/X.env.kindOf y=some .free:=S.free (y,.free) hm rfl
     rcases lk with ⟨k1,_⟩ | ⟨_,c,hc1,hc2⟩
     ·rcases hkk with z | z <;> (rw [k1] at z;cases z)
     ·obtain ⟨c',hc'⟩:=cq (cells:=X.env.cells) (acc:=[]) hm
      have ecc:c'=c:=by
       have:=hsub y c' hc'
       rw [hc1] at this;cases this;rfl
      subst ecc
      have e3':Vis (relabel scope X.env) y:=e3
      refine ⟨?_,c',hc',?_⟩
      ·rcases e3' with z | z | z
       ·exfalso
        exact S.noloc y hm z
       ·exact .inl z
       ·exact .inr z
      ·exact hc2.keeps old⟩
  cell:=fun y c e=>by
   obtain ⟨v,q⟩:=I2.cell y c (hsub y c e)
   exact ⟨v,q.keeps old⟩
  free:=by show upd H2 s2.heap.objs.size (.lst []) G2.objs.size=none;rw [ap (Ne.symm hDC)];exact hnC
  freeC:=fun y c e=>by rw [ap (clD y c e)];exact I2.freeC y c (hsub y c e)
  pin:=fun p hp=>by
   have hp':p∈([]:List (Addr×Obj)) ++ []:=hp
   simp at hp'
  hok:=hokD
  len:=by
   show (aD _ ci σ).length=((".0":Str) :: (tns ++ cns)).length
   unfold aD
   simp [S.len]}
 have st3:tn 0 h₁:=T.keep _ _ _ st2 fun b _ o e=>old b o e
 have fr3:∀b∈fp,upd H2 s2.heap.objs.size (.lst []) b=none:=fun b hb=>by rw [ap (Nat.ne_of_lt (fpl b hb))];exact (f2 b hb).1
 have stat:∀{H':Hp},(∀b∈fp,H' b=none)->∀b∈fp,gk (X.blk (".0" :: (tns ++ cns)) scope ⟨G2.objs.size,fp,s2,H2⟩) [] H' b:=fun hn b hb=>
  ⟨hn b hb,below b (fpl b hb),ok.exfs b hb,.inl hb,fun y c e=>(f2 b hb).2.2.2.2.1 y c (hsub y c e),fun p hp=>by
   have hp':p∈([]:List (Addr×Obj)) ++ []:=hp
   simp at hp'⟩
 have loop:∀s₃:Shared,s₃={s2 with heap:=h₁,toks:=s2.toks+([]:List (Str×Value)).length}->
   codeAny (model X.prog X.w) X.A (.compLoop (.ListComp elt [⟨tgt,iter,ifs,0⟩] scope pos) 0 (.ref it) (.ref s2.heap.objs.size) (compEnvC scope (cf X.env.cells scope.names []) G2.objs.size X.env))
    (RR (.ref s2.heap.objs.size) G2.objs.size) s₃:=by
  rintro s₃ rfl
  refine gq (fun n s'=>∃(i:Nat)(os:List (Option V)) (ys:List V) (H':Hp),os.length=tns.length/\Inv (X.blk (".0" :: (tns ++ cns)) scope ⟨G2.objs.size,fp,s2,H2⟩) [] (aD os ci σ) H' s'/\tn i s'.heap/\(∀b∈fp,H' b=none)/\W i n ys H') ?_ m0 ⟨0,_,[],_,by simp,I3,st3,fr3,w0⟩
  rintro n s4 ⟨i,os,ys,H4,hos,I4,st4,fr4,w4⟩
  rcases turn i n ys H4 w4 with ⟨stop,q⟩ | ⟨go,N,hN,step⟩
  ·refine thn (T.done (X.blk (".0" :: (tns ++ cns)) scope ⟨G2.objs.size,fp,s2,H2⟩) rfl rfl rfl hc i [] s4 _ H4 (fun _ _=>False) I4 (stat fr4) st4 stop) fun r s5 ⟨hr,I5⟩=>?_
   subst hr
   obtain ⟨m,hm,_⟩:=I5.loc
   have fC:H4 G2.objs.size=none:=I5.free
   have ub:Un (frs X.stack) fp H2 H4 s2.heap s5.heap:=I5.base
   have IX:Inv X pins σ H4 s5:=I2.call' (s':=s5) (show s5.os=s2.os from I5.os) ub I5.hok I5.bare fun b hb=>⟨(f2 b hb).2.2.2.1,(f2 b hb).2.1,(f2 b hb).2.2.2.2.1,(f2 b hb).2.2.2.2.2⟩
   exact fin _ _ s5 H4 m IX hm (I2.fpOk (by omega) fC) q
  ·refine thn (T.item (X.blk (".0" :: (tns ++ cns)) scope ⟨G2.objs.size,fp,s2,H2⟩) rfl rfl rfl hc i [] s4 _ H4 (fun _ _=>False) I4 (stat fr4) st4 go) fun r s5 ⟨u,hr,h5⟩=>?_
   subst hr
   refine thn h5 fun _ s6 hhx=>?_
   obtain ⟨y,H6,I6,r6,y6,st6,fr6⟩:=hhx
   have I6':=I6.pinned (stat fr6) (T.obj _ _ st6)
   refine thn (hg _ _ s6 _ H6 y u _ I6' r6 (step y H6 os hos y6)) fun _ s7 ⟨σ7,H7,I7,⟨os',hos',e7⟩,q7⟩=>?_
   subst e7
   have back:∀{H9:Hp} {s9:Shared},Inv (X.blk (".0" :: (tns ++ cns)) scope ⟨G2.objs.size,fp,s2,H2⟩) ([] ++ dA fp s6.heap) (aD os' ci σ) H9 s9->tn (i+1) s9.heap/\∀b∈fp,H9 b=none:=fun {H9 s9} I9=>
    ⟨T.keep _ _ _ st6 fun b hb ob e=>(I9.pin (b,ob) (List.mem_append_right _ (List.mem_append_right _ (bP hb e)))).1,fun b hb=>by
     obtain ⟨ob,e,d⟩:=T.obj _ _ st6 b hb
     exact (I9.pin (b,ob) (List.mem_append_right _ (List.mem_append_right _ (bP hb e)))).2.1⟩
   refine thn (ht _ _ s7 _ H7 _ I7 q7) fun b s8 hhx=>?_
   obtain ⟨H8,I8,q8⟩:=hhx
   cases b with
   | false=>
    rw [if_neg Bool.false_ne_true] at q8 ⊢
    obtain ⟨m',hm',w8⟩:=hN _ _ q8
    exact ⟨m',hm',i+1,os',ys,_,hos',I8.unpinned,(back I8).1,(back I8).2,w8⟩
   | true=>
    rw [if_pos rfl] at q8 ⊢
    refine thn (he _ _ s8 _ H8 _ I8 q8) fun zv s8 hhx=>?_
    obtain ⟨z,H8,I8,rz,ha8,hl8,n8⟩:=hhx
    obtain ⟨m',hm',w8⟩:=hN _ _ n8
    refine thn (bN (X:=X.blk (".0" :: (tns ++ cns)) scope ⟨G2.objs.size,fp,s2,H2⟩) _ s8 _ H8 (.ref s2.heap.objs.size) [z] (.ref s2.heap.objs.size) [zv] (fun _ H9=>H9=upd H8 s2.heap.objs.size (.lst (ys ++ [z]))) I8 rfl (.cons rz .nil) ⟨_,ys,z,rfl,rfl,ha8,hl8,rfl⟩) fun _ s9 hhx=>?_
    obtain ⟨_,H9,I9,_,e9⟩:=hhx
    subst e9
    exact ⟨m',hm',i+1,os',ys ++ [z],_,hos',I9.unpinned,(back I9).1,(back I9).2,w8⟩
 exact codeAny_compStart_list (loop _ rfl) (T.self _ 0 _ _ _ st3 (loop _ rfl))
theorem mZ{X:Cx}{elt iter tgt:Expr}{ifs:List Expr}{pos:Pos}{scope:Scope}{wi:TI}{g:Bk->TG}{tt:Bk->TT}{te:Bk->TE}{tns cns:List Str}{ci:List Nat}(hc:X.calm=true)(S:CompSc X scope cns ci)(hi:PI X tgt iter wi)
  (hg:∀bk:Bk,PG (X.blk (".0" :: (tns ++ cns)) scope bk) tgt (g bk))
  (ht:∀bk:Bk,kt (X.blk (".0" :: (tns ++ cns)) scope bk) ifs (tt bk))
  (he:∀bk:Bk,PE (X.blk (".0" :: (tns ++ cns)) scope bk) elt (te bk))
  (hs:∀v,foldedSetIterable iter X.env v=pure v:=by intro _;rfl) :
  PE X (.ListComp elt [⟨tgt,iter,ifs,0⟩] scope pos) (je wi g tt te tns.length ci):=by
 intro pins s σ H Q I h
 have hfc:∀y∈scope.names,y.2=.free->∃c,X.env.cells.lookup y.1=some c:=fun y hy hk=>I.ok.has _ (S.free y hy hk)
 rw [eval_ListComp]
 refine wpAny_comprehension_free (use:=none) rfl hs (cJ hfc) S.kind S.names (thn (hi pins s σ H _ I h) fun v s1 h1=>thn h1 fun itv s2 h2=>?_)
 obtain ⟨it,fp,tn,J,H2,rfl,I2,T,st2,f2,hcw⟩:=h2
 refine fK (RR:=fun acc C=>compPost (model X.prog X.w) X.A X.xe none (EP X pins σ Q) acc C) hc S hg ht he I2 T st2 f2 hcw fun D C s5 H4 m I5 hm fo q=>?_
 refine ⟨m,hm,fun h' hs'=>⟨.ref D,H4,?_,rfl,q⟩⟩
 exact I5.turned (t':=s5.toks) (it:=C) (fun b o hb e=>(hs'.2 b hb).trans e) fo.1 fo.2.1 fo.2.2.2.1 fo.2.2.2.2.1 fo.2.2.2.2.2
def fe(i:Nat)(wi:TI)(g:Bk->TG)(tt:Bk->TT)(te:Bk->TE)(nt:Nat)(ci:List Nat):TS:=fun D σ H=>wi σ H fun J H1=>∀acc,H1 acc=none->∀bk:Bk,b6 J (g bk) (tt bk) (te bk) nt ci σ acc (fun H'=>D.nx (σ.set i (some (.ref acc))) H') (upd H1 acc (.lst []))
theorem j3{X:Cx}{i:Nat}{x:Str}{px pos':Pos}{elt iter tgt:Expr}{ifs:List Expr}{pos:Pos}{scope:Scope}{wi:TI}{g:Bk->TG}{tt:Bk->TT}{te:Bk->TE}{tns cns:List Str}{ci:List Nat}
  (hN:X.N.Nodup) (hx:X.N[i]?=some x) (hl:Loc X.env.scope x) (hf:X.fn x=true) (hsw:swapsWith (.ListComp elt [⟨tgt,iter,ifs,0⟩] scope pos) (some (.Name x px)) pos'.line X.env=pure true)
  (hc:X.calm=true) (S:CompSc X scope cns ci) (hi:PI X tgt iter wi)
  (hg:∀bk:Bk,PG (X.blk (".0" :: (tns ++ cns)) scope bk) tgt (g bk))
  (ht:∀bk:Bk,kt (X.blk (".0" :: (tns ++ cns)) scope bk) ifs (tt bk))
  (he:∀bk:Bk,PE (X.blk (".0" :: (tns ++ cns)) scope bk) elt (te bk))
  (hs:∀v,foldedSetIterable iter X.env v=pure v:=by intro _;rfl) :
  PS X (.Assign [.Name x px] (.ListComp elt [⟨tgt,iter,ifs,0⟩] scope pos) pos') (fe i wi g tt te tns.length ci):=by
 intro pins s σ H D I h
 have hfc:∀y∈scope.names,y.2=.free->∃c,X.env.cells.lookup y.1=some c:=fun y hy hk=>I.ok.has _ (S.free y hy hk)
 rw [exec_Assign_Name_used _ _ _ _ hsw]
 refine wpAny_bind (wpAny_standAt (wpAny_bind ?_))
 show wpAny _ _ (do let _ <- comprehension (.ListComp elt [⟨tgt,iter,ifs,0⟩] scope pos) scope X.env _ (newList []) false (eval iter X.env) (some (assign (.Name x px) X.env))) _ _ s
 refine wpAny_bind (wpAny_mono (wpAny_comprehension_free (use:=some (assign (.Name x px) X.env)) (Q:=fun _ s'=>SP X pins D .next s') rfl hs (cJ hfc) S.kind S.names
  (thn (hi pins s σ H _ I h) fun v s1 h1=>thn h1 fun itv s2 h2=>?_)) (fun _ s' hq=>wpAny_pure (wpAny_pure hq)) fun _ _ e=>e)
 obtain ⟨it,fp,tn,J,H2,rfl,I2,T,st2,f2,hcw⟩:=h2
 refine fK (RR:=fun acc C=>compPost (model X.prog X.w) X.A X.xe (some (assign (.Name x px) X.env)) (fun _ s'=>SP X pins D .next s') acc C) hc S hg ht he I2 T st2 f2 hcw fun D' C s5 H4 m I5 hm fo q=>?_
 obtain ⟨o,es,ep,ho,hd,hr⟩:=id hm
 have IP:Inv X (pins ++ dA [C] s5.heap) σ H4 s5:=I5.pinned (fp:=[C]) (fun b hb=>by rw [List.mem_singleton.mp hb];exact fo) fun b hb=>by
  rw [List.mem_singleton.mp hb]
  exact ⟨o,ho,fun v z=>by rw [hd] at z;cases z⟩
 show wpAny _ _ (assign (.Name x px) X.env (.ref D')) _ _ s5
 refine thn (jI (X:=X) (i:=i) hN hx hl (.inl hf) _ s5 σ H4 (.ref D') (.ref D') (fun σ' H'=>σ'=σ.set i (some (.ref D'))/\H'=H4) IP rfl ⟨rfl,rfl⟩) fun _ s6 hhx=>?_
 obtain ⟨σ6,H6,I6,e1,e2⟩:=hhx
 subst e1 e2
 have hC6:s6.heap.get? C=some o:=(I6.pin (C,o) (List.mem_append_right _ (List.mem_append_right _ (bP (List.mem_singleton.mpr rfl) ho)))).1
 refine ⟨m,⟨o,es,ep,hC6,hd,hr⟩,fun h' hs'=>⟨_,_,?_,q⟩⟩
 exact I6.unpinned.turned (t':=s6.toks) (it:=C) (fun b o hb e=>(hs'.2 b hb).trans e) fo.1 fo.2.1 fo.2.2.2.1 fo.2.2.2.2.1 fo.2.2.2.2.2
def tZ(scope osc:Scope):List (Str×NameKind):=scope.names.map fun (n,k)=>if (k == NameKind.free && osc.kind == .function && osc.names.lookup n == some .cell) then (n,NameKind.cell) else (n,k)
def fI(N:List Str)(names:List (Str×NameKind)):List Str->List Nat->Bool
 | [],[]=>true
 | x :: xs,i :: is=>N[i]? == some x && names.any (fun y=>y.1 == x && y.2 == .free) && fI N names xs is
 | _,_=>false
def uo(osc:Scope)(N:List Str)(scope:Scope)(cns:List Str)(ci:List Nat):Bool:=
 scope.kind == .function && scope.names.all (fun y=>y.2 != .cell) && scope.names.all (fun y=>y.2 != .local || scope.names.lookup y.1 == some .local) &&
 scope.names.all (fun y=>y.2 != .free || (osc.names.lookup y.1 == some .cell || osc.names.lookup y.1 == some .free)) && fI N scope.names cns ci &&
 scope.names.all (fun y=>y.2 != .free || (tZ scope osc).lookup y.1 != some .local)
theorem fJ{N:List Str}{names:List (Str×NameKind)}:∀{cns:List Str} {ci:List Nat},fI N names cns ci=true->cns.length=ci.length/\∀(j:Nat)x,cns[j]?=some x->∃i,ci[j]?=some i/\N[i]?=some x/\(x,NameKind.free)∈names
 | [],[],_=>⟨rfl,fun j x e=>by simp at e⟩
 | [],_ :: _,h=>by simp [fI] at h
 | _ :: _,[],h=>by simp [fI] at h
 | x :: xs,i :: is,h=>by
  unfold fI at h
  rw [Bool.and_eq_true,Bool.and_eq_true] at h
  obtain ⟨⟨h1,h2⟩,h3⟩:=h
  obtain ⟨l,r⟩:=fJ h3
  refine ⟨by simp [l],fun j y e=>?_⟩
  cases j with
  | zero=>
   have e':x=y:=by simpa using e
   subst e'
   refine ⟨i,by simp,by simpa using h1,?_⟩
   obtain ⟨z,hz,hq⟩:=List.any_eq_true.mp h2
   rw [Bool.and_eq_true] at hq
   obtain ⟨a,b⟩:=z
   have e1:a=x:=by simpa using hq.1
   have e2:b=.free:=by simpa using hq.2
   subst e1 e2
   exact hz
  | succ j=>
   obtain ⟨k,hk⟩:=r j y (by simpa using e)
   exact ⟨k,by simpa using hk.1,hk.2⟩
theorem CompSc.of{scope:Scope}{cns:List Str}{ci:List Nat}(h:uo X.env.scope X.N scope cns ci=true):CompSc X scope cns ci:=by
 unfold uo at h
 rw [Bool.and_eq_true,Bool.and_eq_true,Bool.and_eq_true,Bool.and_eq_true,Bool.and_eq_true] at h
 obtain ⟨⟨⟨⟨⟨h1,h2⟩,h3⟩,h4⟩,h5⟩,h6⟩:=h
 obtain ⟨l,r⟩:=fJ h5
 refine ⟨by simpa using h1,fun y hy=>?_,fun y hy hk=>?_,fun y hy hk=>?_,r,l,fun y hy z=>?_⟩
 ·simpa using List.all_eq_true.mp h2 y hy
 ·have:=List.all_eq_true.mp h3 y hy
  rw [Bool.or_eq_true] at this
  rcases this with q | q
  ·exact absurd hk (by simpa using q)
  ·simpa using q
 ·have:=List.all_eq_true.mp h4 y hy
  rw [Bool.or_eq_true,Bool.or_eq_true] at this
  rcases this with q | q | q
  ·exact absurd hk (by simpa using q)
  ·exact .inl (show X.env.scope.names.lookup y.1=_ by simpa using q)
  ·exact .inr (show X.env.scope.names.lookup y.1=_ by simpa using q)
 ·have:=List.all_eq_true.mp h6 _ hy
  rw [Bool.or_eq_true] at this
  rcases this with q | q
  ·simp at q
  ·have z':(tZ scope X.env.scope).lookup y=some .local:=z
   have q':((tZ scope X.env.scope).lookup y != some .local)=true:=q
   rw [z'] at q'
   exact absurd q' (by decide)
section
variable {K:PySem.W.Frag} {g:TG} {tt:TT} {te:TE} {nt:Nat} {ci:List Nat} {σ:St} {acc:Addr} {Q:Hp->Prop} {H0:Hp}
theorem cY{a:Addr}{xs:List V}(Pv:Nat->List V->Hp->Prop)(h0:Pv 0 [] H0)(hl:∀i ys H,i<=xs.length->Pv i ys H->SqL K H a xs)
 (hs:∀(i:Nat)x ys H os,xs[i]?=some x->os.length=nt->Pv i ys H->g x (aD os ci σ) H fun σ1 H1=>(∃os',os'.length=nt/\σ1=aD os' ci σ)/\tt σ1 H1 fun b H2=>
 if b=true then te σ1 H2 fun z H3=>H3 acc=some (.lst ys)/\ys.length < sizeLine/\Pv (i+1) (ys ++ [z]) (upd H3 acc (.lst (ys ++ [z]))) else Pv (i+1) ys H2)
 (hd:∀ys H,Pv xs.length ys H->Q H):b6 (Itl K a) g tt te nt ci σ acc Q H0:=by
 refine ⟨fun i m ys H=>m=xs.length - i/\i<=xs.length/\Pv i ys H,⟨xs.length,by simp,Nat.zero_le _,h0⟩,?_⟩
 rintro i m ys H ⟨rfl,hi,p⟩
 have q:=hl i ys H hi p
 by_cases hlt:i < xs.length
 ·refine .inr ⟨⟨xs,xs[i],q,by simp [hlt]⟩,Pv (i+1),fun ys' H' p'=>⟨xs.length - (i+1),by omega,rfl,hlt,p'⟩,fun y H' os ho yl=>?_⟩
  obtain ⟨rfl,yl⟩:=yl
  exact hs i y ys H' os (yl xs q) ho p
 ·have e:i=xs.length:=by omega
  subst e
  exact .inl ⟨⟨xs,q,Nat.le_refl _⟩,hd ys H p⟩
theorem sr{a:Addr}{xs:List V}(Pv:Nat->List V->Hp->Prop)(h0:Pv 0 [] H0)(hl:∀i ys H,i<=xs.length->Pv i ys H->SqT K H a xs)
 (hs:∀(i:Nat)x ys H os,xs[i]?=some x->os.length=nt->Pv i ys H->g x (aD os ci σ) H fun σ1 H1=>(∃os',os'.length=nt/\σ1=aD os' ci σ)/\tt σ1 H1 fun b H2=>
 if b=true then te σ1 H2 fun z H3=>H3 acc=some (.lst ys)/\ys.length < sizeLine/\Pv (i+1) (ys ++ [z]) (upd H3 acc (.lst (ys ++ [z]))) else Pv (i+1) ys H2)
 (hd:∀ys H,Pv xs.length ys H->Q H):b6 (Itt K a) g tt te nt ci σ acc Q H0:=by
 refine ⟨fun i m ys H=>m=xs.length - i/\i<=xs.length/\Pv i ys H,⟨xs.length,by simp,Nat.zero_le _,h0⟩,?_⟩
 rintro i m ys H ⟨rfl,hi,p⟩
 have q:=hl i ys H hi p
 by_cases hlt:i < xs.length
 ·refine .inr ⟨⟨xs,xs[i],q,by simp [hlt]⟩,Pv (i+1),fun ys' H' p'=>⟨xs.length - (i+1),by omega,rfl,hlt,p'⟩,fun y H' os ho yl=>?_⟩
  obtain ⟨rfl,yl⟩:=yl
  exact hs i y ys H' os (yl xs q) ho p
 ·have e:i=xs.length:=by omega
  subst e
  exact .inl ⟨⟨xs,q,Nat.le_refl _⟩,hd ys H p⟩
theorem eL{lo:Int}{n:Nat}(Pv:Nat->List V->Hp->Prop)(h0:Pv 0 [] H0)
 (hs:∀(i:Nat)ys H os,i < n->os.length=nt->Pv i ys H->g (.int (lo+i)) (aD os ci σ) H fun σ1 H1=>(∃os',os'.length=nt/\σ1=aD os' ci σ)/\tt σ1 H1 fun b H2=>
 if b=true then te σ1 H2 fun z H3=>H3 acc=some (.lst ys)/\ys.length < sizeLine/\Pv (i+1) (ys ++ [z]) (upd H3 acc (.lst (ys ++ [z]))) else Pv (i+1) ys H2)
 (hd:∀ys H,Pv n ys H->Q H):b6 (Itr lo n) g tt te nt ci σ acc Q H0:=by
 refine ⟨fun i m ys H=>m=n - i/\i<=n/\Pv i ys H,⟨n,by simp,Nat.zero_le _,h0⟩,?_⟩
 rintro i m ys H ⟨rfl,hi,p⟩
 by_cases hlt:i < n
 ·refine .inr ⟨hlt,Pv (i+1),fun ys' H' p'=>⟨n - (i+1),by omega,rfl,hlt,p'⟩,fun y H' os ho yl=>?_⟩
  obtain ⟨rfl,rfl⟩:=yl
  exact hs i ys H' os hlt ho p
 ·have e:i=n:=by omega
  subst e
  exact .inl ⟨Nat.le_refl _,hd ys H p⟩
end
end L2
namespace L2
open PySem PySem.Spec PyProof.Rows
def isiT:List String:=["int","bool","str","list","tuple","dict"]
inductive cm (K:PySem.W.Frag) (H:Hp):V->String->Prop where
 | non:cm K H .non "NoneType"
 | bl {b:Bool}:cm K H (.bl b) "bool"
 | int {i:Int}:cm K H (.int i) "int"
 | str {x:Str}:cm K H (.str x) "str"
 | lst {a:Addr} {xs:List V} (h:SqL K H a xs):cm K H (.ref a) "list"
 | tup {a:Addr} {xs:List V} (h:SqT K H a xs):cm K H (.ref a) "tuple"
 | dic {a:Addr} (h:IsD H a):cm K H (.ref a) "dict"
def cR(k T:String):Bool:=k == T || (k == "bool" && T == "int")
def j4(K:PySem.W.Frag):List V->Hp->VK->Prop:=fun xs H Q=>∃x T k,xs=[x,.ty T]/\isiT.contains T=true/\cm K H x k/\Q (.bl (cR k T)) H
section
variable {X:Cx}
theorem bC:bT X (.builtin "isinstance") (j4 X.K):=by
 intro pins s σ H xs us Q I r h
 obtain ⟨x,T,k,rfl,hT,hk,q⟩:=h
 obtain ⟨u,v,rfl,ru,rv⟩:=vk r
 cases rv
 have hT':T="int"\/T="bool"\/T="str"\/T="list"\/T="tuple"\/T="dict":=by simpa [isiT] using hT
 have fin:∀{b:Bool},b=cR k T->EP X pins σ Q (.bool b) s:=fun e=>⟨.bl _,H,I,rfl,by rw [e];exact q⟩
 have finT:∀{b:Bool},b=cR k T->EP X pins σ Q (.bool b) {s with toks:=s.toks+1}:=fun e=>⟨.bl _,H,I.tok _,rfl,by rw [e];exact q⟩
 cases hk with
 | non=>
  cases ru
  rcases hT' with rfl | rfl | rfl | rfl | rfl | rfl
  ·exact IsiPair.NoneType_int (finT (by decide +kernel))
  ·exact IsiPair.NoneType_bool (finT (by decide +kernel))
  ·exact IsiPair.NoneType_str (finT (by decide +kernel))
  ·exact IsiPair.NoneType_list (finT (by decide +kernel))
  ·exact IsiPair.NoneType_tuple (finT (by decide +kernel))
  ·exact IsiPair.NoneType_dict (finT (by decide +kernel))
 | bl=>
  cases ru
  rcases hT' with rfl | rfl | rfl | rfl | rfl | rfl
  ·exact IsiPair.bool_int (fin (by decide +kernel))
  ·exact IsiPair.bool_bool (fin (by decide +kernel))
  ·exact IsiPair.bool_str (finT (by decide +kernel))
  ·exact IsiPair.bool_list (finT (by decide +kernel))
  ·exact IsiPair.bool_tuple (finT (by decide +kernel))
  ·exact IsiPair.bool_dict (finT (by decide +kernel))
 | int=>
  obtain ⟨t,rfl⟩:=ru
  rcases hT' with rfl | rfl | rfl | rfl | rfl | rfl
  ·exact IsiPair.int_int (fin (by decide +kernel))
  ·exact IsiPair.int_bool (finT (by decide +kernel))
  ·exact IsiPair.int_str (finT (by decide +kernel))
  ·exact IsiPair.int_list (finT (by decide +kernel))
  ·exact IsiPair.int_tuple (finT (by decide +kernel))
  ·exact IsiPair.int_dict (finT (by decide +kernel))
 | str=>
  obtain ⟨t,rfl⟩:=ru
  rcases hT' with rfl | rfl | rfl | rfl | rfl | rfl
  ·exact IsiPair.str_int (finT (by decide +kernel))
  ·exact IsiPair.str_bool (finT (by decide +kernel))
  ·exact IsiPair.str_str (fin (by decide +kernel))
  ·exact IsiPair.str_list (finT (by decide +kernel))
  ·exact IsiPair.str_tuple (finT (by decide +kernel))
  ·exact IsiPair.str_dict (finT (by decide +kernel))
 | lst hl=>
  cases ru
  obtain ⟨its,_,⟨o,n,e,c,_⟩,_⟩:=I.list hl
  rcases hT' with rfl | rfl | rfl | rfl | rfl | rfl
  ·exact IsiPair.list_int e c (finT (by decide +kernel))
  ·exact IsiPair.list_bool e c (finT (by decide +kernel))
  ·exact IsiPair.list_str e c (finT (by decide +kernel))
  ·exact IsiPair.list_list e c (fin (by decide +kernel))
  ·exact IsiPair.list_tuple e c (finT (by decide +kernel))
  ·exact IsiPair.list_dict e c (finT (by decide +kernel))
 | tup hl=>
  cases ru
  obtain ⟨its,_,⟨o,e,c,_⟩,_⟩:=I.tuple hl
  rcases hT' with rfl | rfl | rfl | rfl | rfl | rfl
  ·exact IsiPair.tuple_int e c (finT (by decide +kernel))
  ·exact IsiPair.tuple_bool e c (finT (by decide +kernel))
  ·exact IsiPair.tuple_str e c (finT (by decide +kernel))
  ·exact IsiPair.tuple_list e c (finT (by decide +kernel))
  ·exact IsiPair.tuple_tuple e c (fin (by decide +kernel))
  ·exact IsiPair.tuple_dict e c (finT (by decide +kernel))
 | dic hl=>
  cases ru
  obtain ⟨o,e,c⟩:=(m9 I hl).1
  rcases hT' with rfl | rfl | rfl | rfl | rfl | rfl
  ·exact IsiPair.dict_int e c (finT (by decide +kernel))
  ·exact IsiPair.dict_bool e c (finT (by decide +kernel))
  ·exact IsiPair.dict_str e c (finT (by decide +kernel))
  ·exact IsiPair.dict_list e c (finT (by decide +kernel))
  ·exact IsiPair.dict_tuple e c (finT (by decide +kernel))
  ·exact IsiPair.dict_dict e c (fin (by decide +kernel))
end
section
variable {H:Hp} {Q:VK} {σ:St} {D:bO} {K:PySem.W.Frag}
theorem jL{wi:TI}{g:Bk->TG}{tt:Bk->TT}{te:Bk->TE}{nt:Nat}{ci:List Nat}:je wi g tt te nt ci σ H Q=wi σ H fun J H1=>∀acc,H1 acc=none->∀bk:Bk,b6 J (g bk) (tt bk) (te bk) nt ci σ acc (fun H'=>Q (.ref acc) H') (upd H1 acc (.lst [])):=rfl
theorem fT{i:Nat}{wi:TI}{g:Bk->TG}{tt:Bk->TT}{te:Bk->TE}{nt:Nat}{ci:List Nat}:fe i wi g tt te nt ci D σ H=wi σ H fun J H1=>∀acc,H1 acc=none->∀bk:Bk,b6 J (g bk) (tt bk) (te bk) nt ci σ acc (fun H'=>D.nx (σ.set i (some (.ref acc))) H') (upd H1 acc (.lst [])):=rfl
theorem rS{Q:Bool->Hp->Prop}:lp σ H Q=Q true H:=rfl
theorem jK{x:V}{T k:String}(hk:cm K H x k)(hT:isiT.contains T=true)(hf:∀k',cm K H x k'->k'=k):j4 K [x,.ty T] H Q=Q (.bl (cR k T)) H:=
 propext ⟨by rintro ⟨_,_,k',e,_,h2,q⟩;cases e;rw [hf k' h2] at q;exact q,by intro q;exact ⟨x,T,k,rfl,hT,hk,q⟩⟩
theorem r_isi_int_str{i:Int}:j4 K [.int i,.ty "str"] H Q=Q (.bl false) H:=(jK (T:="str") .int (by decide +kernel) (fun k h=>by cases h;rfl)).trans (by rw [show cR "int" "str"=false by decide +kernel])
theorem r_isi_str_str{x:Str}:j4 K [.str x,.ty "str"] H Q=Q (.bl true) H:=(jK (T:="str") .str (by decide +kernel) (fun k h=>by cases h;rfl)).trans (by rw [show cR "str" "str"=true by decide +kernel])
end
end L2
variable {H:Hp}
namespace L2
open PySem PySem.Spec PyProof.Rows
section
variable {H:Hp} {Q:VK} {σ:St} {D:bO} {K:PySem.W.Frag}
theorem rQ{a:Addr}{lo hi:Option Int}:uP K (.ref a) lo hi H Q=∃xs,SqT K H a xs/\¬(HT.sIx xs.length 0 lo=0/\HT.sIx xs.length xs.length hi=xs.length)/\∀p,H p=none->Q (.ref p) (upd H p (.tup (cH xs lo hi))):=propext ⟨by rintro ⟨_,xs,e1,h⟩;cases e1;exact ⟨xs,h⟩,by rintro ⟨xs,h⟩;exact ⟨_,xs,rfl,h⟩⟩
theorem rE{x:V}{p:Addr}:rIn K false x (.ref p) H Q=∃xs,(SqL K H p xs\/SqT K H p xs)/\bb x=true/\xs.all bb=true/\Q (.bl (inV x xs)) H:=propext ⟨by rintro ⟨_,xs,e1,h⟩;cases e1;exact ⟨xs,h⟩,by rintro ⟨xs,h⟩;exact ⟨_,xs,rfl,h⟩⟩
end
theorem Paired.get{α β:Type}{F:α->β->Prop}:∀{l₁:List α} {l₂:List β} {i:Nat} {a:α},Paired F l₁ l₂->l₁[i]?=some a->∃b,l₂[i]?=some b/\F a b
 | _,_,_,_,.nil,e=>by simp at e
 | _,_,0,_,.cons h _,e=>by simp at e;subst e;exact ⟨_,rfl,h⟩
 | _,_,i+1,a,.cons _ t,e=>by
  obtain ⟨b,h1,h2⟩:=Paired.get (i:=i) (a:=a) t (by simpa using e)
  exact ⟨b,by simpa using h1,h2⟩
theorem Paired.getR{α β:Type}{F:α->β->Prop}:∀{l₁:List α} {l₂:List β} {i:Nat} {b:β},Paired F l₁ l₂->l₂[i]?=some b->∃a,l₁[i]?=some a/\F a b
 | _,_,_,_,.nil,e=>by simp at e
 | _,_,0,_,.cons h _,e=>by simp at e;subst e;exact ⟨_,rfl,h⟩
 | _,_,i+1,b,.cons _ t,e=>by
  obtain ⟨a,h1,h2⟩:=Paired.getR (i:=i) (b:=b) t (by simpa using e)
  exact ⟨a,by simpa using h1,h2⟩
theorem Same.updM{H0:Hp}{p:Addr}{o:HO}(s:Same H0 H)(h:H0 p=none):Same H0 (L2.upd H p o):=fun b u e=>by rw [ap (au e h)];exact s b u e
theorem Same.updN{H0 H:Hp}{p:Addr}{o:HO}(s:Same H0 H)(h:H p=none):Same H0 (L2.upd H p o):=s.updM (s.free h)
theorem i0{b:Bool}{A B:Prop}(h1:b=true->A)(h2:b=false->B):if b=true then A else B:=by
 cases b
 ·rw [if_neg Bool.false_ne_true];exact h2 rfl
 ·rw [if_pos rfl];exact h1 rfl
theorem lO{CX:CXT}{P:Program}{w:World}{K:PySem.W.Frag}{mg:Str->Option Value}{base:Heap}{N:List Str}{qual:Str}{scope:Scope}{f:Addr}{cd:Value}{A:Around}{outer:List Env}{s:Shared}{E:XK}:(iS CX P w K mg base N qual scope f cd A outer s H E).K=K:=rfl
theorem pd{X:Cx}{E:Value->Shared->Prop}:(X.wish E).K=X.K:=rfl
theorem qS{X:Cx}{N':List Str}{scope:Scope}{b:Bk}:(X.blk N' scope b).K=X.K:=rfl
theorem nD{o:Option V}{ci:List Nat}{σ:St}:aD [o] ci σ=none :: o :: ci.map fun i=>(σ[i]?).join:=rfl
theorem nE{o o':Option V}{ci:List Nat}{σ:St}:aD [o,o'] ci σ=none :: o :: o' :: ci.map fun i=>(σ[i]?).join:=rfl
theorem eW{n k:Nat}{P:Prop}(h:¬HT.sIx n 0 (some (k:Int))=0):¬(HT.sIx n 0 (some (k:Int))=0/\P):=fun z=>h z.1
def sD:V->Bool
 | .str _=>true
 | _=>false
theorem d7{n:Str}:∀{ns:List Str},inV (.str n) (ns.map V.str)=decide (n∈ns)
 | []=>by simp [inV]
 | m :: ns=>by
  have ih:=d7 (n:=n) (ns:=ns)
  unfold inV at ih ⊢
  rw [List.map_cons,List.any_cons,ih]
  have e:eqV (.str m) (.str n)=decide (m=n):=by unfold eqV;rfl
  rw [e]
  by_cases h1:m=n
  ·subst h1;simp
  ·have h2:¬n=m:=fun z=>h1 z.symm
   simp [h1,h2]
theorem fL:∀{ns:List Str},(ns.map V.str).all bb=true
 | []=>rfl
 | n :: ns=>by rw [List.map_cons,List.all_cons,fL];rfl
section
variable {K:PySem.W.Frag} {tt:TT} {te:TE} {ci:List Nat} {σ:St} {acc:Addr} {Q:Hp->Prop} {H1:Hp} {a:Addr} {xs:List V}
theorem kG(p:V->Bool)(f:V->V){x:V}{ys:List V}{H:Hp}{os:List (Option V)}{i:Nat}{Pv:Nat->List V->Hp->Prop}(ho:os.length=1)(hi:xs[i]?=some x)
  (hp:∀Q',Q' (p x) H->tt (aD [some x] ci σ) H Q') (hf:∀Q',p x=true->Q' (f x) H->te (aD [some x] ci σ) H Q') (hacc:H acc=some (.lst ys)) (hlen:ys.length < sizeLine)
  (h1:p x=true->Pv (i+1) (ys ++ [f x]) (upd H acc (.lst (ys ++ [f x])))) (h2:p x=false->Pv (i+1) ys H) :
  aS 1 x (aD os ci σ) H fun σ1 H1=>(∃os',os'.length=1/\σ1=aD os' ci σ)/\tt σ1 H1 fun b H2=>
   if b=true then te σ1 H2 fun z H3=>H3 acc=some (.lst ys)/\ys.length < sizeLine/\Pv (i+1) (ys ++ [z]) (upd H3 acc (.lst (ys ++ [z]))) else Pv (i+1) ys H2:=by
 have e:(aD os ci σ).set 1 (some x)=aD [some x] ci σ:=by
  match os,ho with
  | [o],_=>rfl
 show (∃os',os'.length=1/\(aD os ci σ).set 1 (some x)=aD os' ci σ)/\tt ((aD os ci σ).set 1 (some x)) H _
 rw [e]
 refine ⟨⟨[some x],rfl,rfl⟩,hp _ ?_⟩
 cases hb:p x with
 | true=>rw [if_pos rfl];exact hf _ hb ⟨hacc,hlen,h1 hb⟩
 | false=>rw [if_neg Bool.false_ne_true];exact h2 hb
theorem bm{p:V->Bool}{f:V->V}{xs:List V}{i:Nat}{x:V}(hi:xs[i]?=some x):((xs.take (i+1)).filter p).map f=((xs.take i).filter p).map f ++ (if p x=true then [f x] else []):=by
 obtain ⟨h,e⟩:=List.getElem?_eq_some_iff.mp hi
 rw [List.take_succ_eq_append_getElem h,e,List.filter_append,List.map_append]
 congr 1
 cases hb:p x <;> simp [hb]
theorem hX{p:V->Bool}{f:V->V}{xs:List V}{i:Nat}{x:V}(hi:xs[i]?=some x)(hz:xs.length<=sizeLine):(((xs.take i).filter p).map f).length < sizeLine:=by
 obtain ⟨h,e⟩:=List.getElem?_eq_some_iff.mp hi
 rw [List.length_map]
 have:=List.length_filter_le p (xs.take i)
 rw [List.length_take] at this
 omega
theorem gp{J:It}(p:V->Bool)(f:V->V)(hz:xs.length<=sizeLine)(hacc:H1 acc=none)
 (hJ:∀(Pv:Nat->List V->Hp->Prop),Pv 0 [] (upd H1 acc (.lst []))->(∀i ys H,Pv i ys H->∃ys',H=upd H1 acc (.lst ys'))->
 (∀(i:Nat)x ys H os,xs[i]?=some x->os.length=1->Pv i ys H->aS 1 x (aD os ci σ) H fun σ1 H1=>(∃os',os'.length=1/\σ1=aD os' ci σ)/\tt σ1 H1 fun b H2=>
 if b=true then te σ1 H2 fun z H3=>H3 acc=some (.lst ys)/\ys.length < sizeLine/\Pv (i+1) (ys ++ [z]) (upd H3 acc (.lst (ys ++ [z]))) else Pv (i+1) ys H2)->
 (∀ys H,Pv xs.length ys H->Q H)->b6 J (aS 1) tt te 1 ci σ acc Q (upd H1 acc (.lst [])))
 (hp:∀x∈xs,∀H Q',Same H1 H->Q' (p x) H->tt (aD [some x] ci σ) H Q') (hf:∀x∈xs,∀H Q',Same H1 H->p x=true->Q' (f x) H->te (aD [some x] ci σ) H Q')
 (q:Q (upd H1 acc (.lst ((xs.filter p).map f)))):b6 J (aS 1) tt te 1 ci σ acc Q (upd H1 acc (.lst [])):=by
 refine hJ (fun i ys H=>ys=((xs.take i).filter p).map f/\H=upd H1 acc (.lst ys)) ⟨by simp,rfl⟩ (fun i ys H h=>⟨ys,h.2⟩) ?_ ?_
 ·rintro i x ys H os hi ho ⟨rfl,rfl⟩
  have hm:=List.mem_of_getElem? hi
  refine kG (xs:=xs) (Pv:=fun i ys H=>ys=((xs.take i).filter p).map f/\H=upd H1 acc (.lst ys)) p f ho hi (fun Q' h=>hp x hm _ _ (Same.upd hacc) h) (fun Q' hb h=>hf x hm _ _ (Same.upd hacc) hb h) ae (hX hi hz) (fun hb=>?_) (fun hb=>?_)
  ·rw [bm hi,if_pos hb];exact ⟨rfl,by rw [qK]⟩
  ·rw [bm hi,if_neg (by rw [hb];exact Bool.false_ne_true),List.append_nil];exact ⟨rfl,rfl⟩
 ·rintro ys H ⟨rfl,rfl⟩
  rw [List.take_length]
  exact q
theorem lJ(p:V->Bool)(f:V->V)(hz:xs.length<=sizeLine)(hl:SqL K H1 a xs)(hacc:H1 acc=none)
  (hp:∀x∈xs,∀H Q',Same H1 H->Q' (p x) H->tt (aD [some x] ci σ) H Q') (hf:∀x∈xs,∀H Q',Same H1 H->p x=true->Q' (f x) H->te (aD [some x] ci σ) H Q')
  (q:Q (upd H1 acc (.lst ((xs.filter p).map f)))):b6 (Itl K a) (aS 1) tt te 1 ci σ acc Q (upd H1 acc (.lst [])):=
 gp p f hz hacc (fun Pv h0 hH hs hd=>cY Pv h0 (fun i ys H _ h=>by obtain ⟨ys',rfl⟩:=hH i ys H h;exact (Same.upd hacc).seq hl) hs hd) hp hf q
theorem lL(p:V->Bool)(f:V->V)(hz:xs.length<=sizeLine)(hl:SqT K H1 a xs)(hacc:H1 acc=none)
  (hp:∀x∈xs,∀H Q',Same H1 H->Q' (p x) H->tt (aD [some x] ci σ) H Q') (hf:∀x∈xs,∀H Q',Same H1 H->p x=true->Q' (f x) H->te (aD [some x] ci σ) H Q')
  (q:Q (upd H1 acc (.lst ((xs.filter p).map f)))):b6 (Itt K a) (aS 1) tt te 1 ci σ acc Q (upd H1 acc (.lst [])):=
 gp p f hz hacc (fun Pv h0 hH hs hd=>sr Pv h0 (fun i ys H _ h=>by obtain ⟨ys',rfl⟩:=hH i ys H h;exact (Same.upd hacc).seqT hl) hs hd) hp hf q
theorem lK{lo:Int}{n:Nat}(p:Int->Bool)(f:Int->V)(hz:n<=sizeLine)(hacc:H1 acc=none)
 (hp:∀i:Nat,i < n->∀H Q',Same H1 H->Q' (p (lo+i)) H->tt (aD [some (.int (lo+i))] ci σ) H Q') (hf:∀i:Nat,i < n->∀H Q',Same H1 H->p (lo+i)=true->Q' (f (lo+i)) H->te (aD [some (.int (lo+i))] ci σ) H Q')
 (q:Q (upd H1 acc (.lst (((List.range n).filter fun i:Nat=>p (lo+i)).map fun i:Nat=>f (lo+i))))):b6 (Itr lo n) (aS 1) tt te 1 ci σ acc Q (upd H1 acc (.lst [])):=by
 have hx:∀(i:Nat),i < n->((List.range n).map fun k:Nat=>V.int (lo+k))[i]?=some (.int (lo+i)):=fun i hi=>by simp [hi]
 have key:=gp (xs:=(List.range n).map fun k:Nat=>V.int (lo+k)) (J:=Itr lo n) (tt:=tt) (te:=te) (ci:=ci) (σ:=σ) (acc:=acc) (Q:=Q) (H1:=H1)
  (fun x=>match x with | .int i=>p i | _=>false) (fun x=>match x with | .int i=>f i | _=>.non) (by simpa using hz) hacc
  (fun Pv h0 hH hs hd=>eL Pv h0 (fun i ys H os hi ho h=>hs i _ ys H os (hx i hi) ho h) (fun ys H h=>hd ys H (by simpa using h)))
  (fun x hm H Q' sm h=>by
   obtain ⟨k,hk,rfl⟩:=List.mem_map.mp hm
   exact hp k (List.mem_range.mp hk) H Q' sm h)
  (fun x hm H Q' sm hb h=>by
   obtain ⟨k,hk,rfl⟩:=List.mem_map.mp hm
   exact hf k (List.mem_range.mp hk) H Q' sm hb h)
 refine key ?_
 have e:(((List.range n).map fun k:Nat=>V.int (lo+k)).filter (fun x=>match x with | .int i=>p i | _=>false)).map (fun x=>match x with | .int i=>f i | _=>.non)=((List.range n).filter fun i:Nat=>p (lo+i)).map fun i:Nat=>f (lo+i):=by
  rw [List.filter_map,List.map_map]
  rfl
 rw [e]
 exact q
end
end L2
namespace FB
open PySem L2
inductive Opd where
 | box (n:Str)
 | word (i:Int)
 deriving DecidableEq
def Opd.v:Opd->V
 | .box n=>.str n
 | .word i=>.int i
inductive Deed where
 | tell (a:Opd)
 | copy (d:Str) (a:Opd)
 | op (f d:Str) (a b:Opd)
 deriving DecidableEq
def opsL:List Str:=["plus","less","and","or","xor","below","same"]
def Deed.vs:Deed->List V
 | .tell a=>[.str "tell",a.v]
 | .copy d a=>[.str "copy",.str d,a.v]
 | .op f d a b=>[.str f,.str d,a.v,b.v]
def Deed.fine:Deed->Prop
 | .op f _ _ _=>f∈opsL
 | _=>True
def Deed.writes:Deed->List Str
 | .tell _=>[]
 | .copy d _=>[d]
 | .op _ d _ _=>[d]
def Deed.tells:Deed->Bool
 | .tell _=>true
 | _=>false
end FB
namespace L2
open PySem PySem.Spec PyProof.Rows
section
variable {X:Cx}
theorem dD:∀{ns:List Str} {us:List Value},Vals (ns.map V.str) us->StrsAre us ns
 | [],_,r=>by cases r;exact .nil
 | n :: ns,_,r=>by
  cases r with
  | cons r0 rr=>
   obtain ⟨t,rfl⟩:=r0
   exact StrsAre.cons _ _ (dD rr)
def qY(K:PySem.W.Frag):V->List V->Hp->VK->Prop:=fun x vs H Q=>∃(z:Str)(p:Addr)(ys:List Str),x=.str z/\vs=[.ref p]/\SqL K H p (ys.map V.str)/\(ys.map (·.length)).sum+ys.length * z.length<=16777216/\Q (.str (Txt.join z ys)) H
theorem pQ:MtR X "str.join" (qY X.K):=by
 intro pins s σ H x vs v us Q I rx rv h
 obtain ⟨z,p,ys,rfl,rfl,hq,hz,q⟩:=h
 obtain ⟨t,rfl⟩:=rx
 obtain ⟨u,rfl,ru⟩:=rv.one
 cases ru
 obtain ⟨its,r,pl,_⟩:=I.list hq
 exact join_list pl.isList (by simpa using dD r) hz fun t' k=>⟨.str _,H,I.tok _,⟨_,rfl⟩,q⟩
theorem kf{pins:List (Addr×Obj)}{σ:St}{H:Hp}{s:Shared}(I:Inv X pins σ H s):(s.heap.objs.size == sysModules)=false:=by
 have:=I.big
 simp only [beq_eq_false_iff_ne,ne_eq]
 exact fun e=>by rw [e] at this;exact absurd this (Nat.lt_irrefl _)
theorem cW:bT X (.type "dict") (fun xs H Q=>∃p kvs,xs=[.ref p]/\Rd H p (.dK kvs)/\∀l,H l=none->Q (.ref l) (upd H l (.dK kvs))):=by
 intro pins s σ H xs us Q I r h
 obtain ⟨p,kvs,rfl,hq,q⟩:=h
 obtain ⟨u,rfl,rx⟩:=ee r
 cases rx
 obtain ⟨z,hd,vs,rel,dd⟩:=d0 I.hok hq
 refine kt_call_dict hd dd (by rw [<- rel.length];exact z) fun h' hm hs=>?_
 have hk:∀b o,s.heap.get? b=some o->h'.get? b=some o:=fun b o e=>(hs.2 b (Nat.ne_of_lt (Heap.lt_size e))).trans (Heap.get?_push_of_some _ e)
 exact ⟨.ref s.heap.objs.size,_,I.laid (t':=s.toks) hk (Nat.le_refl _) (gu z (kf I) rel hm),rfl,q _ (I.hok.fresh (Nat.le_refl _))⟩
def tV:V->List V->Hp->VK->Prop:=fun x vs H Q=>∃p kvs,x=.ref p/\vs=[]/\Rd H p (.dK kvs)/\∀l,H l=none->Q (.ref l) (upd H l (.dK kvs))
def pK(ka kb:List (Key×V)):Bool:=ka.length == kb.length && ka.all fun kv=>match aY kb kv.1 with | none=>false | some y=>eqV kv.2 y
theorem vj{kvs:List (Key×V)}{vs:List (Key×Value)}(r:KV kvs vs)(k:Key):(aY kvs k=none/\valueAt vs k=none)\/∃v u,aY kvs k=some v/\valueAt vs k=some u/\RelV v u:=by
 induction r with
 | nil=>exact .inl ⟨rfl,rfl⟩
 | @cons a b l1 l2 h t ih=>
  obtain ⟨h1,h2⟩:=h
  by_cases e:a.1=k
  ·refine .inr ⟨a.2,b.2,b3 e,?_,h2⟩
   unfold valueAt
   rw [List.find?_cons]
   simp [h1.symm.trans e]
  ·rw [b2 e]
   have e':valueAt (b :: l2) k=valueAt l2 k:=by
    unfold valueAt
    rw [List.find?_cons]
    have:¬b.1=k:=fun z=>e (h1.trans z)
    simp [this]
   rw [e']
   exact ih
theorem jy{A:Around}{s:Shared}{kb:List (Key×V)}{wb:List (Key×Value)}(rb:KV kb wb)(fb:kb.all (fun kv=>bb kv.2)=true):∀{ka:List (Key×V)} {wa:List (Key×Value)},KV ka wa->ka.all (fun kv=>bb kv.2)=true->
  PySem.W.KeqHits A s wb wa (ka.all fun kv=>match aY kb kv.1 with | none=>false | some y=>eqV kv.2 y)
 | _,_,.nil,_=>.nil
 | a :: ka,b :: wa,.cons ⟨h1,h2⟩ t,hf=>by
  rw [List.all_cons,Bool.and_eq_true] at hf
  rw [List.all_cons]
  rcases vj rb a.1 with ⟨e1,e2⟩ | ⟨v,u,e1,e2,r⟩
  ·rw [e1]
   obtain ⟨k,y⟩:=b
   have hk:a.1=k:=h1
   subst hk
   rw [Bool.false_and]
   exact .miss e2
  ·rw [e1]
   obtain ⟨k,y⟩:=b
   have hk:a.1=k:=h1
   subst hk
   refine .hit e2 ?_ (jy rb fb t hf.2)
   have fv:bb v=true:=by
    have hm:∃kv∈kb,kv.2=v:=by
     unfold aY at e1
     obtain ⟨kv,hkv,e⟩:=Option.map_eq_some_iff.mp e1
     exact ⟨kv,List.mem_of_find?_eq_some hkv,e⟩
    obtain ⟨kv,hm,rfl⟩:=hm
    exact List.all_eq_true.mp fb kv hm
   exact iT h2 r hf.1 fv
def qx:R2:=fun x y H Q=>∃a b ka kb,x=.ref a/\y=.ref b/\Rd H a (.dK ka)/\Rd H b (.dK kb)/\ka.all (fun kv=>bb kv.2)=true/\kb.all (fun kv=>bb kv.2)=true/\Q (.bl (pK ka kb)) H
theorem kX(hu:X.A.units < cLine):OpR X (compareOp .Eq) qx:=by
 intro pins s σ H x y v u Q I rx ry h
 obtain ⟨a,b,ka,kb,rfl,rfl,ha,hb,fa,fb,q⟩:=h
 cases rx;cases ry
 obtain ⟨za,hda,va,ra,da⟩:=d0 I.hok ha
 obtain ⟨zb,hdb,vb,rb,db⟩:=d0 I.hok hb
 refine PySem.W.keq_eq hda hdb da db hu (fun _=>jy rb fb ra fa) ?_
 rw [<- ra.length,<- rb.length]
 exact ⟨.bl _,H,I,rfl,q⟩
theorem kF{ka:List (Key×V)}(hn:(ka.map (·.1)).Nodup)(hf:ka.all (fun kv=>bb kv.2)=true):pK ka ka=true:=by
 unfold pK
 rw [beq_self_eq_true,Bool.true_and,List.all_eq_true]
 intro kv hm
 have e:aY ka kv.1=some kv.2:=by
  clear hf
  induction ka with
  | nil=>cases hm
  | cons p r ih=>
   rw [List.map_cons,List.nodup_cons] at hn
   rcases List.mem_cons.mp hm with rfl | hm
   ·exact b3 rfl
   ·rw [b2 (fun z=>hn.1 (by rw [z];exact List.mem_map.mpr ⟨kv,hm,rfl⟩))]
    exact ih hn.2 hm
 rw [e]
 exact hC (List.all_eq_true.mp hf kv hm)
end
end L2
variable {H:Hp} {sc:Scope} {σ:St}
namespace L2
open PySem PySem.Spec PyProof.Rows
section
variable {X:Cx} {x:Str} {p pos:Pos} {e:Expr} {es:List Expr} {t:TA} {id T:String} {r:List V->Hp->VK->Prop}
theorem qv(i:Nat){x:Str}{pos:Pos}(hv:Vis X.env.scope x)(hN:X.N[i]?=some x:=by rfl)(hd:(x == ("__debug__":Str))=false:=by kernel_rfl) (hcd:(x == ("__classdict__":Str))=false:=by kernel_rfl):PE X (.Name x pos) (ue i):=tz hN hv hd hcd
theorem vl{x:Str}(h:sc.names.lookup x=some .local:=by kernel_rfl):Vis sc x:=.inl h
theorem vc{x:Str}(h:sc.names.lookup x=some .cell:=by kernel_rfl):Vis sc x:=.inr (.inl h)
theorem ll{x:Str}(h:sc.names.lookup x=some .local:=by kernel_rfl):Loc sc x:=.inl h
theorem lc{x:Str}(h:sc.names.lookup x=some .cell:=by kernel_rfl):Loc sc x:=.inr h
theorem gl{X:Cx}{x:Str}(h:X.env.scope.names.lookup x=some .globalImplicit:=by kernel_rfl):Gl X x:=h
theorem gB{x:Str}(h:(x == ("__name__":Str))=false:=by kernel_rfl):x≠"__name__":=fun z=>by subst z;exact absurd h (by decide +kernel)
theorem ny(hc:bT X (.builtin id) r)(hg:Gl X x)(hm:X.mg x=none)(hv:bootBuiltins x=some (.builtin id))(ha:PA X (e :: es) t)(hn:(x == ("__name__":Str))=false:=by kernel_rfl) (hdb:(x == ("__debug__":Str))=false:=by kernel_rfl)
  (he:starEach (e :: es) X.env=(false,eval e X.env) :: starEach es X.env:=by rfl) (hpl:(backTo pos (starEach es X.env)).any (·.1)=false:=by rfl):PE X (.Call (.Name x p) (e :: es) [] pos) (tCB r t):=mX hc hg hm hv ha (gB hn) hdb he hpl
theorem l8(hc:bT X (.type T) r)(hg:Gl X x)(hm:X.mg x=none)(hv:bootBuiltins x=some (.type T))(ha:PA X (e :: es) t)(hn:(x == ("__name__":Str))=false:=by kernel_rfl) (hdb:(x == ("__debug__":Str))=false:=by kernel_rfl)
  (he:starEach (e :: es) X.env=(false,eval e X.env) :: starEach es X.env:=by rfl) (hpl:(backTo pos (starEach es X.env)).any (·.1)=false:=by rfl):PE X (.Call (.Name x p) (e :: es) [] pos) (tCB r t):=kZ hc hg hm hv ha (gB hn) hdb he hpl
theorem qu{x:Str}{v:V}{u:Value}{pos:Pos}(hg:Gl X x)(hm:X.mg x=none)(hv:bootBuiltins x=some u)(r:RelV v u)(hn:(x == ("__name__":Str))=false:=by kernel_rfl) (hd:(x == ("__debug__":Str))=false:=by kernel_rfl):PE X (.Name x pos) (tC v):=qa hg hm hv r (gB hn) hd
theorem nz{k:Nat}{f:Addr}{fd:FuncData}{ps:List Str}{sp:Sp}{x:Str}{st:Stmt}{p pos:Pos}{e:Expr}{es:List Expr}{t:TA}(D:aR X.K X.mg x st ps f fd)(G:FnOk X.prog X.w X.K X.mg X.base CX0 k f fd ps sp)(hr:Room k X.A)
  (ha:PA X (e :: es) t) (hg:Gl X x) (hdb:(x == ("__debug__":Str))=false:=by kernel_rfl) (he:starEach (e :: es) X.env=(false,eval e X.env) :: starEach es X.env:=by rfl) (hpl:(backTo pos (starEach es X.env)).any (·.1)=false:=by rfl) :
  PE X (.Call (.Name x p) (e :: es) [] pos) (iI sp [] E0 t):=mY D G hr ha hg hdb he hpl
def iR:Expr->Option V
 | .Constant (.int i) _ _=>some (.int i)
 | .Constant (.str x) _ _=>some (.str x)
 | .Constant (.bool b) _ _=>some (.bl b)
 | .Constant .none _ _=>some .non
 | _=>none
def eu:List Expr->Option (List V)
 | []=>some []
 | e :: es=>(iR e).bind fun v=>(eu es).map fun vs=>v :: vs
def tVs(vs:List V):TA:=fun _ H Q=>Q vs H
theorem kz{e:Expr}{v:V}(h:iR e=some v):PE X e (tC v)/\∀es,starEach (e :: es) X.env=(false,eval e X.env) :: starEach es X.env:=by
 unfold iR at h
 split at h
 ·cases h;exact ⟨ng,fun _=>rfl⟩
 ·cases h;exact ⟨nk,fun _=>rfl⟩
 ·cases h;exact ⟨qX,fun _=>rfl⟩
 ·cases h;exact ⟨ni,fun _=>rfl⟩
 ·cases h
theorem i9:∀{es:List Expr} {vs:List V},eu es=some vs->PA X es (tVs vs)
 | [],_,h=>by cases h;exact mW
 | e :: es,vs,h=>by
  unfold eu at h
  obtain ⟨v,h1,h2⟩:=Option.bind_eq_some_iff.mp h
  obtain ⟨ws,h3,h4⟩:=Option.map_eq_some_iff.mp h2
  subst h4
  obtain ⟨p1,p2⟩:=kz (X:=X) h1
  exact jF p1 (i9 h3) (p2 es)
theorem uR{vs:List V}{Z:List V->Hp->Prop}:tVs vs σ H Z=Z vs H:=rfl
theorem nX{z:Str}{p:Addr}{K:PySem.W.Frag}{Q:VK}:qY K (.str z) [.ref p] H Q=∃ys:List Str,SqL K H p (ys.map V.str)/\(ys.map (·.length)).sum+ys.length * z.length<=16777216/\Q (.str (Txt.join z ys)) H:=propext ⟨by rintro ⟨_,_,ys,e1,e2,h⟩;cases e1;cases e2;exact ⟨ys,h⟩,by rintro ⟨ys,h⟩;exact ⟨_,_,ys,rfl,rfl,h⟩⟩
theorem jY{z:Str}{K:PySem.W.Frag}:tyV K "str" (.str z) H=True:=eq_true (show ("str":String)="str" from rfl)
theorem jN{Q:VK}:jg σ H Q=∀p,H p=none->Q (.ref p) (upd H p (.dK [])):=rfl
theorem nJ{td ty tv:TE}{D:bO}:oG td ty tv D σ H=tv σ H fun v H1=>td σ H1 fun x H2=>ty σ H2 fun y H3=>∃a H4,x=.ref a/\DPut H3 a y v H4/\D.nx σ H4:=rfl
theorem nO{c:Addr}{Z:Addr->Hp->Prop}:(∃a H4,V.ref c=.ref a/\Z a H4)=∃H4,Z c H4:=propext ⟨by rintro ⟨_,H4,e,q⟩;cases e;exact ⟨H4,q⟩,by rintro ⟨H4,q⟩;exact ⟨c,H4,rfl,q⟩⟩
theorem nR{to ti:TE}{ts:lD}{v:V}{Q:St->Hp->Prop}:sy to ti ts v σ H Q=to σ H fun o H1=>ti σ H1 fun i H2=>ts o i v H2 fun H3=>Q σ H3:=rfl
def qI(t u:TS):TS:=fun D σ H=>∃Mid:St->Hp->Prop,t {D with nx:=Mid} σ H/\∀σ' H',Mid σ' H'->u D σ' H'
theorem qo{st:Stmt}{ss:List Stmt}{ta tb:TS}(h1:PS X st ta)(h2:PSs X ss tb):PSs X (st :: ss) (qI ta tb):=by
 intro pins s σ H D I h
 obtain ⟨Mid,a,b⟩:=h
 refine wpAny_execs_cons (thn (h1 pins s σ H {D with nx:=Mid} I a) fun f s1 q=>?_)
 cases f with
 | next=>
  obtain ⟨σ',H',I',q⟩:=q
  exact h2 pins s1 σ' H' D I' (b σ' H' q)
 | ret v=>exact q
 | brk=>exact q
 | cont=>exact q
theorem v8{ta tb:TS}{D:bO}:qI ta tb D σ H=∃Mid:St->Hp->Prop,ta {D with nx:=Mid} σ H/\∀σ' H',Mid σ' H'->tb D σ' H':=rfl
end
end L2
variable {dx:Addr} {f:Str} {ta:TE}
namespace L2
open PySem PySem.Spec PyProof.Rows
structure KlsAt(K:PySem.W.Frag)(mg:Str->Option Value)(x:Str)(C:Addr):Prop where
 cl:Cls K C
 mks:PySem.W.makesIn K C=true
 kp:PySem.W.keepIn K (.ref C)=true
 M:mg x=some (.ref C)
structure c3(K:PySem.W.Frag)(C:Addr)(m qual:Str)(st:Stmt)(ps:List Str)(f:Addr)(fd:FuncData):Prop where
 F:Fun K m qual st f fd
 B:Binds K fd ps []
 M:kr K C m f
theorem KlsAt.make{K:PySem.W.Frag}{mg:Str->Option Value}{x qual:Str}{C f:Addr}{st:Stmt}{ps:List Str}{fd:FuncData}(c:KlsAt K mg x C)(m:c3 K C "__init__" qual st ps f fd):Mk K C f:=⟨c.mks,m.M.at_,m.M.fn,c.kp⟩
section
variable {X:Cx} {k:Nat} {f C:Addr} {fd:FuncData} {ps:List Str} {sp:Sp} {x m qual:Str} {st:Stmt} {p pos apos:Pos} {e o:Expr} {es:List Expr} {ta:TE} {t:TA}
theorem nA(c:KlsAt X.K X.mg x C)(D:c3 X.K C "__init__" qual st ps f fd) (G:FnOk X.prog X.w X.K X.mg X.base CX0 k f fd ps sp) (hr:Room (k+1) X.A)
  (ha:PA X (e :: es) t) (hg:Gl X x) (hdb:(x == ("__debug__":Str))=false:=by kernel_rfl) (he:starEach (e :: es) X.env=(false,eval e X.env) :: starEach es X.env:=by rfl) (hpl:(backTo pos (starEach es X.env)).any (·.1)=false:=by rfl) :
  PE X (.Call (.Name x p) (e :: es) [] pos) (iJ C sp [] E0 t):=qf (c.make D) G hr hg c.M D.B .nil jG ha hdb he hpl
theorem uH{pl:Sem Bool}(c:Cls X.K C)(D:c3 X.K C m qual st ps f fd)(G:FnOk X.prog X.w X.K X.mg X.base CX0 k f fd ps sp)(hr:Room k X.A)(he:PE X o ta)(ha:PA X (e :: es) t)
  (hst:starEach (e :: es) X.env=(false,eval e X.env) :: starEach es X.env:=by rfl) (hpl:(backTo pos (starEach es X.env)).any (·.1)=false:=by rfl)
  (ht:eval (.Call (.Attribute o m apos) (e :: es) [] pos) X.env=(do
   let ov <- eval o X.env
   standAt apos.atName
   let (f,first) <- holding [ov] (getMethod ov m pl)
   callWith pos f first (backTo pos (starEach (e :: es) X.env)) (backToKw pos (keywordEach [] X.env))):=by rfl) :
  PE X (.Call (.Attribute o m apos) (e :: es) [] pos) (dZ C m sp [] E0 ta t):=jH he c D.M G hr D.B .nil jG ha hst hpl ht
theorem la{pl:Sem Bool}(c:Cls X.K C)(D:c3 X.K C m qual st ps f fd)(G:FnOk X.prog X.w X.K X.mg X.base CX0 k f fd ps sp)(hr:Room k X.A)(he:PE X o ta)
  (ht:eval (.Call (.Attribute o m apos) [] [] pos) X.env=(do
   let ov <- eval o X.env
   standAt apos.atName
   let (f,first) <- holding [ov] (getMethod ov m pl)
   callWith pos f first (backTo pos (starEach [] X.env)) (backToKw pos (keywordEach [] X.env))):=by rfl) :
  PE X (.Call (.Attribute o m apos) [] [] pos) (dZ C m sp [] E0 ta lj):=nh he c D.M G hr D.B .nil jG ht
end
section
variable {H:Hp} {Q:VK} {σ:St} {D:bO} {K:PySem.W.Frag}
def lA(K:PySem.W.Frag)(x:V)(f:Str)(y:V)(H:Hp)(Z:Hp->Prop):Prop:=∃a C dx fs,x=.ref a/\H a=some (.ins C dx fs)/\Cls K C/\NoAttr K C f/\fs.length < 1000/\Z (upd H a (.ins C dx (bH f y fs)))
def eG(K:PySem.W.Frag)(x:V)(f:Str)(H:Hp)(Q:VK):Prop:=∃a C dx fs v,x=.ref a/\H a=some (.ins C dx fs)/\Cls K C/\NoAttr K C f/\fs.lookup f=some v/\Q v H
def iO(C:Addr)(m:Str)(x:V)(H:Hp)(Z:Prop):Prop:=∃a dx fs,x=.ref a/\H a=some (.ins C dx fs)/\fs.lookup m=none/\Z
def uk(C:Addr)(sp:Sp)(vs:List V)(H:Hp)(Q:VK)(E:XK):Prop:=∀x dx,H x=none->H dx=none->dx≠x->sp (.ref x :: vs) (upd (upd H dx (.own x)) x (.ins C dx [])) (fun v H2=>v=.non/\Q (.ref x) H2) E
theorem oB{tv:TE}:u1 K ta tv f D σ H=tv σ H fun y H1=>ta σ H1 fun x H2=>lA K x f y H2 (D.nx σ):=rfl
theorem nT:u5 K ta f σ H Q=ta σ H fun x H1=>eG K x f H1 Q:=rfl
theorem oq{C:Addr}{m:Str}{sp:Sp}{E:XK}{t:TA}:dZ C m sp [] E ta t σ H Q=ta σ H fun x H1=>iO C m x H1 (t σ H1 fun vs H2=>sp (x :: vs) H2 Q E):=by
 unfold dZ iO;simp only [List.append_nil]
theorem oo{C:Addr}{sp:Sp}{E:XK}{t:TA}:iJ C sp [] E t σ H Q=t σ H fun vs H1=>uk C sp vs H1 Q E:=by
 unfold iJ uk;simp only [List.append_nil]
theorem eO{p C dx:Addr}{fs:List (Str×V)}{f:Str}{y:V}{Z:Hp->Prop}(e:H p=some (.ins C dx fs))(c:Cls K C)(n:NoAttr K C f)(l:fs.length < 1000)(h:Z (upd H p (.ins C dx (bH f y fs)))):lA K (.ref p) f y H Z:=⟨p,C,dx,fs,rfl,e,c,n,l,h⟩
theorem d4{p C dx:Addr}{fs:List (Str×V)}{f:Str}{v:V}(e:H p=some (.ins C dx fs))(c:Cls K C)(n:NoAttr K C f)(l:fs.lookup f=some v)(h:Q v H):eG K (.ref p) f H Q:=⟨p,C,dx,fs,v,rfl,e,c,n,l,h⟩
theorem sL{p C dx:Addr}{fs:List (Str×V)}{m:Str}{Z:Prop}(e:H p=some (.ins C dx fs))(l:fs.lookup m=none)(h:Z):iO C m (.ref p) H Z:=⟨p,dx,fs,rfl,e,l,h⟩
end
end L2
namespace L2
open PySem PySem.Spec PyProof.Rows
section
variable {K:PySem.W.Frag} {h:Heap} {mg:Str->Option Value}
abbrev fnS (x qual:Str) (st:Stmt) (kV doc pm:Value) (an:Option Addr) (cdv ct:Value):FuncData:=PySem.W.fnOf x qual (bK st) (bB st) (aq st) .none kV doc pm an cdv ct
abbrev iM (x qual:Str) (st:Stmt) (ps:List Str):Prop:=∀(kV doc pm:Value)(an:Option Addr)(cdv ct:Value)(us:List Value),us.length=ps.length->bindArgs (fnS x qual st kV doc pm an cdv ct) ⟨us,[]⟩=pure (ps.zip us)
theorem bn{x:Str}{st:Stmt}{ps:List Str}{f:Addr}{oc:Value}{od an:Option Addr}{osl:Array (Option Value)}{kV doc pm cdv ct:Value}(X:K.In h)(G:h.Ns mainGlobals mg)(a:PySem.W.nsIn K mainGlobals x=some (some (.ref f)))
  (l:K.lookup f=some ⟨oc,od,.func (PySem.W.fnOf x x (bK st) (bB st) (aq st) .none kV doc pm an cdv ct),osl⟩) (c:PySem.W.codeIn K cdv x=true) (k:PySem.W.keepIn K (.ref f)=true) (b:iM x x st ps):aR K mg x st ps f (PySem.W.fnOf x x (bK st) (bB st) (aq st) .none kV doc pm an cdv ct):=
 ⟨gv l c k,(gv l c k).binds b,PySem.W.mg_of X G a⟩
theorem sK{C:Addr}{x qual:Str}{st:Stmt}{ps:List Str}{f:Addr}{oc:Value}{od an:Option Addr}{osl:Array (Option Value)}{kV doc pm cdv ct:Value}(a:PySem.W.findIn K (.ref C) x=some (some (.ref f)))(i:PySem.W.isFn K (.ref f)=true)
  (l:K.lookup f=some ⟨oc,od,.func (PySem.W.fnOf x qual (bK st) (bB st) (aq st) .none kV doc pm an cdv ct),osl⟩) (c:PySem.W.codeIn K cdv qual=true) (k:PySem.W.keepIn K (.ref f)=true) (b:iM x qual st ps):c3 K C x qual st ps f (PySem.W.fnOf x qual (bK st) (bB st) (aq st) .none kV doc pm an cdv ct):=
 ⟨gv l c k,(gv l c k).binds b,⟨a,i,k⟩⟩
theorem up{x:Str}{C:Addr}(X:K.In h)(G:h.Ns mainGlobals mg)(a:PySem.W.nsIn K mainGlobals x=some (some (.ref C)))(h1:PySem.W.plainGet K C Str.empty=true)(h2:PySem.W.hasDictIn K C=true)(h3:PySem.W.plainOver K C=true)
  (h4:PySem.W.findIn K (.ref C) "__setattr__"=some (some (.builtin "object.__setattr__"))) (h5:PySem.W.makesIn K C=true) (h6:PySem.W.keepIn K (.ref C)=true):KlsAt K mg x C:=⟨⟨h1,h2,h3,h4⟩,h5,h6,PySem.W.mg_of X G a⟩
end
section
variable {x qual p q r s t u:Str} {st:Stmt}
theorem bn1(h:∀kV doc pm an cdv ct a,bindArgs (fnS x qual st kV doc pm an cdv ct) ⟨[a],[]⟩=pure [(p,a)]):iM x qual st [p]:=fun kV doc pm an cdv ct us hl=>by
 match us,hl with
 | [a],_=>exact h kV doc pm an cdv ct a
theorem bn2(h:∀kV doc pm an cdv ct a b,bindArgs (fnS x qual st kV doc pm an cdv ct) ⟨[a,b],[]⟩=pure [(p,a),(q,b)]):iM x qual st [p,q]:=fun kV doc pm an cdv ct us hl=>by
 match us,hl with
 | [a,b],_=>exact h kV doc pm an cdv ct a b
theorem bn3(h:∀kV doc pm an cdv ct a b c,bindArgs (fnS x qual st kV doc pm an cdv ct) ⟨[a,b,c],[]⟩=pure [(p,a),(q,b),(r,c)]):iM x qual st [p,q,r]:=fun kV doc pm an cdv ct us hl=>by
 match us,hl with
 | [a,b,c],_=>exact h kV doc pm an cdv ct a b c
theorem bn4(h:∀kV doc pm an cdv ct a b c d,bindArgs (fnS x qual st kV doc pm an cdv ct) ⟨[a,b,c,d],[]⟩=pure [(p,a),(q,b),(r,c),(s,d)]):iM x qual st [p,q,r,s]:=fun kV doc pm an cdv ct us hl=>by
 match us,hl with
 | [a,b,c,d],_=>exact h kV doc pm an cdv ct a b c d
theorem bn5(h:∀kV doc pm an cdv ct a b c d e,bindArgs (fnS x qual st kV doc pm an cdv ct) ⟨[a,b,c,d,e],[]⟩=pure [(p,a),(q,b),(r,c),(s,d),(t,e)]):iM x qual st [p,q,r,s,t]:=fun kV doc pm an cdv ct us hl=>by
 match us,hl with
 | [a,b,c,d,e],_=>exact h kV doc pm an cdv ct a b c d e
end
end L2
namespace L2
open PySem PySem.Spec PyProof.Rows
section
variable {X:Cx}
end
end L2
namespace L2
open PySem PySem.Spec PyProof.Rows
section
variable {X:Cx}
end
end L2
namespace L2
open PySem PySem.Spec PyProof.Rows
open AutoSeq1 (wpAny_loadPart')
section
variable {prog:Program} {w:World} {A:Around} {E:Value->Shared->Prop} {s:Shared}
end
end L2
namespace L2
open PySem PySem.Spec PyProof.Rows
section
variable {prog:Program} {w:World} {A:Around} {E:Value->Shared->Prop} {s:Shared}
end
end L2
namespace L2
open PySem PySem.Spec PyProof.Rows
section
variable {g:TG} {tb:TS} {D:bO} {σ:St} {H:Hp}
end
end L2
namespace L2
open PySem PySem.Spec PyProof.Rows
section
variable {prog:Program} {w:World} {A:Around} {E:Value->Shared->Prop} {s:Shared}
end
end L2
namespace L2
open PySem PySem.Spec PyProof.Rows
section
variable {X:Cx}
theorem mz:MtM X "dict.copy" tV:=by
 intro pins s σ H x vs v us Q I rx rv h
 obtain ⟨l,kvs,rfl,rfl,hH,q⟩:=h
 cases rx
 have hus:=rv.zero
 subst hus
 obtain ⟨z,hd,ws,rel,dd⟩:=d0 I.hok hH
 refine call_meetsIn PySem.F.slot_dict_copy dd.typeIs PySem.F.entry_dict_copy (PySem.F.args_dict_copy_1 _) (meets_dict_copy (aP X.prog X.w) l hd) ⟨ws,dd,by rw [<- rel.length];exact z,fun h' dn _ hk=>?_⟩
 exact ⟨.ref s.heap.objs.size,_,I.laid (t':=s.toks) hk (Nat.le_refl _) (gu z (kf I) rel dn),rfl,q _ (I.hok.fresh (Nat.le_refl _))⟩
def qw:V->List V->Hp->VK->Prop:=fun x vs H Q=>∃l kvs,x=.ref l/\vs=[]/\H l=some (.dK kvs)/\Q .non (upd H l (.dK []))
theorem kQ:MtM X "dict.clear" qw:=by
 intro pins s σ H x vs v us Q I rx rv h
 obtain ⟨l,kvs,rfl,rfl,hH,q⟩:=h
 cases rx
 have hus:=rv.zero
 subst hus
 exact pI I hH fun s' I'=>⟨.non,_,I',rfl,q⟩
end
end L2
namespace L2
open PySem PySem.Spec PyProof.Rows
theorem jM{td ty tx:TE}{σ:St}{H:Hp}{Q:VK}:jf td ty tx σ H Q=td σ H fun x H1=>∃a,x=.ref a/\IsD H1 a/\ty σ H1 fun y H2=>tx σ H2 fun z H3=>∃o,iN H3 a y o/\Q (o.getD z) H3:=rfl
end L2
variable {X:Cx} {apos cpos pos':Pos} {b c i iter o:Expr} {es:List Expr} {f:Addr} {ps:List Str} {sp:Sp} {t:TA} {tA:TT} {ta td te to:TE} {wi:TI}
namespace L2
open PySem PySem.Spec PyProof.Rows
structure XE(X:Cx)(e:Expr)(t:TE):Prop where
 h:PE X e t
structure XT(X:Cx)(e:Expr)(t:TT):Prop where
 h:PT X e t
structure XW(X:Cx)(e:Expr)(t:TT):Prop where
 h:PW X e t
structure XA(X:Cx)(es:List Expr)(t:TA):Prop where
 h:PA X es t
structure XS(X:Cx)(st:Stmt)(t:TS):Prop where
 h:PS X st t
structure XSs(X:Cx)(st:List Stmt)(t:TS):Prop where
 h:PSs X st t
structure XG(X:Cx)(target:Expr)(t:TG):Prop where
 h:PG X target t
structure XGs(X:Cx)(ts:List Expr)(t:TGs):Prop where
 h:PGs X ts t
structure XI(X:Cx)(tg iter:Expr)(wi:TI):Prop where
 h:PI X tg iter wi
structure XO(X:Cx)(e:Option Expr)(t:TO):Prop where
 h:PO X e t
structure pC(X:Cx)(ifs:List Expr)(t:TT):Prop where
 h:kt X ifs t
theorem ab{i j pos}:XE X (.Constant (.int i) j pos) (tC (.int i)):=⟨ng⟩
theorem bq{b j pos}:XE X (.Constant (.bool b) j pos) (tC (.bl b)):=⟨qX⟩
theorem dw{j pos}:XE X (.Constant .none j pos) (tC .non):=⟨ni⟩
theorem aG{x j pos}:XE X (.Constant (.str x) j pos) (tC (.str x)):=⟨nk⟩
theorem ai{X:Cx}{a b:Expr}{tb:TE}{pos:Pos}{op:Operator}{r:R2}(ho:OpR X (binaryOp op) r)(ha:XE X a ta)(hb:XE X b tb):XE X (.BinOp a op b pos) (tOp r ta tb):=⟨uD ho ha.h hb.h⟩
theorem pj{X:Cx}{a:Expr}{pos:Pos}{op:UnaryOp}{r:V->Hp->VK->Prop}(ho:UnR X (unaryOp op) r)(ha:XE X a ta):XE X (.UnaryOp op a pos) (tUn r ta):=⟨uE ho ha.h⟩
theorem br{X:Cx}{a b:Expr}{tb:TE}{pos:Pos}{op:CmpOp}{r:R2}(ho:OpR X (compareOp op) r)(ha:XE X a ta)(hb:XE X b tb)(hm:behindInMarks op b=false):XE X (.Compare a [op] [b] pos) (tOp r ta tb):=⟨qc ho ha.h hb.h hm⟩
theorem gM{X:Cx}{a:Expr}{tb:TE}{pos:Pos}{bQ:List Expr}(ha:XE X a ta)(hb:XE X (.BoolOp .And (b :: bQ) pos) tb):XE X (.BoolOp .And (a :: b :: bQ) pos) (oR ta tb):=⟨t8 ha.h hb.h⟩
theorem ki{X:Cx}{a:Expr}{pos:Pos}{op}{t:TE}(h:XE X a t):XE X (.BoolOp op [a] pos) t:=⟨tq h.h⟩
theorem qL{X:Cx}{a:Expr}{pos:Pos}(ha:XE X a ta):XE X (.UnaryOp .Not a pos) (oX ta):=⟨tm ha.h⟩
theorem bz{X:Cx}{a b:Expr}{tb:TE}{pos:Pos}{c:Expr}(hc:XT X c tA)(ha:XE X a ta)(hb:XE X b tb):XE X (.IfExp c a b pos) (tIf tA ta tb):=⟨nc hc.h ha.h hb.h⟩
theorem aW{X:Cx}{es:List Expr}{pos:Pos}(h:XA X es t):XE X (.List es pos) (u9 t):=⟨tj h.h⟩
theorem b7{X:Cx}{es:List Expr}{pos:Pos}{x1}(h:XA X es t):XE X (.Tuple es x1 pos) (ud t):=⟨tw h.h⟩
theorem dF{pos:Pos}:XE X (.Dict [] [] pos) jg:=⟨n9⟩
theorem az{X:Cx}{x:Str}{p pos:Pos}{e:Expr}{es:List Expr}{id:String}{r:List V->Hp->VK->Prop}(hc:bT X (.builtin id) r)(hg:Gl X x)(hm:X.mg x=none)(hv:bootBuiltins x=some (.builtin id))(ha:XA X (e :: es) t)(hn:(x == ("__name__":Str))=false:=by kernel_rfl) (hdb:(x == ("__debug__":Str))=false:=by kernel_rfl) (he:starEach (e :: es) X.env=(false,eval e X.env) :: starEach es X.env:=by rfl) (hpl:(backTo pos (starEach es X.env)).any (·.1)=false:=by rfl):XE X (.Call (.Name x p) (e :: es) [] pos) (tCB r t):=⟨ny hc hg hm hv ha.h hn hdb he hpl⟩
theorem aO{X:Cx}{x:Str}{p pos:Pos}{e:Expr}{es:List Expr}{T:String}{r:List V->Hp->VK->Prop}(hc:bT X (.type T) r)(hg:Gl X x)(hm:X.mg x=none)(hv:bootBuiltins x=some (.type T))(ha:XA X (e :: es) t)(hn:(x == ("__name__":Str))=false:=by kernel_rfl) (hdb:(x == ("__debug__":Str))=false:=by kernel_rfl) (he:starEach (e :: es) X.env=(false,eval e X.env) :: starEach es X.env:=by rfl) (hpl:(backTo pos (starEach es X.env)).any (·.1)=false:=by rfl):XE X (.Call (.Name x p) (e :: es) [] pos) (tCB r t):=⟨l8 hc hg hm hv ha.h hn hdb he hpl⟩
theorem aj{X:Cx}{k:Nat}{f:Addr}{fd:FuncData}{ps:List Str}{x:Str}{st:Stmt}{p pos:Pos}{e:Expr}{es:List Expr}(D:aR X.K X.mg x st ps f fd)(G:FnOk X.prog X.w X.K X.mg X.base CX0 k f fd ps sp)(hr:Room k X.A)(ha:XA X (e :: es) t)(hg:Gl X x)(hdb:(x == ("__debug__":Str))=false:=by kernel_rfl) (he:starEach (e :: es) X.env=(false,eval e X.env) :: starEach es X.env:=by rfl) (hpl:(backTo pos (starEach es X.env)).any (·.1)=false:=by rfl):XE X (.Call (.Name x p) (e :: es) [] pos) (iI sp [] E0 t):=⟨nz D G hr ha.h hg hdb he hpl⟩
theorem dE{X:Cx}{o e:Expr}{es:List Expr}{name:Str}{cpos:Pos}{T id:String}{r:V->List V->Hp->VK->Prop}(pa:PlainAttrs T)(slot:Slot T name id)(hty:typeOf (.builtin id)=pure (.type "method_descriptor")) (hm:MtR X id r) (ho:XE X o to) (ha:XA X (e :: es) t) (hbase:attributeBase o name X.env (eval o X.env)=eval o X.env:=by rfl) (hfew:((backTo cpos (starEach (e :: es) X.env)).all (fun x=>!x.1) && (backToKw cpos (keywordEach [] X.env)).all (fun x=>x.1.isSome)
 && decide ((e :: es).length+([]:List Keyword).length+(if ([]:List Keyword).isEmpty then 0 else 1) < 30))=true:=by rfl) (hline:(apos.endLine == cpos.line)=true:=by rfl) (hs:starEach (e :: es) X.env=(false,eval e X.env) :: starEach es X.env:=by rfl) (hplain:(backTo cpos (starEach es X.env)).any (·.1)=false:=by rfl):XE X (.Call (.Attribute o name apos) (e :: es) [] cpos) (tBM X.K T r to t):=⟨uB pa slot hty hm ho.h ha.h hbase hfew hline hs hplain⟩
theorem kh{X:Cx}{o:Expr}{name:Str}{T id:String}{r:V->List V->Hp->VK->Prop}(pa:PlainAttrs T)(slot:Slot T name id)(hty:typeOf (.builtin id)=pure (.type "method_descriptor")) (hm:MtR X id r) (ho:XE X o to) (hbase:attributeBase o name X.env (eval o X.env)=eval o X.env:=by rfl) (hline:(apos.endLine == cpos.line)=true:=by rfl):XE X (.Call (.Attribute o name apos) [] [] cpos) (u4 X.K T r to):=⟨t9 pa slot hty hm ho.h hbase hline⟩
theorem bA{X:Cx}{e:Expr}{lo hi:Option Expr}{tl th:TO}{pos p2:Pos}{r:V->Option Int->Option Int->Hp->VK->Prop}(hr:SlR X r)(he:XE X e te)(hl:XO X lo tl)(hu:XO X hi th):XE X (.Subscript e (.Slice lo hi none p2) pos) (tSl r te tl th):=⟨nj hr he.h hl.h hu.h⟩
theorem bD{X:Cx}{o i:Expr}{pos:Pos}{ty:TE}(hu:X.A.units+1 < cLine)(ho:XE X o td)(hi:XE X i ty)(hs:si i):XE X (.Subscript o i pos) (oU td ty):=⟨qe hu ho.h hi.h hs⟩
theorem lu{X:Cx}{o e f:Expr}{apos:Pos}{ty tx:TE}(hu:X.A.units+1 < cLine)(ho:XE X o td)(he:XE X e ty)(hf:XE X f tx)(m:M2 X o "get" apos e f cpos):XE X (.Call (.Attribute o "get" apos) [e,f] [] cpos) (jf td ty tx):=⟨n6 hu ho.h he.h hf.h m⟩
theorem al{X:Cx}{a b:Expr}{tb:TE}{pos:Pos}{r:R2}(hr:IxR X r)(ha:XE X a ta)(hb:XE X b tb)(hs:jp b):XE X (.Subscript a b pos) (tOp r ta tb):=⟨uC hr ha.h hb.h hs⟩
theorem b9{X:Cx}{e:Expr}{f:Str}{pos:Pos}(he:XE X e ta)(hb:attributeBase e f X.env (eval e X.env)=eval e X.env):XE X (.Attribute e f pos) (u5 X.K ta f):=⟨tf he.h hb⟩
theorem cE{X:Cx}{elt iter tgt:Expr}{ifs:List Expr}{pos:Pos}{scope:Scope}{g:Bk->TG}{tt:Bk->TT}{te:Bk->TE}{tns cns:List Str}{ci:List Nat}(hc:X.calm=true)(S:CompSc X scope cns ci)(hi:XI X tgt iter wi)(hg:∀bk:Bk,XG (X.blk (".0" :: (tns ++ cns)) scope bk) tgt (g bk)) (ht:∀bk:Bk,pC (X.blk (".0" :: (tns ++ cns)) scope bk) ifs (tt bk)) (he:∀bk:Bk,XE (X.blk (".0" :: (tns ++ cns)) scope bk) elt (te bk)) (hs:∀v,foldedSetIterable iter X.env v=pure v:=by intro _;rfl):XE X (.ListComp elt [⟨tgt,iter,ifs,0⟩] scope pos) (je wi g tt te tns.length ci):=⟨mZ hc S hi.h (fun bk=>(hg bk).h) (fun bk=>(ht bk).h) (fun bk=>(he bk).h) hs⟩
theorem bG{X:Cx}{x:Str}{v:V}{u:Value}{pos:Pos}(hg:Gl X x)(hm:X.mg x=none)(hv:bootBuiltins x=some u)(r:RelV v u)(hn:(x == ("__name__":Str))=false:=by kernel_rfl) (hd:(x == ("__debug__":Str))=false:=by kernel_rfl):XE X (.Name x pos) (tC v):=⟨qu hg hm hv r hn hd⟩
theorem ao{X:Cx}{a b:Expr}{tb:TE}{pos:Pos}{op:CmpOp}{r:R2}(ho:OpR X (compareOp op) r)(ha:XE X a ta)(hb:XE X b tb)(hm:behindInMarks op b=false):XT X (.Compare a [op] [b] pos) (oZ (tOp r ta tb)):=⟨qr ho ha.h hb.h hm⟩
theorem bu{X:Cx}{e:Expr}{t:TE}(h:XE X e t)(he:∀whole,isTrue e X.env whole=(do let v <- whole;standAt e.pos;holding [v] (truthy v)):=by intro _;rfl):XT X e (tB t):=⟨tQ h.h he⟩
theorem c1{X:Cx}{a:Expr}{pos:Pos}(ha:XT X a tA):XT X (.UnaryOp .Not a pos) (ua tA):=⟨tP ha.h⟩
theorem cU{X:Cx}{e:Expr}{t:TT}(h:XW X e t):XT X e t:=⟨PW.pt h.h⟩
theorem qQ{X:Cx}{a:Expr}{pos:Pos}{tB':TT}{bQ:List Expr}(ha:XT X a tA)(hb:XW X (.BoolOp .And (b :: bQ) pos) tB'):XW X (.BoolOp .And (a :: b :: bQ) pos) (u3 tA tB'):=⟨tS ha.h hb.h⟩
theorem pv{X:Cx}{a:Expr}{pos:Pos}(ha:XT X a tA):XW X (.BoolOp .And [a] pos) tA:=⟨qt ha.h⟩
theorem cz{X:Cx}{a:Expr}{pos:Pos}{tB':TT}{bQ:List Expr}(ha:XT X a tA)(hb:XW X (.BoolOp .Or (b :: bQ) pos) tB'):XW X (.BoolOp .Or (a :: b :: bQ) pos) (tOr tA tB'):=⟨uG ha.h hb.h⟩
theorem cF{X:Cx}{a:Expr}{pos:Pos}(ha:XT X a tA):XW X (.BoolOp .Or [a] pos) tA:=⟨tU ha.h⟩
theorem ad:XA X [] lj:=⟨mW⟩
theorem aa{X:Cx}{e:Expr}{es:List Expr}(ha:XE X e te)(hr:XA X es t)(hs:starEach (e :: es) X.env=(false,eval e X.env) :: starEach es X.env:=by rfl):XA X (e :: es) (oT te t):=⟨jF ha.h hr.h hs⟩
theorem cc:XO X none gL:=⟨qj⟩
theorem bE{X:Cx}{e:Expr}(h:XE X e te):XO X (some e) (oY te):=⟨qk h.h⟩
theorem aI{pos:Pos}{i:Nat}{x:Str}(hN:X.N.Nodup)(hi:X.N[i]?=some x)(hx:Loc X.env.scope x)(hf:X.fn x=true\/X.env.scope.names.lookup x=some .local:=by first | exact .inl rfl | exact .inr rfl | assumption):XG X (.Name x pos) (aS i):=⟨jI hN hi hx hf⟩
theorem qN{X:Cx}{pos:Pos}{es:List Expr}{k:Nat}{t:TGs}{n:Nat}(hc:X.calm=true)(h:XGs X es t)(hn:(assignEach es X.env).length=n:=by rfl)(hst:(assignEach es X.env).findIdx? (·.1)=none:=by rfl):XG X (.Tuple es k pos) (sB X.K n t):=⟨tG hc h.h hn hst⟩
theorem pk:XGs X [] sw:=⟨qg⟩
theorem gi{X:Cx}{e:Expr}{es:List Expr}{t:TG}{u:TGs}(h1:XG X e t)(h2:XGs X es u)(hs:(assignEach (e :: es) X.env).map (·.2)=assign e X.env :: (assignEach es X.env).map (·.2):=by rfl):XGs X (e :: es) (lX t u):=⟨nn h1.h h2.h hs⟩
theorem qM{X:Cx}{pos:Pos}{o i:Expr}{ti:TE}{t:lD}(ho:XE X o to)(hi:XE X i ti)(hs:sk X t)(ha:∀v,assign (.Subscript o i pos) X.env v=(do
 let ov <- holding [v] (eval o X.env)
 let iv <- holding [v,ov] (eval i X.env)
 standAt pos
 holding [v,ov,iv] (setItem ov iv v)
 release [v,ov,iv] []):=by intro _;rfl):XG X (.Subscript o i pos) (sy to ti t):=⟨tF ho.h hi.h hs ha⟩
theorem aV{X:Cx}{tg:Expr}{a:Expr}{ta:TA}{p pos:Pos}(hg:Gl X "range") (hm:X.mg "range"=none) (ha:XA X [a] ta) (hs:starEach [a] X.env=[(false,eval a X.env)]:=by rfl):XI X tg (.Call (.Name "range" p) [a] [] pos) (m5 ta):=⟨l5 hg hm ha.h hs⟩
theorem jl{X:Cx}{tg:Expr}{a b:Expr}{ta:TA}{p pos:Pos}(hg:Gl X "range") (hm:X.mg "range"=none) (ha:XA X [a,b] ta) (hs:starEach [a,b] X.env=[(false,eval a X.env),(false,eval b X.env)]:=by rfl) (hs2:starEach [b] X.env=[(false,eval b X.env)]:=by rfl):XI X tg (.Call (.Name "range" p) [a,b] [] pos) (m6 ta):=⟨l6 hg hm ha.h hs hs2⟩
theorem bj{X:Cx}{tg:Expr}{l:Expr}{tl:TE}(hl:XE X l tl):XI X tg l (m4 X.K tl):=⟨qi hl.h⟩
theorem qO{X:Cx}{tg:Expr}{l:Expr}{tl:TE}(hl:XE X l tl):XI X tg l (sC X.K tl):=⟨tI hl.h⟩
theorem ar{X:Cx}{pos:Pos}{i:Nat}{x:Str}{e:Expr}(hN:X.N.Nodup)(hi:X.N[i]?=some x)(hx:Loc X.env.scope x)(he:XE X e te)(hs:swapsWith e (some (.Name x pos')) pos.line X.env=pure false:=by rfl)(hf:X.fn x=true\/X.env.scope.names.lookup x=some .local:=by first | exact .inl rfl | exact .inr rfl | assumption):XS X (.Assign [.Name x pos'] e pos) (oS te (aS i)):=⟨tO hN hi hx he.h hs hf⟩
theorem bo{X:Cx}{i:Nat}{x:Str}{px:Pos}{elt iter tgt:Expr}{ifs:List Expr}{pos:Pos}{scope:Scope}{g:Bk->TG}{tt:Bk->TT}{te:Bk->TE}{tns cns:List Str}{ci:List Nat}(hN:X.N.Nodup)(hx:X.N[i]?=some x)(hl:Loc X.env.scope x)(hf:X.fn x=true)(hsw:swapsWith (.ListComp elt [⟨tgt,iter,ifs,0⟩] scope pos) (some (.Name x px)) pos'.line X.env=pure true)(hc:X.calm=true)(S:CompSc X scope cns ci)(hi:XI X tgt iter wi)(hg:∀bk:Bk,XG (X.blk (".0" :: (tns ++ cns)) scope bk) tgt (g bk)) (ht:∀bk:Bk,pC (X.blk (".0" :: (tns ++ cns)) scope bk) ifs (tt bk)) (he:∀bk:Bk,XE (X.blk (".0" :: (tns ++ cns)) scope bk) elt (te bk)) (hs:∀v,foldedSetIterable iter X.env v=pure v:=by intro _;rfl):XS X (.Assign [.Name x px] (.ListComp elt [⟨tgt,iter,ifs,0⟩] scope pos) pos') (fe i wi g tt te tns.length ci):=⟨j3 hN hx hl hf hsw hc S hi.h (fun bk=>(hg bk).h) (fun bk=>(ht bk).h) (fun bk=>(he bk).h) hs⟩
theorem qP{X:Cx}{pos:Pos}{tg e:Expr}{g:TG}(he:XE X e te)(hg:XG X tg g)(hs:swapsWithSole [tg] e pos.line X.env=pure false:=by rfl)(hw:swappedStores [tg] e X.env=pure none:=by rfl)(h1:(assignEach [tg] X.env).map (·.2)=[assign tg X.env]:=by rfl):XS X (.Assign [tg] e pos) (oS te g):=⟨tK he.h hg.h hs hw h1⟩
theorem bt{X:Cx}{o value:Expr}{f:Str}{pos:Pos}{tv:TE}(ha:XE X o ta)(hv:XE X value tv)(hs:swapsWith value (some (.Attribute o f pos')) pos.line X.env=pure false):XS X (.Assign [.Attribute o f pos'] value pos) (u1 X.K ta tv f):=⟨tL ha.h hv.h hs⟩
theorem ce{X:Cx}{o i value:Expr}{pos:Pos}{ty tv:TE}(hu:X.A.units+1 < cLine)(ho:XE X o td)(hi:XE X i ty)(hv:XE X value tv)(hs:swapsWith value (some (.Subscript o i pos')) pos.line X.env=pure false):XS X (.Assign [.Subscript o i pos'] value pos) (oG td ty tv):=⟨ql hu ho.h hi.h hv.h hs⟩
theorem am{X:Cx}{e:Expr}{pos:Pos}(he:XE X e te):XS X (.Return (some e) pos) (uc te):=⟨tN he.h⟩
theorem bF{X:Cx}{e:Expr}{pos:Pos}(he:XE X e te)(hs:swapsWith e none pos.line X.env=pure false:=by rfl):XS X (.Expr e pos) (oV te):=⟨qm he.h hs⟩
theorem aE{X:Cx}{t u:TS}{pos:Pos}{c:Expr}{a b:List Stmt}{tc:TT}(hc:XT X c tc)(ha:XSs X a t)(hb:XSs X b u):XS X (.If c a b pos) (u8 tc t u):=⟨uF hc.h ha.h hb.h⟩
theorem lz{X:Cx}{pos:Pos}{c:Expr}{body:List Stmt}{tc:TT}{tb:TS}(hp:PassesOwn (model X.prog X.w) X.A X.env X.xe)(hc:XT X c tc)(hb:XSs X body tb):XS X (.While c body [] pos) (jh tc tb):=⟨nv hp hc.h hb.h⟩
theorem ba{X:Cx}{tg:Expr}{iter:Expr}{body:List Stmt}{g:TG}{tb:TS}{pos:Pos}(hp:PassesOwn (model X.prog X.w) X.A X.env X.xe)(hc:X.calm=true)(hi:XI X tg iter wi)(hg:XG X tg g)(hb:XSs X body tb)(hs:∀x,foldedSetIterable iter X.env x=pure x:=by intro _;rfl):XS X (.For tg iter body [] pos) (u6 wi g tb):=⟨tM hp hc hi.h hg.h hb.h hs⟩
theorem av:XSs X [] oW:=⟨qp⟩
theorem ag{X:Cx}{st:Stmt}{t:TS}(h1:XS X st t):XSs X [st] t:=⟨qq h1.h⟩
theorem ac{X:Cx}{st:Stmt}{bQ:List Stmt}{t u:TS}(h1:XS X st t)(h2:XSs X bQ u):XSs X (st :: bQ) (qJ t u):=⟨nw h1.h h2.h⟩
theorem bd{X:Cx}{st:Stmt}{ss:List Stmt}{ta tb:TS}(h1:XS X st ta)(h2:XSs X ss tb):XSs X (st :: ss) (qI ta tb):=⟨qo h1.h h2.h⟩
theorem bZ:pC X [] lp:=⟨tD⟩
theorem kj{X:Cx}{c:Expr}{t:TT}(h:XT X c t):pC X [c] t:=⟨tE h.h⟩
theorem vm{X:Cx}{CX:CXT}{k:Nat}{f C:Addr}{fd:FuncData}{ps:List Str}{dvs:List V}{ds:List Value}{E:XK}{m:Str}{pos:Pos}{e o:Expr}{es:List Expr}{pl:Sem Bool}(he:XE X o ta)(c:Cls X.K C)(hm:kr X.K C m f)(F:FnOk X.prog X.w X.K X.mg X.base CX k f fd ps sp)(hr:Room k X.A)(hb:Binds X.K fd ps ds)(hd:Vals dvs ds)(hx:cn CX X E)(ha:XA X (e :: es) t)(hst:starEach (e :: es) X.env=(false,eval e X.env) :: starEach es X.env:=by rfl)(hpl:(backTo pos (starEach es X.env)).any (·.1)=false:=by rfl)(ht:eval (.Call (.Attribute o m apos) (e :: es) [] pos) X.env=(do
 let ov <- eval o X.env
 standAt apos.atName
 let (f,first) <- holding [ov] (getMethod ov m pl)
 callWith pos f first (backTo pos (starEach (e :: es) X.env)) (backToKw pos (keywordEach [] X.env))):=by rfl):XE X (.Call (.Attribute o m apos) (e :: es) [] pos) (dZ C m sp dvs E ta t):=⟨jH he.h c hm F hr hb hd hx ha.h hst hpl ht⟩
theorem gj{X:Cx}{k:Nat}{f C:Addr}{fd:FuncData}{ps:List Str}{x qual:Str}{st:Stmt}{p pos:Pos}{e:Expr}{es:List Expr}(c:KlsAt X.K X.mg x C)(D:c3 X.K C "__init__" qual st ps f fd) (G:FnOk X.prog X.w X.K X.mg X.base CX0 k f fd ps sp) (hr:Room (k+1) X.A) (ha:XA X (e :: es) t) (hg:Gl X x) (hdb:(x == ("__debug__":Str))=false:=by kernel_rfl) (he:starEach (e :: es) X.env=(false,eval e X.env) :: starEach es X.env:=by rfl) (hpl:(backTo pos (starEach es X.env)).any (·.1)=false:=by rfl):XE X (.Call (.Name x p) (e :: es) [] pos) (iJ C sp [] E0 t):=⟨nA c D G hr ha.h hg hdb he hpl⟩
theorem jm{X:Cx}{k:Nat}{f C:Addr}{fd:FuncData}{ps:List Str}{m qual:Str}{st:Stmt}{pos:Pos}{o:Expr}{pl:Sem Bool}(c:Cls X.K C)(D:c3 X.K C m qual st ps f fd)(G:FnOk X.prog X.w X.K X.mg X.base CX0 k f fd ps sp)(hr:Room k X.A)(he:XE X o ta)(ht:eval (.Call (.Attribute o m apos) [] [] pos) X.env=(do
 let ov <- eval o X.env
 standAt apos.atName
 let (f,first) <- holding [ov] (getMethod ov m pl)
 callWith pos f first (backTo pos (starEach [] X.env)) (backToKw pos (keywordEach [] X.env))):=by rfl):XE X (.Call (.Attribute o m apos) [] [] pos) (dZ C m sp [] E0 ta lj):=⟨la c D G hr he.h ht⟩
theorem bw{es:List Expr}{vs:List V}(h:eu es=some vs):XA X es (tVs vs):=⟨i9 h⟩
end L2
namespace L2
open PySem PySem.Spec PyProof.Rows
end L2
namespace L2
open PySem PySem.Spec PyProof.Rows
section
variable {X:Cx}
end
section
variable {X:Cx} {e:Expr} {x:Str} {p apos cpos:Pos} {ty:TE} {a:Addr} {kvs:List (Key×V)} {pr:Params}
end
end L2
namespace L2
open PySem PySem.Spec PyProof.Rows
section
variable {prog:Program} {w:World} {A:Around} {E:Value->Shared->Prop} {s:Shared}
open AutoSeq1 (wpAny_loadPart') in
end
section
variable {K:PySem.W.Frag} {a:Addr} {xs:List V}
end
section
variable {K:PySem.W.Frag} {a b:Addr} {H:Hp} {Q:VK}
end
end L2
namespace L2
open PySem PySem.Spec PyProof.Rows
section
variable {M:Model} {A:Around} {E:Value->Shared->Prop} {s:Shared}
end
end L2
variable {H:Hp} {Q:VK} {a0 a1 a10 a11 a12 a13 a14 a2 a3 a4 a5 a6 a7 a8 a9:Option V} {i:Int} {r:St}
namespace L2
open PySem PySem.Spec PyProof.Rows
def qG:Nat->St->Option V
 | 0,o :: _=>o
 | n+1,_ :: r=>qG n r
 | _,[]=>none
theorem iG:∀{n:Nat} {σ:St} {v:V},qG n σ=some v->σ[n]?=some (some v)
 | 0,o :: _,v,h=>by rw [show qG 0 (o :: _)=o from rfl] at h;rw [h];rfl
 | n+1,_ :: r,v,h=>by rw [List.getElem?_cons_succ];exact iG h
 | 0,[],_,h=>by cases h
 | _+1,[],_,h=>by cases h
def c4(i:Nat):TE:=fun σ H Q=>match qG i σ with
 | some v=>Q v H
 | none=>False
theorem qR{i:Nat}{σ:St}{H:Hp}(h:c4 i σ H Q):ue i σ H Q:=by
 unfold c4 at h
 split at h
 ·next v e=>exact ⟨v,iG e,h⟩
 ·exact h.elim
theorem yqv{X:Cx}(i:Nat){x:Str}{pos:Pos}(hv:Vis X.env.scope x)(hN:X.N[i]?=some x:=by rfl)(hd:(x == ("__debug__":Str))=false:=by kernel_rfl) (hcd:(x == ("__classdict__":Str))=false:=by kernel_rfl):XE X (.Name x pos) (c4 i):=
 ⟨fun pins s σ H Q I h=>qv i hv hN hd hcd pins s σ H Q I (qR h)⟩
def yI0(g:Int->Int->V):R2:=fun x y H Q=>match x,y with
 | .int i,.int j=>Q (g i j) H
 | _,_=>False
def yI(C:Int->Int->Prop)(g:Int->Int->V):R2:=fun x y H Q=>match x,y with
 | .int i,.int j=>C i j/\Q (g i j) H
 | _,_=>False
def yU(g:Int->V):V->Hp->VK->Prop:=fun x H Q=>match x with
 | .int i=>Q (g i) H
 | _=>False
theorem cA{g:Int->Int->V}{x y:V}{H:Hp}(h:yI0 g x y H Q):rI0 g x y H Q:=by
 unfold yI0 at h
 split at h
 ·exact ⟨_,_,rfl,rfl,h⟩
 ·exact h.elim
theorem iL{C:Int->Int->Prop}{g:Int->Int->V}{x y:V}{H:Hp}(h:yI C g x y H Q):rI C g x y H Q:=by
 unfold yI at h
 split at h
 ·exact ⟨_,_,rfl,rfl,h⟩
 ·exact h.elim
theorem vn{g:Int->V}{x:V}{H:Hp}(h:yU g x H Q):rU g x H Q:=by
 unfold yU at h
 split at h
 ·exact ⟨_,rfl,h⟩
 ·exact h.elim
section
variable {X:Cx}
theorem OpR.le{f:Value->Value->Sem Value}{r r':R2}(h:OpR X f r)(le:∀{x y:V} {H:Hp} {Q:VK},r' x y H Q->r x y H Q):OpR X f r':=fun pins s σ H x y v u Q I rx ry q=>h pins s σ H x y v u Q I rx ry (le q)
theorem aQ:OpR X (binaryOp .Add) (yI0 fun i j=>.int (i+j)):=OpR.le sS cA
theorem dy:OpR X (binaryOp .Sub) (yI0 fun i j=>.int (i - j)):=OpR.le t0 cA
theorem aZ:OpR X (binaryOp .Mult) (yI CMul fun i j=>.int (i * j)):=OpR.le sW iL
theorem aA:OpR X (binaryOp .Mod) (yI (fun _ j=>0 < j) fun i j=>.int (i % j)):=OpR.le sV iL
theorem km:OpR X (binaryOp .Pow) (yI kq fun i j=>.int (i ^ j.toNat)):=OpR.le sY iL
theorem cG:OpR X (binaryOp .LShift) (yI kq fun i j=>.int (i * 2 ^ j.toNat)):=OpR.le sZ iL
theorem kl:OpR X (binaryOp .BitAnd) (yI0 fun i j=>.int (Builtin.bitAnd i j)):=OpR.le sT cA
theorem pz:OpR X (binaryOp .BitOr) (yI0 fun i j=>.int (Builtin.bitOr i j)):=OpR.le uA cA
theorem kn:OpR X (binaryOp .BitXor) (yI0 fun i j=>.int (Builtin.bitXor i j)):=OpR.le t7 cA
theorem cV:OpR X (compareOp .Lt) (yI0 fun i j=>.bl (decide (i < j))):=OpR.le uz cA
theorem py:OpR X (compareOp .Gt) (yI0 fun i j=>.bl (decide (j < i))):=OpR.le uy cA
theorem ui:OpR X (compareOp .GtE) (yI0 fun i j=>.bl (decide (j<=i))):=OpR.le ux cA
theorem aH:OpR X (binaryOp .FloorDiv) (yI CDivB fun i j=>.int (i / j)):=OpR.le mS iL
theorem ko:UnR X (unaryOp .USub) (yU fun i=>.int (-i)):=fun pins s σ H x v Q I rx q=>uf pins s σ H x v Q I rx (vn q)
end
section
variable {H:Hp} {Q:VK}
theorem vp{v:V}:c4 0 (some v :: r) H Q=Q v H:=rfl
theorem vq{v:V}:c4 1 (a0 :: some v :: r) H Q=Q v H:=rfl
theorem vt{v:V}:c4 2 (a0 :: a1 :: some v :: r) H Q=Q v H:=rfl
theorem vv{v:V}:c4 3 (a0 :: a1 :: a2 :: some v :: r) H Q=Q v H:=rfl
theorem vw{v:V}:c4 4 (a0 :: a1 :: a2 :: a3 :: some v :: r) H Q=Q v H:=rfl
theorem vx{v:V}:c4 5 (a0 :: a1 :: a2 :: a3 :: a4 :: some v :: r) H Q=Q v H:=rfl
theorem vy{v:V}:c4 6 (a0 :: a1 :: a2 :: a3 :: a4 :: a5 :: some v :: r) H Q=Q v H:=rfl
theorem vz{v:V}:c4 7 (a0 :: a1 :: a2 :: a3 :: a4 :: a5 :: a6 :: some v :: r) H Q=Q v H:=rfl
theorem vA{v:V}:c4 8 (a0 :: a1 :: a2 :: a3 :: a4 :: a5 :: a6 :: a7 :: some v :: r) H Q=Q v H:=rfl
theorem vB{v:V}:c4 9 (a0 :: a1 :: a2 :: a3 :: a4 :: a5 :: a6 :: a7 :: a8 :: some v :: r) H Q=Q v H:=rfl
theorem rX{v:V}:c4 10 (a0 :: a1 :: a2 :: a3 :: a4 :: a5 :: a6 :: a7 :: a8 :: a9 :: some v :: r) H Q=Q v H:=rfl
theorem rY{v:V}:c4 11 (a0 :: a1 :: a2 :: a3 :: a4 :: a5 :: a6 :: a7 :: a8 :: a9 :: a10 :: some v :: r) H Q=Q v H:=rfl
theorem rZ{v:V}:c4 12 (a0 :: a1 :: a2 :: a3 :: a4 :: a5 :: a6 :: a7 :: a8 :: a9 :: a10 :: a11 :: some v :: r) H Q=Q v H:=rfl
theorem sd{v:V}:c4 13 (a0 :: a1 :: a2 :: a3 :: a4 :: a5 :: a6 :: a7 :: a8 :: a9 :: a10 :: a11 :: a12 :: some v :: r) H Q=Q v H:=rfl
theorem se{v:V}:c4 14 (a0 :: a1 :: a2 :: a3 :: a4 :: a5 :: a6 :: a7 :: a8 :: a9 :: a10 :: a11 :: a12 :: a13 :: some v :: r) H Q=Q v H:=rfl
theorem sf{v:V}:c4 15 (a0 :: a1 :: a2 :: a3 :: a4 :: a5 :: a6 :: a7 :: a8 :: a9 :: a10 :: a11 :: a12 :: a13 :: a14 :: some v :: r) H Q=Q v H:=rfl
theorem sg{v:V}{a15:Option V}:c4 16 (a0 :: a1 :: a2 :: a3 :: a4 :: a5 :: a6 :: a7 :: a8 :: a9 :: a10 :: a11 :: a12 :: a13 :: a14 :: a15 :: some v :: r) H Q=Q v H:=rfl
theorem sh{v:V}{a15:Option V}{a16:Option V}:c4 17 (a0 :: a1 :: a2 :: a3 :: a4 :: a5 :: a6 :: a7 :: a8 :: a9 :: a10 :: a11 :: a12 :: a13 :: a14 :: a15 :: a16 :: some v :: r) H Q=Q v H:=rfl
theorem vo{g:Int->Int->V}{j:Int}:yI0 g (.int i) (.int j) H Q=Q (g i j) H:=rfl
theorem y_I{C:Int->Int->Prop}{g:Int->Int->V}{j:Int}:yI C g (.int i) (.int j) H Q=(C i j/\Q (g i j) H):=rfl
theorem y_U{g:Int->V}:yU g (.int i) H Q=Q (g i) H:=rfl
end
end L2
set_option maxHeartbeats 4000000
namespace FA
open PySem L2 PyProof.Rows
theorem CDivB.pow{i:Int}{n:Nat}(h:n < 9000):CDivB i (1 * 2 ^ n):=by
 rw [Int.one_mul]
 refine ⟨Int.pow_pos (by decide),?_⟩
 rw [Int.natAbs_pow]
 show (2 ^ n).log2 < 9000
 rw [Nat.log2_two_pow]
 exact h
def ltr(z:Int):Nat:=97+(z % 26).toNat
def vH(m pl k:Int)(j:Nat):Int:=m / 36+j * j+(if decide ((j:Int)=pl)=true then 1 else 0) * k
def nm(m pl k:Int):Nat->Str
 | 0=>""
 | j+1=>nm m pl k j ++ ⟨#[ltr (vH m pl k j)]⟩
def nms(m:Int)(n:Nat):List Str:=(List.range n).map fun (k:Nat)=>nm m (m / 6 % (1+m % 6)) k (1+m % 6).toNat
theorem uv:∀n:Nat,n < 26->atI ("abcdefghijklmnopqrstuvwxyz":Str).cps.toList (n:Int)=some (97+n):=by decide +kernel
theorem sJ(z:Int):atI ("abcdefghijklmnopqrstuvwxyz":Str).cps.toList (z % 26)=some (ltr z):=by
 have h0:0<=z % 26:=Int.emod_nonneg _ (by decide)
 have h1:z % 26 < 26:=Int.emod_lt_of_pos _ (by decide)
 unfold ltr
 obtain ⟨n,hn⟩:=Int.eq_ofNat_of_zero_le h0
 rw [hn]
 exact uv n (by omega)
end FA
variable {H:Hp} {xs:List V}
namespace L2
open PySem PyProof.Rows
theorem ut{A:Around}{k n:Nat}(h:n<=64)(hr:Room k A):A.units+n < cLine:=Nat.lt_of_le_of_lt (Nat.add_le_add_left h _) hr.units
theorem gr{k:Int}(h:0<=k):cH xs none (some k)=xs.take k.toNat:=by
 obtain ⟨n,rfl⟩:=Int.eq_ofNat_of_zero_le h
 unfold cH
 rw [HT.il,HT.eF,List.drop_zero,Int.toNat_natCast,Nat.sub_zero]
 by_cases hn:n<=xs.length
 ·rw [Nat.min_eq_left hn]
 ·rw [Nat.min_eq_right (by omega),List.take_length,List.take_of_length_le (by omega)]
theorem kB{k:Int}(h:0<=k):cH xs (some k) none=xs.drop k.toNat:=by
 obtain ⟨n,rfl⟩:=Int.eq_ofNat_of_zero_le h
 unfold cH
 rw [HT.il,HT.eF,Int.toNat_natCast]
 by_cases hn:n<=xs.length
 ·rw [Nat.min_eq_left hn,List.take_of_length_le (by simp)]
 ·rw [Nat.min_eq_right (by omega),List.drop_of_length_le (Nat.le_refl _),List.drop_of_length_le (by omega)];simp
theorem lN{k l:Int}(h:0<=k)(h2:0<=l):cH xs (some k) (some l)=(xs.take l.toNat).drop k.toNat:=by
 obtain ⟨n,rfl⟩:=Int.eq_ofNat_of_zero_le h
 obtain ⟨m,rfl⟩:=Int.eq_ofNat_of_zero_le h2
 unfold cH
 rw [HT.eF,HT.eF,Int.toNat_natCast,Int.toNat_natCast]
 by_cases hn:n<=xs.length
 ·rw [Nat.min_eq_left hn]
  by_cases hm:m<=xs.length
  ·rw [Nat.min_eq_left hm,List.drop_take]
  ·rw [Nat.min_eq_right (by omega),List.take_of_length_le (by simp),List.take_of_length_le (by omega)]
 ·rw [Nat.min_eq_right (show xs.length<=n by omega),List.drop_of_length_le (Nat.le_refl _),List.drop_of_length_le (by rw [List.length_take];omega)];simp
section
variable {K:PySem.W.Frag} {te:TE} {ci:List Nat} {σ:St} {acc:Addr} {Q:Hp->Prop} {H1:Hp} {a:Addr} {xs:List V}
theorem cP{α:Type}(xs:List α):xs.filter (fun _=>true)=xs:=by simp
theorem pG(f:V->V)(hz:xs.length<=sizeLine)(hl:SqL K H1 a xs)(hacc:H1 acc=none)(hf:∀x∈xs,∀H Q',Same H1 H->Q' (f x) H->te (aD [some x] ci σ) H Q')
  (q:Q (upd H1 acc (.lst (xs.map f)))):b6 (Itl K a) (aS 1) lp te 1 ci σ acc Q (upd H1 acc (.lst [])):=
 lJ (fun _=>true) f hz hl hacc (fun _ _ _ _ _ h=>h) (fun x hm H Q' s _ h=>hf x hm H Q' s h) (by rw [cP];exact q)
theorem pH(f:V->V)(hz:xs.length<=sizeLine)(hl:SqT K H1 a xs)(hacc:H1 acc=none)(hf:∀x∈xs,∀H Q',Same H1 H->Q' (f x) H->te (aD [some x] ci σ) H Q')
  (q:Q (upd H1 acc (.lst (xs.map f)))):b6 (Itt K a) (aS 1) lp te 1 ci σ acc Q (upd H1 acc (.lst [])):=
 lL (fun _=>true) f hz hl hacc (fun _ _ _ _ _ h=>h) (fun x hm H Q' s _ h=>hf x hm H Q' s h) (by rw [cP];exact q)
theorem js{n:Nat}(f:Nat->V)(hz:n<=sizeLine)(hacc:H1 acc=none)(hf:∀i:Nat,i < n->∀H Q',Same H1 H->Q' (f i) H->te (aD [some (.int (i:Int))] ci σ) H Q')
 (q:Q (upd H1 acc (.lst ((List.range n).map f)))):b6 (Itr 0 n) (aS 1) lp te 1 ci σ acc Q (upd H1 acc (.lst [])):=by
 refine lK (fun _=>true) (fun i=>f i.toNat) hz hacc (fun _ _ _ _ _ h=>h) (fun i hi H Q' s _ h=>?_) ?_
 ·rw [Int.zero_add] at h ⊢
  rw [Int.toNat_natCast] at h
  exact hf i hi H Q' s h
 ·rw [cP]
  have e:(fun i:Nat=>f (0+(i:Int)).toNat)=f:=by funext i;rw [Int.zero_add,Int.toNat_natCast]
  rw [e]
  exact q
end
structure TSame(H H':Hp):Prop where
 tup:∀b xs,H b=some (.tup xs)->H' b=some (.tup xs)
 frz:∀b o u,H b=some (.frz o u)->H' b=some (.frz o u)
theorem Same.ts{H H':Hp}(s:Same H H'):TSame H H':=⟨fun b xs e=>s b _ e,fun b o u e=>s b _ e⟩
theorem TSame.trans{H H1 H2:Hp}(a:TSame H H1)(b:TSame H1 H2):TSame H H2:=⟨fun c xs e=>b.tup c xs (a.tup c xs e),fun c o u e=>b.frz c o u (a.frz c o u e)⟩
theorem TSame.updL{H:Hp}{p:Addr}{ys:List V}{o:HO}(h:H p=some (.lst ys)):TSame H (upd H p o):=
 ⟨fun b xs e=>by rw [ap (bp e h (by intro z;cases z))];exact e,fun b o u e=>by rw [ap (bp e h (by intro z;cases z))];exact e⟩
theorem TSame.seqT{K:PySem.W.Frag}{H H':Hp}{a:Addr}(e:TSame H H')(h:SqT K H a xs):SqT K H' a xs:=by
 rcases h with (h | ⟨o,h⟩) | h
 ·exact .inl (.inl (e.tup _ _ h))
 ·exact .inl (.inr ⟨o,e.frz _ _ _ h⟩)
 ·exact .inr h
end L2
namespace FA
open PySem L2
end FA
namespace FL
open PySem L2 PyProof.Rows
def oE(n:Nat):List Int:=(List.range n).map fun i:Nat=>(i:Int)
def jn(b:List Int):Prop:=b≠[]/\b.Pairwise (·<=·)
instance (b:List Int):Decidable (jn b):=by unfold jn;infer_instance
structure pA(n:Nat)(bss:List (List Int)):Prop where
 good:∀b∈bss,jn b
 perm:bss.flatten.Perm (oE n)
instance (n:Nat) (bss:List (List Int)):Decidable (pA n bss):=decidable_of_iff ((∀b∈bss,jn b)/\bss.flatten.Perm (oE n)) ⟨fun ⟨a,b⟩=>⟨a,b⟩,fun h=>⟨h.good,h.perm⟩⟩
theorem pO{n k:Nat}(h:k < n):ixN n (k:Int)=some k:=by
 unfold ixN
 rw [if_pos (by omega),if_pos (by omega),Int.toNat_natCast]
end FL
namespace FL
open PySem L2 PyProof.Rows
theorem Paired.mem{α β:Type}{F:α->β->Prop}:∀{l₁:List α} {l₂:List β},Paired F l₁ l₂->∀a∈l₁,∃b∈l₂,F a b
 | _,_,.nil=>by intro a h;cases h
 | _,_,.cons h t=>by
  intro a hm
  rcases List.mem_cons.mp hm with e | e
  ·subst e;exact ⟨_,List.mem_cons_self ..,h⟩
  ·obtain ⟨b,hb,hf⟩:=Paired.mem t a e
   exact ⟨b,List.mem_cons_of_mem _ hb,hf⟩
theorem Paired.imp{α β:Type}{F G:α->β->Prop}:∀{l₁:List α} {l₂:List β},Paired F l₁ l₂->(∀a∈l₁,∀b∈l₂,F a b->G a b)->Paired G l₁ l₂
 | _,_,.nil,_=>.nil
 | _,_,.cons h t,hi=>.cons (hi _ (List.mem_cons_self ..) _ (List.mem_cons_self ..) h) (Paired.imp t fun a ha b hb=>hi a (List.mem_cons_of_mem _ ha) b (List.mem_cons_of_mem _ hb))
theorem Paired.snoc{α β:Type}{F:α->β->Prop}{a:α}{b:β}(hf:F a b):∀{l₁:List α} {l₂:List β},Paired F l₁ l₂->Paired F (l₁ ++ [a]) (l₂ ++ [b])
 | _,_,.nil=>.cons hf .nil
 | _,_,.cons h t=>.cons h (Paired.snoc hf t)
theorem Paired.of_get{α β:Type}{F:α->β->Prop}:∀{l₁:List α} {l₂:List β},l₁.length=l₂.length->(∀(i:Nat)a b,l₁[i]?=some a->l₂[i]?=some b->F a b)->Paired F l₁ l₂
 | [],[],_,_=>.nil
 | [],_ :: _,h,_=>by simp at h
 | _ :: _,[],h,_=>by simp at h
 | a :: l₁,b :: l₂,h,f=>.cons (f 0 a b rfl rfl) (Paired.of_get (by simpa using h) fun i x y hx hy=>f (i+1) x y hx hy)
section
variable {K:PySem.W.Frag} {te:TE} {ci:List Nat} {σ:L2.St} {acc:Addr} {Q:Hp->Prop} {H1:Hp}
end
section
variable {K:PySem.W.Frag} {H:Hp}
end
end FL
namespace L2
open PySem PySem.Spec PyProof.Rows
section
variable {K:PySem.W.Frag} {tt:TT} {te:TE} {ci:List Nat} {σ:St} {acc:Addr} {Q:Hp->Prop} {H1:Hp} {a:Addr} {xs:List V}
theorem um(p:V->Bool)(f:V->V)(hz:xs.length<=sizeLine)(hl:SqL K H1 a xs)(hacc:H1 acc=none)
  (hp:∀x∈xs,∀H Q',Same H1 H->(∀H',Same H H'->Q' (p x) H')->tt (aD [some x] ci σ) H Q') (hf:∀x∈xs,∀H Q',Same H1 H->p x=true->(∀H',Same H H'->Q' (f x) H')->te (aD [some x] ci σ) H Q')
  (q:∀H,Same H1 H->H acc=some (.lst ((xs.filter p).map f))->Q H):b6 (Itl K a) (aS 1) tt te 1 ci σ acc Q (upd H1 acc (.lst [])):=by
 refine cY (fun i ys H=>ys=((xs.take i).filter p).map f/\Same H1 H/\H acc=some (.lst ys)) ⟨by simp,Same.upd hacc,ae⟩ (fun i ys H _ h=>h.2.1.seq hl) ?_ ?_
 ·rintro i x ys H os hi ho ⟨rfl,sm,ha⟩
  have hm:=List.mem_of_getElem? hi
  have e:(aD os ci σ).set 1 (some x)=aD [some x] ci σ:=by
   match os,ho with
   | [o],_=>rfl
  show (∃os',os'.length=1/\(aD os ci σ).set 1 (some x)=aD os' ci σ)/\tt ((aD os ci σ).set 1 (some x)) H _
  rw [e]
  refine ⟨⟨[some x],rfl,rfl⟩,hp x hm _ _ sm fun H2 s2=>?_⟩
  cases hb:p x with
  | true=>
   rw [if_pos rfl]
   refine hf x hm _ _ (sm.trans s2) hb fun H3 s3=>⟨s3 _ _ (s2 _ _ ha),hX hi hz,?_,((sm.trans s2).trans s3).updM hacc,ae⟩
   rw [bm hi,if_pos hb]
  | false=>
   rw [if_neg Bool.false_ne_true]
   refine ⟨?_,sm.trans s2,s2 _ _ ha⟩
   rw [bm hi,if_neg (by rw [hb];exact Bool.false_ne_true),List.append_nil]
 ·rintro ys H ⟨rfl,sm,ha⟩
  rw [List.take_length] at ha
  exact q H sm ha
theorem bX(p:Nat->Bool)(f:Nat->V)(i:Nat):((List.range (i+1)).filter p).map f=((List.range i).filter p).map f ++ (if p i=true then [f i] else []):=by
 rw [List.range_succ,List.filter_append,List.map_append]
 congr 1
 cases hb:p i <;> simp [hb]
theorem lM{n:Nat}(p:Nat->Bool)(f:Nat->V)(hz:n<=sizeLine)(hacc:H1 acc=none)
  (hp:∀i:Nat,i < n->∀H Q',Same H1 H->(∀H',Same H H'->Q' (p i) H')->tt (aD [some (.int (i:Int))] ci σ) H Q') (hf:∀i:Nat,i < n->∀H Q',Same H1 H->p i=true->(∀H',Same H H'->Q' (f i) H')->te (aD [some (.int (i:Int))] ci σ) H Q')
  (q:∀H,Same H1 H->H acc=some (.lst (((List.range n).filter p).map f))->Q H):b6 (Itr 0 n) (aS 1) tt te 1 ci σ acc Q (upd H1 acc (.lst [])):=by
 refine eL (fun i ys H=>ys=((List.range i).filter p).map f/\Same H1 H/\H acc=some (.lst ys)) ⟨by simp,Same.upd hacc,ae⟩ ?_ ?_
 ·rintro i ys H os hi ho ⟨rfl,sm,ha⟩
  rw [show (0:Int)+(i:Int)=(i:Int) by omega]
  have e:(aD os ci σ).set 1 (some (.int (i:Int)))=aD [some (.int (i:Int))] ci σ:=by
   match os,ho with
   | [o],_=>rfl
  show (∃os',os'.length=1/\(aD os ci σ).set 1 (some (.int (i:Int)))=aD os' ci σ)/\tt ((aD os ci σ).set 1 (some (.int (i:Int)))) H _
  rw [e]
  refine ⟨⟨[some (.int (i:Int))],rfl,rfl⟩,hp i hi _ _ sm fun H2 s2=>?_⟩
  have hl:(((List.range i).filter p).map f).length < sizeLine:=by
   rw [List.length_map]
   have:=List.length_filter_le p (List.range i)
   rw [List.length_range] at this
   omega
  cases hb:p i with
  | true=>
   rw [if_pos rfl]
   refine hf i hi _ _ (sm.trans s2) hb fun H3 s3=>⟨s3 _ _ (s2 _ _ ha),hl,?_,((sm.trans s2).trans s3).updM hacc,ae⟩
   rw [bX,if_pos hb]
  | false=>
   rw [if_neg Bool.false_ne_true]
   refine ⟨?_,sm.trans s2,s2 _ _ ha⟩
   rw [bX,if_neg (by rw [hb];exact Bool.false_ne_true),List.append_nil]
 ·rintro ys H ⟨rfl,sm,ha⟩
  exact q H sm ha
end
end L2
namespace FD
open PySem L2 PyProof.Rows
def eV(c k:Int):Int:=
 if 10 ^ Int.toNat 40<=c then (c - 10 ^ Int.toNat 40) / (1 * 2 ^ (31 * (k % 60)).toNat) % (1 * 2 ^ Int.toNat 31)
 else (c * 1103515245+7919 * k * k+k) % 2147483647 * ((c * 1103515245+7919 * k * k+k) % 2147483647) % 2147483629 * 69621 % 2147483587
theorem mt(c k:Int):0<=eV c k:=by
 unfold eV
 split
 ·exact Int.emod_nonneg _ (by decide)
 ·exact Int.emod_nonneg _ (by decide)
def atF(ns:List Int)(k:Int):Int:=if k < ns.length then ns.getD k.toNat 0 else 0
theorem lE{ns:List Int}{k:Int}(h:∀z∈ns,Builtin.Int.intBits z<=2 ^ 20):Builtin.Int.intBits (atF ns k)<=2 ^ 20:=by
 unfold atF
 have z0:Builtin.Int.intBits 0<=2 ^ 20:=by decide
 split
 ·rw [List.getD_eq_getElem?_getD]
  cases e:ns[k.toNat]? with
  | none=>exact z0
  | some z=>exact h z (List.mem_of_getElem? e)
 ·exact z0
def bg(n:Int):List Int:=(List.range (1+n % 6).toNat).map fun k:Nat=>n / ((k:Int)+1) % 26
def cu(z:Int):Str:=⟨#[FA.ltr z]⟩
def jD(n:Int)(j:Nat):Str:=Txt.join "" ((List.range (bg n).length).map fun k:Nat=>cu ((bg n).getD k 0+3 * (j:Int) * (if decide ((k:Int)=n / 64 % ((bg n).length:Int))=true then 1 else 0)))
def kw8:List Str:=["tell","if","end","plus","in","box","while","else"]
def cS(n:Int)(m:Nat):List Str:=if n / 512 % 4=0 then kw8.take m else (List.range m).map fun j=>jD n j
theorem fm{n:Int}{m:Nat}(h:m<=8):(cS n m).length=m:=by
 unfold cS
 split
 ·rw [List.length_take];show min m 8=m;omega
 ·simp
theorem gJ(n:Int):(bg n).length=(1+n % 6).toNat:=by unfold bg;simp
end FD
namespace L2
open PySem PyProof.Rows
end L2
variable {kvs:List (Key×V)}
namespace FG
open PySem L2 PyProof.Rows
structure IntD(kvs:List (Key×V)):Prop where
 nd:(kvs.map (·.1)).Nodup
 nums:∀kv∈kvs,∃i,kv.2=.int i
theorem IntD.nil:IntD []:=⟨List.nodup_nil,fun kv h=>by cases h⟩
theorem IntD.put(h:IntD kvs)(k:Key)(i:Int):IntD (bi kvs k (.int i)):=by
 by_cases hk:(kvs.any fun kv=>decide (kv.1=k))=true
 ·have e:bi kvs k (.int i)=kvs.map (fun kv=>if kv.1=k then (kv.1,.int i) else kv):=by unfold bi;rw [if_pos hk]
  rw [e]
  refine ⟨?_,fun kv hm=>?_⟩
  ·have e2:(kvs.map (fun kv=>if kv.1=k then (kv.1,V.int i) else kv)).map (·.1)=kvs.map (·.1):=by
    rw [List.map_map]
    refine List.map_congr_left fun kv _=>?_
    show (if kv.1=k then (kv.1,V.int i) else kv).1=kv.1
    split <;> rfl
   rw [e2];exact h.nd
  ·obtain ⟨kv',hm',rfl⟩:=List.mem_map.mp hm
   show ∃j,(if kv'.1=k then (kv'.1,V.int i) else kv').2=.int j
   split
   ·exact ⟨i,rfl⟩
   ·exact h.nums kv' hm'
 ·have hn:aY kvs k=none:=by
   have:=bc k kvs
   rw [Bool.not_eq_true] at hk
   rw [hk] at this
   exact Option.isNone_iff_eq_none.mp (by rw [Option.isNone_iff_eq_none];cases e:aY kvs k with | none=>rfl | some v=>rw [e] at this;cases this)
  refine ⟨pR _ h.nd hn,fun kv hm=>?_⟩
  rw [ie _ hn] at hm
  rcases List.mem_append.mp hm with z | z
  ·exact h.nums kv z
  ·rw [List.mem_singleton.mp z];exact ⟨i,rfl⟩
theorem IntD.flat(h:IntD kvs):kvs.all (fun kv=>bb kv.2)=true:=by
 rw [List.all_eq_true]
 intro kv hm
 obtain ⟨i,e⟩:=h.nums kv hm
 rw [e];rfl
theorem IntD.self(h:IntD kvs):pK kvs kvs=true:=kF h.nd h.flat
def dt(kvs:List (Key×V))(n:Str):Option Int:=match aY kvs (.inr n) with
 | some (.int i)=>some i
 | _=>none
theorem du{k n:Str}{i:Int}:dt (bi kvs (.inr k) (.int i)) n=if n=k then some i else dt kvs n:=by
 unfold dt
 rw [p8]
 by_cases h:n=k
 ·subst h;rw [if_pos rfl,if_pos rfl]
 ·rw [if_neg (fun z=>h (Sum.inr.inj z)),if_neg h]
end FG
variable {H H':Hp} {f g:List Addr}
namespace FS
open PySem L2 FB PyProof.Rows
inductive Stm where
 | deed (d:Deed)
 | ifs (n:Str) (ones others:List Stm)
 | whl (n:Str) (rows:List Stm)
mutual
inductive StmV (K:PySem.W.Frag) (H:Hp):V->Stm->List Addr->Prop where
 | deed {q:Addr} {d:Deed}:d.fine->SqT K H q d.vs->StmV K H (.ref q) (.deed d) []
 | ifs {q a b:Addr} {n:Str} {xs ys:List V} {ones others:List Stm} {f g:List Addr}:SqT K H q [.str "if",.str n,.ref a,.ref b]->H a=some (.lst xs)->H b=some (.lst ys)->StmsV K H xs ones f->StmsV K H ys others g->
   StmV K H (.ref q) (.ifs n ones others) (a :: b :: (f ++ g))
 | whl {q a:Addr} {n:Str} {xs:List V} {rows:List Stm} {f:List Addr}:SqT K H q [.str "while",.str n,.ref a]->H a=some (.lst xs)->StmsV K H xs rows f->StmV K H (.ref q) (.whl n rows) (a :: f)
inductive StmsV (K:PySem.W.Frag) (H:Hp):List V->List Stm->List Addr->Prop where
 | nil:StmsV K H [] [] []
 | cons {x:V} {s:Stm} {xs:List V} {ss:List Stm} {f g:List Addr}:StmV K H x s f->StmsV K H xs ss g->StmsV K H (x :: xs) (s :: ss) (f ++ g)
end
def Kept(fp:List Addr)(H H':Hp):Prop:=∀a∈fp,∀o,H a=some o->H' a=some o
theorem Kept.left{H:Hp}(h:Kept (f ++ g) H H'):Kept f H H':=fun a ha=>h a (List.mem_append_left _ ha)
theorem Kept.right{H:Hp}(h:Kept (f ++ g) H H'):Kept g H H':=fun a ha=>h a (List.mem_append_right _ ha)
theorem Kept.tail{x:Addr}{H:Hp}(h:Kept (x :: g) H H'):Kept g H H':=fun a ha=>h a (List.mem_cons_of_mem _ ha)
theorem Kept.of{fp:List Addr}{H:Hp}(s:Same H H'):Kept fp H H':=fun a _ o e=>s a o e
theorem Kept.upd{fp:List Addr}{p:Addr}{o:HO}(h:p∉fp):Kept fp H (upd H p o):=fun a ha u e=>by rw [ap (fun z=>h (by rw [<- z];exact ha))];exact e
variable {K:PySem.W.Frag}
mutual
theorem StmV.keep{H:Hp}(t:TSame H H'):∀{x:V} {s:Stm} {f:List Addr},StmV K H x s f->Kept f H H'->StmV K H' x s f
 | _,_,_,.deed hf h,_=>.deed hf (t.seqT h)
 | _,_,_,.ifs (a:=a) (b:=b) h ha hb h1 h2,k=>.ifs (t.seqT h) (k a (by simp) _ ha) (k b (by simp) _ hb) (StmsV.keep t h1 k.tail.tail.left) (StmsV.keep t h2 k.tail.tail.right)
 | _,_,_,.whl (a:=a) h ha h1,k=>.whl (t.seqT h) (k a (by simp) _ ha) (StmsV.keep t h1 k.tail)
theorem StmsV.keep{H:Hp}(t:TSame H H'):∀{xs:List V} {ss:List Stm} {f:List Addr},StmsV K H xs ss f->Kept f H H'->StmsV K H' xs ss f
 | _,_,_,.nil,_=>.nil
 | _,_,_,.cons h1 h2,k=>.cons (StmV.keep t h1 k.left) (StmsV.keep t h2 k.right)
end
theorem StmsV.same{H:Hp}{xs:List V}{ss:List Stm}(h:StmsV K H xs ss f)(s:Same H H'):StmsV K H' xs ss f:=h.keep s.ts (Kept.of s)
theorem StmV.same{H:Hp}{x:V}{s:Stm}(h:StmV K H x s f)(sm:Same H H'):StmV K H' x s f:=h.keep sm.ts (Kept.of sm)
theorem StmsV.length:∀{xs:List V} {ss:List Stm} {f:List Addr},StmsV K H xs ss f->xs.length=ss.length
 | _,_,_,.nil=>rfl
 | _,_,_,.cons _ h=>by rw [List.length_cons,List.length_cons,StmsV.length h]
theorem StmsV.snoc{H:Hp}{y:V}{r:Stm}(hy:StmV K H y r g):∀{xs:List V} {ss:List Stm} {f:List Addr},StmsV K H xs ss f->StmsV K H (xs ++ [y]) (ss ++ [r]) (f ++ g)
 | _,_,_,.nil=>by have:=StmsV.cons hy StmsV.nil;rw [List.append_nil] at this;exact this
 | _,_,_,.cons h1 h2=>by rw [List.append_assoc];exact .cons h1 (StmsV.snoc hy h2)
mutual
theorem StmV.tracked:∀{x:V} {s:Stm} {f:List Addr},StmV K H x s f->∀a∈f,∃zs,H a=some (.lst zs)
 | _,_,_,.deed _ _,a,ha=>by cases ha
 | _,_,_,.ifs (f:=f) (g:=g) h ha hb h1 h2,c,hc=>by
  rcases List.mem_cons.mp hc with rfl | hc
  ·exact ⟨_,ha⟩
  rcases List.mem_cons.mp hc with rfl | hc
  ·exact ⟨_,hb⟩
  rcases List.mem_append.mp hc with hc | hc
  ·exact StmsV.tracked h1 c hc
  ·exact StmsV.tracked h2 c hc
 | _,_,_,.whl h ha h1,c,hc=>by
  rcases List.mem_cons.mp hc with rfl | hc
  ·exact ⟨_,ha⟩
  ·exact StmsV.tracked h1 c hc
theorem StmsV.tracked:∀{xs:List V} {ss:List Stm} {f:List Addr},StmsV K H xs ss f->∀a∈f,∃zs,H a=some (.lst zs)
 | _,_,_,.nil,a,ha=>by cases ha
 | _,_,_,.cons h1 h2,a,ha=>by
  rcases List.mem_append.mp ha with ha | ha
  ·exact StmV.tracked h1 a ha
  ·exact StmsV.tracked h2 a ha
end
theorem StmsV.get:∀{xs:List V} {ss:List Stm} {f:List Addr} {i:Nat} {x:V},StmsV K H xs ss f->xs[i]?=some x->∃s g,ss[i]?=some s/\StmV K H x s g/\∀a∈g,a∈f
 | _,_,_,_,_,.nil,e=>by simp at e
 | _,_,_,0,_,.cons h _,e=>by simp at e;subst e;exact ⟨_,_,rfl,h,fun a ha=>List.mem_append_left _ ha⟩
 | _,_,_,i+1,x,.cons _ t,e=>by
  obtain ⟨s,g,h1,h2,h3⟩:=StmsV.get (i:=i) (x:=x) t (by simpa using e)
  exact ⟨s,g,by simpa using h1,h2,fun a ha=>List.mem_append_right _ (h3 a ha)⟩
theorem fP{α:Type}{l₁ l₂:List α}(h1:l₁.Nodup)(h2:l₂.Nodup)(h:∀a∈l₁,a∉l₂):(l₁ ++ l₂).Nodup:=by
 rw [List.nodup_append]
 exact ⟨h1,h2,fun a ha b hb e=>h a ha (by rw [e];exact hb)⟩
end FS
namespace FP
open PySem L2 FB FS FA PyProof.Rows
variable {K:PySem.W.Frag}
end FP
namespace FS
open PySem L2 FB PyProof.Rows
theorem q9{f k:Str}(h:f∈opsL)(hk:opsL.contains k=false):¬f=k:=by
 rintro rfl
 rw [List.contains_eq_mem,decide_eq_false_iff_not] at hk
 exact hk h
theorem qT{K:PySem.W.Frag}{H:Hp}{q:Addr}{d:Deed}{k:Str}{Z:V->Hp->Prop}(hf:d.fine)(hq:SqT K H q d.vs)(h1:opsL.contains k=false)(h2:¬("tell":Str)=k) (h3:¬("copy":Str)=k) (h:Z (.bl false) H):∃xs v,SqT K H q xs/\atI xs 0=some v/\rEq v (.str k) H Z:=by
 cases d with
 | tell a=>exact ⟨_,_,hq,rfl,rfl,by rw [decide_eq_false (fun z=>h2 (V.str.inj z))];exact h⟩
 | copy n a=>exact ⟨_,_,hq,rfl,rfl,by rw [decide_eq_false (fun z=>h3 (V.str.inj z))];exact h⟩
 | op f n a b=>exact ⟨_,_,hq,rfl,rfl,by rw [decide_eq_false (fun z=>q9 hf h1 (V.str.inj z))];exact h⟩
mutual
def Stm.deep:Stm->Nat
 | .deed _=>0
 | .ifs _ a b=>max (cZ a) (cZ b)+1
 | .whl _ a=>cZ a+1
def cZ:List Stm->Nat
 | []=>0
 | s :: ss=>max s.deep (cZ ss)
end
mutual
def Stm.many:Stm->Nat
 | .deed _=>1
 | .ifs _ a b=>ck a+ck b+1
 | .whl _ a=>ck a+1
def ck:List Stm->Nat
 | []=>0
 | s :: ss=>s.many+ck ss
end
def Opd.good(ns:List Str)(w:Int):Opd->Prop
 | .box n=>n∈ns
 | .word i=>0<=i/\i < 2 ^ w.toNat
def Deed.good(ns:List Str)(w:Int):Deed->Prop
 | .tell a=>Opd.good ns w a
 | .copy d a=>d∈ns/\Opd.good ns w a
 | .op f d a b=>f∈opsL/\d∈ns/\Opd.good ns w a/\Opd.good ns w b
theorem mr(s:Stm):1<=s.many:=by cases s <;> simp [Stm.many]
theorem mk(ss:List Stm):ss.length<=ck ss:=by
 induction ss with
 | nil=>simp [ck]
 | cons s ss ih=>rw [ck,List.length_cons];have:=mr s;omega
theorem mq{s:Stm}{ss:List Stm}(h:s∈ss):s.many<=ck ss:=by
 induction ss with
 | nil=>cases h
 | cons x xs ih=>
  rw [ck]
  rcases List.mem_cons.mp h with z | z
  ·subst z;omega
  ·have:=ih z;omega
theorem kE{s:Stm}{ss:List Stm}(h:s∈ss):s.deep<=cZ ss:=by
 induction ss with
 | nil=>cases h
 | cons x xs ih=>
  rw [cZ]
  rcases List.mem_cons.mp h with z | z
  ·subst z;omega
  ·have:=ih z;omega
end FS
namespace FP
open PySem L2 FB FS FA PyProof.Rows
end FP
variable {H:Hp} {o:HO}
namespace L2
open PySem PySem.Spec PyProof.Rows
def SameX(p:Addr)(H H':Hp):Prop:=∀c o,H c=some o->c≠p->H' c=some o
theorem SameX.trans{p:Addr}{H H1 H2:Hp}(a:SameX p H H1)(b:SameX p H1 H2):SameX p H H2:=fun c o e n=>b c o (a c o e n) n
theorem SameX.of{p:Addr}{H H':Hp}(s:Same H H'):SameX p H H':=fun c o e _=>s c o e
theorem SameX.upd{p:Addr}:SameX p H (L2.upd H p o):=fun c u e n=>by rw [ap n];exact e
theorem SameX.free{p c:Addr}{H H':Hp}(s:SameX p H H')(hp:H' p=some o)(h:H' c=none):H c=none:=by
 cases e:H c with
 | none=>rfl
 | some u=>
  have n:c≠p:=fun z=>by subst z;rw [hp] at h;cases h
  rw [s c u e n] at h;cases h
theorem TSame.updI{H:Hp}{p C dx:Addr}{fs:List (Str×V)}(h:H p=some (.ins C dx fs)):TSame H (L2.upd H p o):=
 ⟨fun b xs e=>by rw [ap (fun z=>by rw [z,h] at e;cases e)];exact e,fun b u v e=>by rw [ap (fun z=>by rw [z,h] at e;cases e)];exact e⟩
end L2
namespace FS
open PySem L2 FB PyProof.Rows
def tJ(wd:Int)(a b r:Addr):List (Str×V):=[("width",.int wd),("ins",.ref a),("boxes",.ref b),("rows",.ref r)]
structure ProgAt(K:PySem.W.Frag)(C:Addr)(H:Hp)(p:Addr)(wd:Int)(ins oth:List Str)(ss:List Stm)(a b r:Addr)(xs:List V)(f:List Addr):Prop where
 ob:∃dx,H p=some (.ins C dx (tJ wd a b r))
 ia:H a=some (.lst (ins.map V.str))
 bx:H b=some (.lst ((ins ++ oth).map V.str))
 rs:H r=some (.lst xs)
 st:StmsV K H xs ss f
theorem ProgAt.same{K:PySem.W.Frag}{C:Addr}{H H':Hp}{p:Addr}{wd:Int}{ins oth:List Str}{ss:List Stm}{a b r:Addr}{xs:List V}{f:List Addr}(h:ProgAt K C H p wd ins oth ss a b r xs f)(s:Same H H'):ProgAt K C H' p wd ins oth ss a b r xs f:=
 ⟨let ⟨dx,e⟩:=h.ob;⟨dx,s _ _ e⟩,s _ _ h.ia,s _ _ h.bx,s _ _ h.rs,h.st.same s⟩
theorem bh{f:Str}{v:V}:∀{fs:List (Str×V)},(fs.map (·.1)).contains f=false->bH f v fs=fs ++ [(f,v)]
 | [],_=>rfl
 | (g,x) :: r,h=>by
  rw [List.map_cons,List.contains_cons,Bool.or_eq_false_iff] at h
  have n:¬g=f:=fun z=>by subst z;simp at h
  rw [show bH f v ((g,x) :: r)=(if g=f then (g,v) :: r else (g,x) :: bH f v r) from rfl,if_neg n,bh h.2];rfl
end FS
namespace K01M
theorem tb(x w:Nat):x / 2 ^ w % 2=(x.testBit w).toNat:=by
 rw [Nat.testBit_eq_decide_div_mod_eq]
 have h:x / 2 ^ w % 2=0\/x / 2 ^ w % 2=1:=by omega
 rcases h with h | h <;> simp [h]
end K01M
namespace FO
open PySem L2 K01M FB PyProof.Rows
abbrev ops:List Str:=FB.opsL
def gD(op:Str)(x y w:Int):Int:=
 if op="plus" then (x+y) % 2 ^ w.toNat else if op="less" then (x - y) % 2 ^ w.toNat else if op="and" then Builtin.bitAnd x y else if op="or" then Builtin.bitOr x y
 else if op="xor" then Builtin.bitXor x y else if op="below" then (if x < y then 1 else 0) else if x=y then 1 else 0
theorem ul(a b:Nat):Builtin.bitAnd (a:Int) (b:Int)=((a &&& b:Nat):Int):=by
 unfold Builtin.bitAnd
 rw [decide_eq_true (by omega:(0:Int)<=a),decide_eq_true (by omega:(0:Int)<=b)]
 rfl
theorem bOr(a b:Nat):Builtin.bitOr (a:Int) (b:Int)=((a ||| b:Nat):Int):=by
 unfold Builtin.bitOr Builtin.bitAnd
 have e1:∀z:Nat,Builtin.bitNot (z:Int)=-(z:Int) - 1:=fun z=>by unfold Builtin.bitNot;omega
 rw [e1,e1,decide_eq_false (by omega:¬(0:Int)<=-(a:Int) - 1),decide_eq_false (by omega:¬(0:Int)<=-(b:Int) - 1)]
 show Builtin.bitNot (Builtin.bitNot (((Builtin.bitNot (-(a:Int) - 1)).toNat ||| (Builtin.bitNot (-(b:Int) - 1)).toNat:Nat):Int))=_
 have e2:∀z:Nat,(Builtin.bitNot (-(z:Int) - 1)).toNat=z:=fun z=>by unfold Builtin.bitNot;omega
 rw [e2,e2,e1]
 unfold Builtin.bitNot;omega
theorem qD{op:Str}{x y w:Int}(ho:op∈ops)(x0:0<=x)(x1:x < 2 ^ w.toNat)(y0:0<=y)(y1:y < 2 ^ w.toNat)(hw:1<=w):0<=gD op x y w/\gD op x y w < 2 ^ w.toNat:=by
 obtain ⟨a,rfl⟩:=Int.eq_ofNat_of_zero_le x0
 obtain ⟨b,rfl⟩:=Int.eq_ofNat_of_zero_le y0
 have ca:((2 ^ w.toNat:Nat):Int)=2 ^ w.toNat:=by simp
 have ha:a < 2 ^ w.toNat:=by rw [<- ca] at x1;omega
 have hb:b < 2 ^ w.toNat:=by rw [<- ca] at y1;omega
 have hp:(0:Int) < 2 ^ w.toNat:=Int.pow_pos (by decide)
 have h2:(2:Int)<=2 ^ w.toNat:=by
  have:2 ^ 1<=2 ^ w.toNat:=Nat.pow_le_pow_right (by decide) (by omega)
  rw [<- ca];omega
 unfold gD
 split
 ·exact ⟨Int.emod_nonneg _ (by omega),Int.emod_lt_of_pos _ hp⟩
 split
 ·exact ⟨Int.emod_nonneg _ (by omega),Int.emod_lt_of_pos _ hp⟩
 split
 ·rw [ul,<- ca]
  have:=Nat.lt_of_le_of_lt (Nat.and_le_left (n:=a) (m:=b)) ha
  omega
 split
 ·rw [bOr,<- ca]
  have:=Nat.or_lt_two_pow ha hb
  omega
 split
 ·unfold Builtin.bitXor
  rw [ul,bOr,<- ca]
  have h1:=Nat.or_lt_two_pow ha hb
  have h3:(a &&& b)<=(a ||| b):=Nat.le_trans Nat.and_le_left Nat.left_le_or
  omega
 split
 ·split <;> omega
 ·split <;> omega
end FO
variable {b ws:Bx}
namespace FR
open PySem L2 FB FS FG FO PyProof.Rows
abbrev Bx:=List (Key×V)
def aN(b:Bx)(n:Str):Int:=(dt b n).getD 0
def d8(b:Bx):Opd->Int
 | .box n=>aN b n
 | .word i=>i
def dI(b:Bx)(w:Int):Deed->Int
 | .tell a=>d8 b a
 | .copy _ a=>d8 b a
 | .op f _ x y=>gD f (d8 b x) (d8 b y) w
def doT(w:Int)(d:Deed)(b:Bx)(t:List Int):List Int:=match d with
 | .tell _=>t ++ [dI b w d]
 | _=>t
structure BxG(ns:List Str)(w:Int)(b:Bx):Prop where
 isI:IntD b
 few:b.length<=1000
 has:∀n∈ns,∃x,dt b n=some x/\0<=x/\x < 2 ^ w.toNat
theorem BxG.get{ns:List Str}{w:Int}{n:Str}(h:BxG ns w b)(hn:n∈ns):0<=aN b n/\aN b n < 2 ^ w.toNat:=by
 obtain ⟨x,hx,h0,h1⟩:=h.has n hn
 unfold aN;rw [hx];exact ⟨h0,h1⟩
theorem ph{kvs:List (Key×V)}{n:Str}{x:Int}(h:dt kvs n=some x):aY kvs (.inr n)=some (.int x):=by
 unfold dt at h
 split at h
 ·next e=>cases h;exact e
 ·cases h
theorem BxG.val{ns:List Str}{w:Int}{n:Str}(h:BxG ns w b)(hn:n∈ns):aY b (.inr n)=some (.int (aN b n)):=by
 obtain ⟨x,hx,_⟩:=h.has n hn
 unfold aN;rw [hx];exact ph hx
theorem eh{b:Bx}{k:Key}{v u:V}(h:aY b k=some u):(bi b k v).length=b.length:=by
 have:=bc k b
 rw [h] at this
 unfold bi
 rw [if_pos (by rw [this];rfl),List.length_map]
theorem BxG.put{ns:List Str}{w:Int}{n:Str}{x:Int}(h:BxG ns w b)(hn:n∈ns)(h0:0<=x)(h1:x < 2 ^ w.toNat):BxG ns w (bi b (.inr n) (.int x)):=
 ⟨h.isI.put _ _,by rw [eh (h.val hn)];exact h.few,fun m hm=>by
  rw [du]
  by_cases e:m=n
  ·rw [if_pos e];exact ⟨x,rfl,h0,h1⟩
  ·rw [if_neg e];exact h.has m hm⟩
theorem eA{ns:List Str}{w:Int}{o:Opd}(h:BxG ns w b)(ho:Opd.good ns w o):0<=d8 b o/\d8 b o < 2 ^ w.toNat:=by
 cases o with
 | box n=>exact h.get ho
 | word i=>exact ho
theorem lR{ns:List Str}{w:Int}{d:Deed}(h:BxG ns w b)(hd:Deed.good ns w d)(hw:1<=w):0<=dI b w d/\dI b w d < 2 ^ w.toNat:=by
 cases d with
 | tell a=>exact eA h hd
 | copy n a=>exact eA h hd.2
 | op f n x y=>
  obtain ⟨h1,_,h3,h4⟩:=hd
  have a:=eA h h3
  have b:=eA h h4
  exact qD h1 a.1 a.2 b.1 b.2 hw
def aF(ins:List Str)(ws:Bx)(ns:List Str):Bx:=ns.foldl (fun b n=>bi b (.inr n) (.int (if n∈ins then aN ws n else 0))) []
theorem bU{ins:List Str}{ns:List Str}{n:Str}:aF ins ws (ns ++ [n])=bi (aF ins ws ns) (.inr n) (.int (if n∈ins then aN ws n else 0)):=by unfold aF;rw [List.foldl_append];rfl
theorem cB{ins:List Str}{ws:Bx}{w:Int}(hw:∀n∈ins,0<=aN ws n/\aN ws n < 2 ^ w.toNat):∀(m:Nat)(ns:List Str),ns.length=m->IntD (aF ins ws ns)/\(aF ins ws ns).length<=ns.length/\∀n∈ns,∃x,dt (aF ins ws ns) n=some x/\0<=x/\x < 2 ^ w.toNat:=by
 intro m
 induction m with
 | zero=>
  intro ns h
  have:ns=[]:=List.length_eq_zero_iff.mp h
  subst this
  exact ⟨IntD.nil,Nat.le_refl _,fun n hn=>by cases hn⟩
 | succ m ih=>
  intro ns h
  obtain ⟨l,x,rfl⟩:∃l x,ns=l ++ [x]:=⟨ns.dropLast,ns.getLast (by intro z;rw [z] at h;simp at h),(List.dropLast_concat_getLast _).symm⟩
  have hl:l.length=m:=by simpa using h
  obtain ⟨i1,i2,i3⟩:=ih l hl
  rw [bU]
  refine ⟨i1.put _ _,?_,fun n hn=>?_⟩
  ·have:=bV (aF ins ws l) (.inr x) (.int (if x∈ins then aN ws x else 0))
   rw [List.length_append,List.length_singleton];omega
  ·rw [du]
   by_cases e:n=x
   ·rw [if_pos e]
    refine ⟨_,rfl,?_⟩
    split
    ·next hm=>exact hw x hm
    ·exact ⟨Int.le_refl _,Int.pow_pos (by decide)⟩
   ·rw [if_neg e]
    refine i3 n ?_
    rcases List.mem_append.mp hn with z | z
    ·exact z
    ·exact absurd (List.mem_singleton.mp z) e
theorem hE{ins:List Str}{ws:Bx}{w:Int}{ns:List Str}(hw:∀n∈ins,0<=aN ws n/\aN ws n < 2 ^ w.toNat)(hl:ns.length<=1000):BxG ns w (aF ins ws ns):=by
 obtain ⟨a,b,c⟩:=cB hw _ ns rfl
 exact ⟨a,by omega,c⟩
end FR
variable {H:Hp} {r:Addr}
namespace L2
open PySem PySem.Spec PyProof.Rows
section
variable {K:PySem.W.Frag} {te:TE} {ci:List Nat} {σ:St} {acc:Addr} {Q:Hp->Prop} {H1:Hp} {a:Addr} {xs:List V}
end
theorem ls{c:TT}{tb:TS}{D:bO}{σ:St}{H:Hp}(Pv:St->Hp->Prop)(μ:St->Hp->Nat)(h0:Pv σ H)
 (hs:∀σ H,Pv σ H->c σ H fun b H1=>if b=true then ∃N:St->Hp->Prop,(∀σ' H',N σ' H'->∃m',m' < μ σ H/\m'=μ σ' H'/\Pv σ' H')/\tb {D with nx:=N,ct:=N,bk:=D.nx} σ H1 else D.nx σ H1):jh c tb D σ H:=by
 refine ⟨fun m σ H=>m=μ σ H/\Pv σ H,⟨_,rfl,h0⟩,?_⟩
 rintro m σ H ⟨rfl,p⟩
 exact hs σ H p
def SameB(p r:Addr)(H H':Hp):Prop:=∀c o,H c=some o->c≠p->c≠r->H' c=some o
theorem SameB.trans{p r:Addr}{H H1 H2:Hp}(a:SameB p r H H1)(b:SameB p r H1 H2):SameB p r H H2:=fun c o e n m=>b c o (a c o e n m) n m
theorem SameB.of{p:Addr}{H H':Hp}(s:Same H H'):SameB p r H H':=fun c o e _ _=>s c o e
theorem SameB.upd1{p:Addr}{o:HO}:SameB p r H (L2.upd H p o):=fun c u e n _=>by rw [ap n];exact e
theorem SameB.upd2{p:Addr}{o:HO}:SameB p r H (L2.upd H r o):=fun c u e _ n=>by rw [ap n];exact e
theorem SameX.tsD{p:Addr}{H H':Hp}{kvs:List (Key×V)}(s:SameX p H H')(h:H p=some (.dK kvs)):TSame H H':=
 ⟨fun b xs e=>s b _ e (bp e h (by intro z;cases z)),fun b o u e=>s b _ e (bp e h (by intro z;cases z))⟩
end L2
namespace FW
open PySem L2 FB FS FG FO FR PyProof.Rows
section
variable {K:PySem.W.Frag} {H:Hp}
end
end FW
namespace FX
open PySem L2 FB FS FG FO FR FW PyProof.Rows
structure Nd where
 rd:List Str
 nm:Option Str
 ah:List Int
def at0(v:Nat->Nat)(j:Int):Nat:=if j < 0 then 0 else v j.toNat
section
variable {n:Str} {N:List Nd} {v:Nat->Nat->Nat}
def sq(v:Nat->Nat->Nat)(j:Int):Nat->Nat:=fun p=>at0 (v (p+1)) j
end
section
variable {S:List (List Str)}
end
end FX
namespace FX
open PySem L2 FB FS FG FO FR FW PyProof.Rows PySem.Spec
def leS(a b:Str):Bool:=!ltCps b.cps.toList a.cps.toList
theorem leS_iff{a b:Str}:leS a b=true↔a.cps.toList<=b.cps.toList:=by
 unfold leS
 rw [ltCps_eq,Bool.not_eq_true',decide_eq_false_iff_not,List.not_lt]
theorem fO(a b c:Str)(h1:leS a b=true)(h2:leS b c=true):leS a c=true:=leS_iff.mpr (List.le_trans (leS_iff.mp h1) (leS_iff.mp h2))
theorem kO(a b:Str):(leS a b || leS b a)=true:=by
 rw [Bool.or_eq_true,leS_iff,leS_iff]
 exact List.le_total _ _
theorem mj{a b:Str}(h1:leS a b=true)(h2:leS b a=true):a=b:=by
 have e:=List.le_antisymm (leS_iff.mp h1) (leS_iff.mp h2)
 obtain ⟨x⟩:=a
 obtain ⟨y⟩:=b
 have:x=y:=Array.ext' e
 rw [this]
def srt(l:List Str):List Str:=l.mergeSort leS
theorem oP(l:List Str):(srt l).Perm l:=List.mergeSort_perm _ _
theorem oO(l:List Str):(srt l).Pairwise fun a b=>leS a b=true:=List.pairwise_mergeSort fO kO l
theorem f7:∀{l:List Str},sortedS l=true->l.Pairwise fun a b=>leS a b=true:=by
 have key:∀(p:Str)(l:List Str),risingS p l=true->(p :: l).Pairwise fun a b=>leS a b=true:=by
  intro p l
  induction l generalizing p with
  | nil=>intro _;simp
  | cons x r ih=>
   intro h
   have h':(!ltCps x.cps.toList p.cps.toList && risingS x r)=true:=h
   rw [Bool.and_eq_true] at h'
   have ih':=ih x h'.2
   have hpx:leS p x=true:=h'.1
   refine List.pairwise_cons.mpr ⟨fun y hy=>?_,ih'⟩
   rcases List.mem_cons.mp hy with z | z
   ·rw [z];exact hpx
   ·exact fO _ _ _ hpx ((List.pairwise_cons.mp ih').1 y z)
 intro l h
 cases l with
 | nil=>simp
 | cons x r=>exact key x r h
theorem jd{l l':List Str}(h1:l'.Perm l)(h2:l'.Pairwise fun a b=>leS a b=true):l'=srt l:=
 List.Perm.eq_of_pairwise (fun a b _ _ h1 h2=>mj h1 h2) h2 (oO l) (h1.trans (oP l).symm)
end FX
namespace L2
open PySem PySem.Spec PyProof.Rows
section
variable {X:Cx}
theorem gc:∀{us:List Value} {ns:List Str},StrsAre us ns->Vals (ns.map V.str) us
 | _,_,.nil=>.nil
 | _,_,.cons y t h=>.cons ⟨t,rfl⟩ (gc h)
end
end L2
namespace FZ
open PySem L2 FB FS FG FO FR PyProof.Rows
inductive Ed where
 | stop
 | go (i:Nat)
 | choose (n:Str) (i j:Nat)
 deriving DecidableEq
structure Blk where
 ds:List Deed
 ed:Ed
def Ed.tg:Ed->List Nat
 | .stop=>[]
 | .go i=>[i]
 | .choose _ i j=>[i,j]
end FZ
namespace GA
open PySem L2 FB FS FG FO FR FZ PyProof.Rows
theorem pJ{w:Int}{d:Deed}{b:Bx}{t:List Int}:(doT w d b t).length<=t.length+1:=by
 unfold doT
 cases d with
 | tell a=>simp
 | copy n a=>simp
 | op f n x y=>simp
abbrev BT:=Bx×List Int
def nxt(b:Bx):Ed->Option Nat
 | .stop=>none
 | .go i=>some i
 | .choose n i j=>some (if aN b n≠0 then i else j)
end GA
namespace L2
open PySem PySem.Spec PyProof.Rows
section
variable {prog:Program} {w:World} {A:Around} {E:Value->Shared->Prop} {s:Shared}
end
end L2
namespace L2
open PySem PySem.Spec PyProof.Rows
theorem Paired.at{α β:Type}{F:α->β->Prop}:∀{l:List α} {m:List β} {i:Nat} {x:α},Paired F l m->l[i]?=some x->∃y,m[i]?=some y/\F x y
 | _,_,_,_,.nil,e=>by simp at e
 | _,_,0,_,.cons r _,e=>by simp at e;subst e;exact ⟨_,rfl,r⟩
 | _,_,i+1,x,.cons _ t,e=>by
  obtain ⟨u,h1,h2⟩:=Paired.at (i:=i) (x:=x) t (by simpa using e)
  exact ⟨u,by simpa using h1,h2⟩
section
variable {X:Cx}
end
end L2
namespace L2
open PySem PySem.Spec PyProof.Rows
section
variable {prog:Program} {w:World} {A:Around} {E:Value->Shared->Prop} {s:Shared}
end
section
variable {X:Cx}
end
section
variable {prog:Program} {w:World} {A:Around} {E:Value->Shared->Prop} {s:Shared} {l I S:Addr} {vs:List Value} {ln:Nat->Nat} {dv:Value} {R:Result->Shared->Prop}
end
section
variable {X:Cx}
end
end L2
namespace L2
open PySem PySem.Spec PyProof.Rows
theorem kg:∀{xs:List V} {us:List Value},us.length=xs.length->(∀(j:Nat)(v:Value),us[j]?=some v->∃x,xs[j]?=some x/\RelV x v)->Vals xs us
 | [],[],_,_=>.nil
 | [],_ :: _,h,_=>by simp at h
 | _ :: _,[],h,_=>by simp at h
 | x :: xs,u :: us,h,hv=>by
  obtain ⟨y,e,r⟩:=hv 0 u rfl
  cases e
  refine .cons r (kg (by simpa using h) fun j v hj=>?_)
  obtain ⟨y,e,r⟩:=hv (j+1) v (by simpa using hj)
  exact ⟨y,by simpa using e,r⟩
theorem qV{P:Program}{w:World}{k:Key}{v:Value}(h:(aP P w).is k v=true):RelV (kV k) v:=by
 cases k with
 | inl i=>exact Value.isInt_shape h
 | inr x=>exact Value.isStrOf_shape h
section
variable {X:Cx}
end
end L2
variable {H:Hp} {td:TE}
namespace L2
open PySem PySem.Spec PyProof.Rows
def jo(d:Addr)(o:Obj)(kvs:List (Key×V)):It:=
 ⟨fun i H=>H d=some (.frz o (.dK kvs))/\i < kvs.length,fun i H x H'=>H'=H/\∃k v,kvs[i]?=some (k,v)/\x=kV k,fun i H=>H d=some (.frz o (.dK kvs))/\kvs.length<=i⟩
theorem lW{P:Program}{w:World}{H:Hp}{h:Heap}{d:Addr}{o:Obj}{kvs:List (Key×V)}{es:Array DictEntry}{ep:Nat}(ok:HOk P w H h)(e:H d=some (.frz o (.dK kvs)))(ho:o.data=.dict es ep):∃vs,KV kvs vs/\h.DictAt (aP P w) d vs ep:=by
 obtain ⟨e1,z,hd,vs,rel,o',es',ep',e2,r⟩:=ok d _ e
 rw [e1] at e2
 cases e2
 obtain ⟨r1,r2,r3⟩:=id r
 rw [ho] at r2
 cases r2
 exact ⟨vs,rel,o,es,e1,r⟩
theorem lq{P:Program}{w:World}{K:PySem.W.Frag}{tg:Expr}(d it:Addr)(o:Obj){es:Array DictEntry}{ep:Nat}(ho:o.data=.dict es ep)(kvs:List (Key×V)):ku P w K tg (jo d o kvs) [it] it (fun i h=>h.IsKeyIter it d i kvs.length ep) where
 mem:=by simp
 obj:=fun i h st b hb=>by
  have e:b=it:=by simpa using hb
  subst e
  obtain ⟨o,e,c,d⟩:=st
  exact ⟨o,e,fun v z=>by rw [d] at z;cases z⟩
 keep:=fun i h h' st k=>st.at fun o e=>k it (by simp) o e
 item:=by
  intro X hP hw hK hc i pins s σ H E I hf st hg
  subst hP hw hK
  obtain ⟨hg1,hi⟩:=hg
  obtain ⟨vs,rel,hm⟩:=lW I.hok hg1 ho
  have hl:=rel.length
  obtain ⟨⟨k,v⟩,hk⟩:∃p,kvs[i]?=some p:=⟨_,List.getElem?_eq_getElem hi⟩
  obtain ⟨⟨k',v'⟩,hk',e1,_⟩:=Paired.at rel hk
  cases (show k=k' from e1)
  obtain ⟨f0,f1,f2,f3,f4,f5⟩:=hf it (by simp)
  rw [hl] at st
  refine wpAny_pyNext_dict_item st hm hk' fun key h' hkey st' sb=>?_
  have I1:Inv X pins σ H {s with heap:=h'}:=I.turned (t':=s.toks) (fun b o hb e=>(sb.2 b hb).trans e) f0 f1 f3 f4 f5
  obtain ⟨o2,e2,c2,d2⟩:=id st'
  rw [<- hl] at st'
  exact ⟨key,rfl,jx (s:={s with heap:=h'}) e2 c2 d2 (by decide) ⟨kV k,H,I1,qV hkey,⟨rfl,k,v,hk,rfl⟩,st',fun b hb=>(hf b hb).1⟩⟩
 done:=by
  intro X hP hw hK hc i pins s σ H E I hf st hg
  subst hP hw hK
  obtain ⟨hg1,hi⟩:=hg
  obtain ⟨vs,rel,hm⟩:=lW I.hok hg1 ho
  have hl:=rel.length
  obtain ⟨f0,f1,f2,f3,f4,f5⟩:=hf it (by simp)
  rw [hl] at st
  exact wpAny_pyNext_dict_end (I.ok.hd hc) st hm (List.getElem?_eq_none (by omega)) fun h' eb=>⟨rfl,I.turned (t':=s.toks) (fun b o hb e=>eb b o hb e) f0 f1 f3 f4 f5⟩
 self:=fun _ _ _ _ _ st h=>wpAny_pyIter_keyiter st h
def m3(td:TE):TI:=fun σ H R=>td σ H fun x H1=>∃a kvs,x=.ref a/\H1 a=some (.dK kvs)/\∀o,R (jo a o kvs) (upd H1 a (.frz o (.dK kvs)))
theorem qh{X:Cx}{tg o:Expr}(ho:PE X o td):PI X tg o (m3 td):=by
 intro pins s σ H R I h
 refine thn (ho pins s σ H _ I h) fun v s1 hhx=>?_
 obtain ⟨x,H1,I1,r1,a,kvs,ex,e,q1⟩:=hhx
 subst ex
 cases r1
 have okd:=I1.hok a _ e
 obtain ⟨z,hd,vs,rel,od,es,ep,g1,g2⟩:=id okd
 have hl:=rel.length
 have hat:s1.heap.DictAt (aP X.prog X.w) a vs ep:=⟨od,es,g1,g2⟩
 refine wpAny_pyIter_dict hd hat ?_
 have I2:Inv X pins σ (upd H1 a (.frz od (.dK kvs))) {s1 with heap:=s1.heap,toks:=s1.toks}:=I1.write (x:=a) (e:=a) (by rw [e];exact True.intro) (.inl rfl) (fun b u _ q=>q) ⟨od,g1⟩ ⟨g1,okd.stay (fun _ _ _ q=>q) (fun b q=>by
  rw [ap (bp q e (fun z=>nomatch z))];exact q) fun b ys q=>by rw [ap (bp q e (fun z=>nomatch z))];exact q⟩
 refine ⟨_,[_],_,_,_,rfl,I2.kept (t':=s1.toks) fun b o e=>Heap.get?_push_of_some _ e,lq a _ od g2.2.1 kvs,?_,fun b hb=>?_,q1 od⟩
 ·rw [hl]
  exact ⟨_,Heap.get?_push_size _ rfl,rfl,rfl⟩
 ·rw [List.mem_singleton.mp hb]
  exact I2.fpOk (Nat.le_refl _) (I2.hok.fresh (Nat.le_refl _))
theorem pq{X:Cx}{tg o:Expr}(ho:XE X o td):XI X tg o (m3 td):=⟨qh ho.h⟩
theorem jR{σ:St}{R:It->Hp->Prop}:m3 td σ H R=td σ H fun x H1=>∃a kvs,x=.ref a/\H1 a=some (.dK kvs)/\∀o,R (jo a o kvs) (upd H1 a (.frz o (.dK kvs))):=rfl
theorem pL{d:Addr}{o:Obj}{kvs:List (Key×V)}{g:TG}{tb:TS}{D:bO}{σ:St}{H:Hp}(Pv:Nat->St->Hp->Prop)(h0:Pv 0 σ H)(hl:∀i σ H,i<=kvs.length->Pv i σ H->H d=some (.frz o (.dK kvs)))
 (hs:∀(i:Nat)k v σ H,kvs[i]?=some (k,v)->Pv i σ H->g (kV k) σ H fun σ2 H2=>tb {D with nx:=Pv (i+1),ct:=Pv (i+1),bk:=D.nx} σ2 H2) (hd:∀σ H,Pv kvs.length σ H->D.nx σ H):lB (jo d o kvs) g tb D σ H:=by
 refine ⟨fun i m σ H=>m=kvs.length - i/\i<=kvs.length/\Pv i σ H,⟨kvs.length,by simp,Nat.zero_le _,h0⟩,?_⟩
 rintro i m σ H ⟨rfl,hi,p⟩
 have q:=hl i σ H hi p
 by_cases hlt:i < kvs.length
 ·refine .inr ⟨⟨q,hlt⟩,Pv (i+1),fun σ' H' p'=>⟨kvs.length - (i+1),by omega,rfl,hlt,p'⟩,fun x H' y=>?_⟩
  obtain ⟨eH,k,v,hk,ex⟩:=y
  subst eH ex
  exact hs i k v σ H' hk p
 ·obtain rfl:i=kvs.length:=by omega
  exact .inl ⟨⟨q,Nat.le_refl _⟩,hd σ H p⟩
end L2
namespace L2
open PySem PySem.Spec PyProof.Rows
def eZ(l:List Str)(x:Str):List Str:=if x∈l then l else l ++ [x]
def aT(ns:List Str):List Str:=ns.foldl eZ []
theorem f6(ns:List Str)(x:Str):aT (ns ++ [x])=eZ (aT ns) x:=by unfold aT;rw [List.foldl_append];rfl
theorem fR{l:List Str}{x y:Str}:y∈eZ l x↔y∈l\/y=x:=by
 unfold eZ
 split
 ·next h=>exact ⟨.inl,fun z=>z.elim id fun e=>by rw [e];exact h⟩
 ·rw [List.mem_append,List.mem_singleton]
theorem fS(ns:List Str):(∀y,y∈aT ns↔y∈ns)/\(aT ns).length<=ns.length/\((aT ns).length=ns.length↔ns.Nodup):=by
 rw [<- List.reverse_reverse ns]
 generalize ns.reverse=ms
 induction ms with
 | nil=>exact ⟨fun y=>Iff.rfl,Nat.le_refl _,⟨fun _=>List.nodup_nil,fun _=>rfl⟩⟩
 | cons x m ih=>
  rw [List.reverse_cons]
  generalize m.reverse=l at ih ⊢
  obtain ⟨h1,h2,h3⟩:=ih
  rw [f6,List.length_append,List.length_singleton]
  refine ⟨fun y=>by rw [fR,h1,List.mem_append,List.mem_singleton],?_,?_⟩
  ·unfold eZ;split
   ·omega
   ·rw [List.length_append,List.length_singleton];omega
  ·rw [List.nodup_append]
   unfold eZ
   split
   ·next h=>
    refine ⟨fun e=>absurd e (by omega),fun ⟨_,_,z⟩=>absurd rfl (z x ((h1 x).mp h) x (List.mem_singleton.mpr rfl))⟩
   ·next h=>
    rw [List.length_append,List.length_singleton]
    refine ⟨fun e=>⟨h3.mp (by omega),by simp,fun a ha b hb e2=>h ?_⟩,fun ⟨z,_,_⟩=>by rw [h3.mpr z]⟩
    rw [List.mem_singleton.mp hb] at e2
    rw [<- e2]
    exact (h1 a).mpr ha
section
variable {prog:Program} {w:World} {A:Around} {R:Result->Shared->Prop} {it:Addr} {fp wr:List Addr} {G:Array GenState->Array GenState->Prop} {n:Nat} {P:Nat->Value->Prop} {St:Nat->Shared->Prop}
def TxtSet(prog:Program)(w:World)(h:Heap)(c:Addr)(l:List Str):Prop:=h.SetOf (strKind prog w) c (fun x=>decide (x∈l)) l.length
theorem TxtSet.mv{h h':Heap}{c:Addr}{l:List Str}(z:TxtSet prog w h c l)(k:∀o,h.get? c=some o->h'.get? c=some o):TxtSet prog w h' c l:=
 let ⟨o,es,ep,t,e,r⟩:=z;⟨o,es,ep,t,k o e,r⟩
theorem ip(W:WalksS prog w A.in1 it fp wr G n P St){c:Addr}(hc:c∉fp){ns:List Str}(hn:ns.length=n)(hv:∀(i:Nat)v,P i v->∃x t,ns[i]?=some x/\v=.str x t)(hb:n+1 < scanBound):
  ∀(k i:Nat)(s:Shared),k+i=n->St i s->TxtSet prog w s.heap c (aT (ns.take i))->(∀s',Moved (c :: wr) G s s'->TxtSet prog w s'.heap c (aT ns)->R (.ok (.ret .none)) s')->
   codeAny (model prog w) A (.builtin "set.update.loop" ⟨[.ref c,.ref it],[]⟩) R s
 | 0,i,s,hk,st,hS,q=>by
  obtain rfl:i=n:=by omega
  rw [show ns.take i=ns by rw [<- hn,List.take_length]] at hS
  refine codeAny_builtin F.entry_set_update_loop ?_
  rw [Around.under_plainId F.plain_set_update_loop _]
  refine wpAny_bind (m:=pyNext (.ref it)) (W.done s _ _ st fun s1 mv=>wpAny_pure (q s1 (mv.mono fun b hb=>List.mem_cons_of_mem _ hb) (hS.mv fun o e=>mv.heap c o (fun z=>hc (W.sub _ z)) e)))
 | k+1,i,s,hk,st,hS,q=>by
  refine codeAny_builtin F.entry_set_update_loop ?_
  rw [Around.under_plainId F.plain_set_update_loop _]
  refine wpAny_bind (m:=pyNext (.ref it)) (W.item i s _ _ (by omega) st fun v s1 hp st1 mv=>?_)
  obtain ⟨x,t,hx,rfl⟩:=hv i v hp
  obtain ⟨hi,ex⟩:=List.getElem?_eq_some_iff.mp hx
  have hS1:=hS.mv (h':=s1.heap) fun o e=>mv.heap c o (fun z=>hc (W.sub _ z)) e
  refine wpAny_bind (m:=holding [Value.str x t] (setAdd c (.str x t))) (wpAny_holding ?_)
  unfold setAdd
  refine wpAny_holding (wpAny_bind ((strKind prog w).pyHash (k:=x) (strKind_is _ _ _ _) ?_))
  have le:=(fS (ns.take i)).2.1
  rw [List.length_take] at le
  refine wpAny_setAddHashed_of (knd:=strKind prog w) (s:={s1 with toks:=s1.toks+1}) (strKind_is _ _ _ _) rfl hS1 (by omega) fun h2 sb hS2=>?_
  have et:ns.take (i+1)=ns.take i ++ [x]:=by rw [List.take_succ_eq_append_getElem hi,ex]
  have hS3:TxtSet prog w h2 c (aT (ns.take (i+1))):=by
   rw [et,f6]
   refine SetOf_congr hS2 (fun y=>?_) ?_
   ·rw [Bool.eq_iff_iff]
    simp only [Bool.or_eq_true,decide_eq_true_eq,fR]
   ·unfold eZ
    by_cases z:x∈aT (ns.take i)
    ·rw [if_pos z,if_pos (decide_eq_true z)]
    ·rw [if_neg z,if_neg (by simpa using z),List.length_append,List.length_singleton]
  refine wpAny_pure ⟨plainId_quiet F.plain_set_update_loop _,ip W hc hn hv hb k (i+1) _ (by omega) (W.frame _ s1 _ _ st1 (Nat.le_succ _) fun b hb o e=>?_) hS3 fun s3 mv3=>q s3 (Moved.trans W.gtrans ((mv.mono fun b hb=>List.mem_cons_of_mem _ hb).then_heap (Nat.le_succ _) fun b o hb e=>?_) mv3)⟩
  ·exact (sb.2 b (fun z=>hc (by rw [<- z];exact hb))).trans e
  ·exact (sb.2 b (fun z=>hb (by rw [z];exact List.mem_cons_self))).trans e
end
section
variable {prog:Program} {w:World} {A:Around} {E:Value->Shared->Prop} {s:Shared}
set_option maxHeartbeats 4000000 in
theorem mo{l:Addr}{items:Array Value}{ns:List Str}{Q:Value->Shared->Prop}(hh:A.handled=none)(hl:s.heap.IsList l items)(hv:∀(i:Nat)v,items[i]?=some v->∃x t,ns[i]?=some x/\v=.str x t)(hn:ns.length=items.size)(hb:items.size+1 < scanBound)
  (q:∀(h':Heap)(tk:Nat),TxtSet prog w h' s.heap.objs.size (aT ns)->(∀b o,s.heap.get? b=some o->h'.get? b=some o)->Q (.ref s.heap.objs.size) {s with heap:=h',toks:=tk}) :
  wpAny (model prog w) A (call (.type "set") [.ref l]) Q E s:=by
 obtain ⟨c,tl,hmro⟩:=F.called_set.mro
 have hmade:=F.called_set.made
 have hsub:=F.called_set.sub
 have h1:=F.called_set.notType
 have h2:=F.called_set.canCreate
 have hct:=F.typeCall_set_1 (.ref l)
 refine wpAny_call (codeAny_of_tree (show wpAny _ _ (callAny (.type "set") _) _ _ _ from wpAny_pure ⟨Code.quiet_builtin _ (by decide +kernel),codeAny_builtin F.entry_type_call ?_⟩))
 rw [Around.under_plain (weight_type_call_type "set" [.ref l] []) rfl]
 repeat (any_goals (first | assumption | wp_step))
 refine codeAny_mono (code_set_new_1 (.ref l) (E:=E) (Q₁:=fun v s1=>∃led:Bool,v=.ref s.heap.objs.size/\s1={s with heap:=s.heap.push {cls:=.type "set",dict:=none,data:=.set #[] 0 (.fresh 0 0 led)}}) fun led=>⟨led,rfl,rfl⟩) fun r s1 hr=>?_
 match r,hr with
 | .ok (.ret v),hr=>
  obtain ⟨led,rfl,rfl⟩:=hr
  obtain ⟨o0,ho0⟩:∃o0:Obj,o0={cls:=.type "set",dict:=none,data:=.set #[] 0 (.fresh 0 0 led)}:=⟨_,rfl⟩
  rw [<- ho0]
  have hS:(s.heap.push o0).get? s.heap.objs.size=some o0:=Heap.get?_push_size _ (by rw [ho0];rfl)
  have hT:Shared.TypeIs {s with heap:=s.heap.push o0} (.ref s.heap.objs.size) "set":=⟨o0,hS,by rw [ho0]⟩
  have hli:=F.called_set.init.lookup
  have hbi:=F.called_set.init.bind (.ref s.heap.objs.size)
  repeat (any_goals (first | assumption | wp_step))
  refine codeAny_mono (codeAny_call_builtin (R:=wants (fun r s2=>r=.none/\∃h' tk,s2={s with heap:=h',toks:=tk}/\TxtSet prog w h' s.heap.objs.size (aT ns)/\∀b o,s.heap.get? b=some o->h'.get? b=some o) E) F.called_set.init.plain F.entry_set_init (check_set_init_1 hT ?_)) fun r2 s2 hr2=>?_
  ·obtain ⟨⟨oc,od,ot,os⟩,hol,hcl,nl,hdl⟩:=hl
   replace hcl:oc=.type "list":=hcl
   replace hdl:ot=.seq items nl:=hdl
   subst hcl hdl
   have hol2:(s.heap.push o0).get? l=some {cls:=.type "list",dict:=od,data:=.seq items nl,slots:=os}:=Heap.get?_push_of_some _ hol
   have hsls:=F.sub_list_set
   have hslf:=F.sub_list_frozenset
   have hne:(Value.type "list" == Value.type "dict")=false:=by decide
   have hL:(s.heap.push o0).IsList l items:=⟨_,hol2,rfl,nl,rfl⟩
   have zp:(s.heap.push o0).objs.size=s.heap.objs.size+1:=Heap.size_push ..
   subst ho0
   unfold Builtin.«set.__init__» noKeywords Builtin.Frozenset.updateFrom
   generalize hPI:pyIter=PI
   wp_walk
   subst hPI
   refine wpAny_pyIter_list hL ?_
   refine wpAny_bind (wpAny_runValue ?_)
   have lt:l < s.heap.objs.size:=Heap.lt_size hol
   refine ip ((Walks.list (by simp [hh]) _ l (by rw [zp];exact Nat.ne_of_lt (Nat.lt_succ_of_lt lt)) items).toS) (c:=s.heap.objs.size) (by
    rw [zp]
    intro z
    rcases List.mem_cons.mp z with z | z
    ·exact absurd z (Nat.ne_of_lt (Nat.lt_succ_self _))
    ·exact absurd (List.mem_singleton.mp z) (Nat.ne_of_gt lt)) hn hv hb items.size 0 _ rfl ⟨⟨_,Heap.get?_push_size _ rfl,rfl,rfl⟩,hL.push _⟩ ?_ ?_
   ·exact SetOf_congr ((setObjOf_fresh (knd:=strKind prog w) led).setOf (Heap.get?_push_of_some _ hS) (by unfold scanBound;omega)) (fun y=>by simp [aT]) rfl
   ·intro s3 mv hS3
    obtain ⟨h3,g3,d3,tk3,os3⟩:=s3
    obtain rfl:g3=s.gens:=mv.gens
    obtain rfl:d3=s.drawn:=mv.drawn
    obtain rfl:os3=s.os:=mv.os
    refine wpAny_pure ?_
    refine wpAny_pure ⟨rfl,h3,tk3,rfl,hS3,fun b o e=>?_⟩
    have bl:=Heap.lt_size e
    refine mv.heap b o ?_ (Heap.get?_push_of_some _ (Heap.get?_push_of_some _ e))
    rw [zp]
    intro z
    rcases List.mem_cons.mp z with z | z
    ·exact absurd z (Nat.ne_of_lt bl)
    ·exact absurd (List.mem_singleton.mp z) (Nat.ne_of_lt (Nat.lt_succ_of_lt bl))
  ·match r2,hr2 with
   | .ok (.ret v),hr2=>
    obtain ⟨rfl,h',tk,rfl,a1,a2⟩:=hr2
    repeat (any_goals (first | assumption | wp_step))
    exact q _ _ a1 a2
   | .error e,hr2=>exact hr2
 | .error e,hr=>exact hr
end
def g0(p:Addr)(n:Nat):HO:=.ext fun h=>n < scanBound/\∃o es ep t,h.get? p=some o/\o.ExactSet/\o.data=.set es ep t/\t.fits es.size=true/\es.size=n
variable {X:Cx}
def r8(K:PySem.W.Frag):List V->Hp->VK->Prop:=fun xs H Q=>∃(a:Addr)(ns:List Str),xs=[.ref a]/\SqL K H a (ns.map V.str)/\ns.length < 64/\∀p:Addr,H p=none->Q (.ref p) (upd H p (g0 p (aT ns).length))
theorem ky(hc:X.calm=true):bT X (.type "set") (r8 X.K):=by
 intro pins s σ H xs us Q I r h
 obtain ⟨a,ns,rfl,hq,h64,q⟩:=h
 obtain ⟨u,rfl,ru⟩:=ee r
 cases ru
 obtain ⟨its,rv,pl,_⟩:=I.list hq
 have hl:=rv.length
 rw [List.length_map] at hl
 refine mo (I.ok.hd hc) pl.isList (ns:=ns) (fun i v hv=>?_) (by rw [List.size_toArray];omega) (by rw [List.size_toArray];unfold scanBound;omega) fun h' tk hS hk=>?_
 ·have hi:=(Array.getElem?_eq_some_iff.mp hv).1
  rw [List.size_toArray] at hi
  obtain ⟨x,hx⟩:∃x,ns[i]?=some x:=⟨_,List.getElem?_eq_getElem (by omega)⟩
  obtain ⟨u,hu,t,rfl⟩:=rv.get (i:=i) (x:=.str x) (by rw [List.getElem?_map,hx];rfl)
  rw [List.getElem?_toArray,hu] at hv
  cases hv
  exact ⟨x,t,hx,rfl⟩
 ·obtain ⟨o,es,ep,t,e1,e2,e3,e4,e5,e6,e7,e8⟩:=hS
  have le:=(fS ns).2.1
  exact ⟨.ref s.heap.objs.size,_,I.laid (t':=tk) hk (Nat.le_refl _) (show ObjOk X.prog X.w _ h' _ (g0 s.heap.objs.size (aT ns).length) from ⟨⟨by unfold scanBound;omega,o,es,ep,t,e1,e2,e3,e7,e8⟩,⟨o,e1⟩,fun h1 h2 ⟨z,o,es,ep,t,y1,y2⟩ k=>⟨z,o,es,ep,t,k o y1,y2⟩⟩),rfl,q _ (I.hok.fresh (Nat.le_refl _))⟩
theorem oA{K:PySem.W.Frag}{a:Addr}{H:Hp}{Q:VK}:r8 K [.ref a] H Q=∃ns:List Str,SqL K H a (ns.map V.str)/\ns.length < 64/\∀p:Addr,H p=none->Q (.ref p) (upd H p (g0 p (aT ns).length)):=propext ⟨by rintro ⟨_,ns,e,q⟩;cases e;exact ⟨ns,q⟩,by rintro ⟨ns,q⟩;exact ⟨a,ns,rfl,q⟩⟩
def qZ:List V->Hp->VK->Prop:=fun xs H Q=>∃(p:Addr)(n:Nat),xs=[.ref p]/\H p=some (g0 p n)/\Q (.int n) H
theorem kx:bT X (.builtin "len") qZ:=by
 intro pins s σ H xs us Q I r h
 obtain ⟨p,n,rfl,e,q⟩:=h
 obtain ⟨u,rfl,ru⟩:=ee r
 cases ru
 obtain ⟨⟨hn,o,es,ep,t,y1,y2,y3,y4,y5⟩,_⟩:=I.hok p _ e
 unfold scanBound at hn
 exact call_len_set y1 y2 y3 y4 (by omega) ⟨.int n,H,I.tok _,⟨_,by rw [y5]⟩,q⟩
theorem oi{p:Addr}{H:Hp}{Q:VK}:qZ [.ref p] H Q=∃n:Nat,H p=some (g0 p n)/\Q (.int n) H:=propext ⟨by rintro ⟨_,n,e,q⟩;cases e;exact ⟨n,q⟩,by rintro ⟨n,q⟩;exact ⟨p,n,rfl,q⟩⟩
end L2
namespace L2
open PySem PySem.Spec PyProof.Rows
section
variable {X:Cx}
def ig:List V->Hp->VK->Prop:=fun xs H Q=>∃(a:Addr)(kvs:List (Key×V)) (ns:List Str),xs=[.ref a]/\H a=some (.dK kvs)/\kvs.map (·.1)=ns.map Sum.inr/\ns.length < 64/\∀l:Addr,H l=none->Q (.ref l) (upd H l (.lst ((FX.srt ns).map V.str)))
theorem cX(hc:X.calm=true):bT X (.builtin "sorted") ig:=by
 intro pins s σ H xs us Q I r h
 obtain ⟨a,kvs,ns,rfl,e,hkn,h64,q⟩:=h
 obtain ⟨u,rfl,ru⟩:=ee r
 cases ru
 obtain ⟨z,hd,ws,rel,dd⟩:=lT I.hok e
 obtain ⟨ep,hat⟩:=dd.dictAt
 have hl:=rel.length
 have hlk:kvs.length=ns.length:=by have:=congrArg List.length hkn;simpa using this
 refine Calls.call_function_entry kind_sorted plain_sorted entry_sorted (args_sorted1 (.ref a)) ?_
 unfold Builtin.«sorted»;refine wpAny_bind (m:=checkCount "sorted" 1 1 _) (wpAny_pure ?_)
 refine wpAny_bind (PySem.W.kdu_collect (PySem.W.kdl_dict (knd:=aP X.prog X.w) (kvs:=ws) (ep:=ep) hd) (I.ok.hd hc) hat (by rw [<- hl];exact z) fun h' tk acc hk hacc=>?_)
 have hal:acc.toList.length=ns.length:=by rw [Array.length_toList,hacc.1];omega
 have hv:Vals (ns.map V.str) acc.toList:=by
  refine kg (by rw [List.length_map];exact hal) fun j v hj=>?_
  obtain ⟨k,x,h1,h2⟩:=hacc.2 j v (by rw [<- Array.getElem?_toList];exact hj)
  have hj':=(List.getElem?_eq_some_iff.mp h1).1
  obtain ⟨p,hp⟩:∃p,kvs[j]?=some p:=⟨_,List.getElem?_eq_getElem (by omega)⟩
  obtain ⟨q2,hq2,e1,_⟩:=Paired.at rel hp
  rw [h1] at hq2
  cases hq2
  have e2:(kvs.map (·.1))[j]?=some p.1:=by rw [List.getElem?_map,hp];rfl
  rw [hkn,List.getElem?_map] at e2
  obtain ⟨n,hn,e3⟩:=Option.map_eq_some_iff.mp e2
  refine ⟨.str n,by rw [List.getElem?_map,hn];rfl,?_⟩
  have z3:=qV h2
  rw [show k=Sum.inr n from e1.symm.trans e3.symm] at z3
  exact z3
 have hS:=dD hv
 refine wpAny_bind (wpAny_newList ?_)
 have hoL:(h'.push (seqObj "list" acc.toList.toArray 0)).get? h'.objs.size=some (seqObj "list" acc.toList.toArray 0):=Heap.get?_push_size _ rfl
 refine wpAny_bind (wpAny_holding (wpAny_call_entry slot_list_sort ⟨_,hoL,rfl⟩ entry_list_sort (list_sort_treeK strKind_oneLt hoL hS.keysOf (fun v₁ v₂ bQ e=>keyKind_strs (by rw [<- e];exact hS)) (by omega) fun st' a1 a2=>⟨_,rfl,?_⟩) (args_list_sort _)))
 obtain ⟨ss',h1,h2,h3⟩:=sorted_out_str hS a1 a2
 have eq:=FX.jd h2 (FX.f7 h3)
 subst eq
 refine wpAny_pure ⟨_,rfl,?_⟩
 obtain ⟨ep',he⟩:=sortedHeap_at (out:=(arrOf st').map (·.2)) hoL
 have I1:Inv X pins σ H {s with heap:=h',toks:=tk}:=I.kept (t':=tk) hk
 have hk2:∀b o,h'.get? b=some o->(sortedHeap (h'.push (seqObj "list" acc.toList.toArray 0)) h'.objs.size acc.toList ((arrOf st').map (·.2))).get? b=some o:=fun b o hb=>by
  have hlt:=Heap.lt_size hb
  rw [sortedHeap_old (Nat.ne_of_lt hlt) (by rw [size_push'];exact Nat.lt_succ_of_lt hlt),Heap.get?_push_ne _ _ _ (Nat.ne_of_lt hlt)]
  exact hb
 refine ⟨.ref h'.objs.size,_,I1.laid (t':=tk) hk2 (Nat.le_refl _) (show ObjOk X.prog X.w _ (sortedHeap (h'.push (seqObj "list" acc.toList.toArray 0)) h'.objs.size acc.toList ((arrOf st').map (·.2))) _ (.lst ((FX.srt ns).map V.str)) from ⟨?_,((arrOf st').map (·.2)).toList,ep',gc h1,?_⟩),rfl,q _ (I1.hok.fresh (Nat.le_refl _))⟩
 ·rw [List.length_map,h2.length_eq,sizeLine_eq];omega
 ·rw [Array.toArray_toList];exact he
theorem fU{a:Addr}{H:Hp}{Q:VK}:ig [.ref a] H Q=∃(kvs:List (Key×V)) (ns:List Str),H a=some (.dK kvs)/\kvs.map (·.1)=ns.map Sum.inr/\ns.length < 64/\∀l:Addr,H l=none->Q (.ref l) (upd H l (.lst ((FX.srt ns).map V.str))):=propext ⟨by rintro ⟨_,kvs,ns,e,q⟩;cases e;exact ⟨kvs,ns,q⟩,by rintro ⟨kvs,ns,q⟩;exact ⟨a,kvs,ns,rfl,q⟩⟩
end
end L2
variable {b b0:Bx}
namespace GO
open PySem L2 FB FS FG FO FR FZ GA PyProof.Rows
def atB(w:Int)(d:Deed)(b0 b:Bx):Bx:=match d with
 | .tell _=>b
 | .copy n _=>bi b (.inr n) (.int (dI b0 w d))
 | .op _ n _ _=>bi b (.inr n) (.int (dI b0 w d))
def beat(w:Int)(b0:Bx):List Deed->BT->BT
 | [],s=>s
 | d :: r,s=>beat w b0 r (atB w d b0 s.1,doT w d b0 s.2)
def cb(F:List Blk)(w:Int):Nat->Nat->BT->BT×Bool
 | 0,_,s=>(s,false)
 | m+1,i,s=>match F[i]? with
  | none=>(s,false)
  | some b=>match nxt s.1 b.ed with
   | none=>(beat w s.1 b.ds s,true)
   | some j=>cb F w m j (beat w s.1 b.ds s)
def tR(F:List Blk)(w:Int)(m:Nat)(b:Blk)(s:BT):BT×Bool:=match nxt s.1 b.ed with
 | none=>(beat w s.1 b.ds s,true)
 | some j=>cb F w m j (beat w s.1 b.ds s)
theorem dC{F:List Blk}{w:Int}{m i:Nat}{s:BT}{b:Blk}(h:F[i]?=some b):cb F w (m+1) i s=tR F w m b s:=by
 rw [cb,h];rfl
theorem BxG.atB{ns:List Str}{w:Int}{d:Deed}(h0:BxG ns w b0)(h:BxG ns w b)(hd:Deed.good ns w d)(hw:1<=w):BxG ns w (atB w d b0 b):=by
 have l:=lR h0 hd hw
 cases d with
 | tell a=>exact h
 | copy n a=>exact h.put hd.1 l.1 l.2
 | op f n x y=>exact h.put hd.2.1 l.1 l.2
theorem c7{w:Int}{b0:Bx}:∀{ds:List Deed} {j:Nat} {d:Deed} {s:BT},ds[j]?=some d->beat w b0 (ds.take (j+1)) s=(GO.atB w d b0 (beat w b0 (ds.take j) s).1,doT w d b0 (beat w b0 (ds.take j) s).2)
 | [],j,d,s,h=>by simp at h
 | x :: ds,0,d,s,h=>by
  simp at h
  subst h
  rfl
 | x :: ds,j+1,d,s,h=>by
  rw [List.take_succ_cons,List.take_succ_cons,beat,beat]
  exact c7 (by simpa using h)
theorem c6{w:Int}{b0:Bx}:∀{ds:List Deed} {s:BT},(beat w b0 ds s).2.length<=s.2.length+ds.length
 | [],s=>Nat.le_refl _
 | d :: r,s=>by
  rw [beat]
  have h:=c6 (w:=w) (b0:=b0) (ds:=r) (s:=(GO.atB w d b0 s.1,doT w d b0 s.2))
  have h2:=pJ (w:=w) (d:=d) (b:=b0) (t:=s.2)
  rw [List.length_cons]
  dsimp only at h
  omega
theorem eQ{b:Bx}{n:Str}{x u:V}(h:aY b (.inr n)=some u):(bi b (.inr n) x).map (·.1)=b.map (·.1):=by
 have hv:=bc (.inr n) b
 rw [h] at hv
 unfold bi
 rw [if_pos (by rw [hv];rfl),List.map_map]
 refine List.map_congr_left fun kv _=>?_
 show (if _ then _ else kv).1=kv.1
 split <;> rfl
theorem mh{ns:List Str}{w:Int}{d:Deed}(h:BxG ns w b)(hd:Deed.good ns w d):(GO.atB w d b0 b).map (·.1)=b.map (·.1):=by
 cases d with
 | tell a=>rfl
 | copy n a=>exact eQ (h.val hd.1)
 | op f n x y=>exact eQ (h.val hd.2.1)
theorem BxG.beat{ns:List Str}{w:Int}(h0:BxG ns w b0)(hw:1<=w):∀{ds:List Deed} {s:BT},BxG ns w s.1->(∀d∈ds,Deed.good ns w d)->BxG ns w (GO.beat w b0 ds s).1/\(GO.beat w b0 ds s).1.map (·.1)=s.1.map (·.1)
 | [],s,h,_=>⟨h,rfl⟩
 | d :: r,s,h,hd=>by
  rw [GO.beat]
  have hg:=hd d (List.mem_cons_self ..)
  obtain ⟨h1,h2⟩:=BxG.beat h0 hw (s:=(GO.atB w d b0 s.1,doT w d b0 s.2)) (BxG.atB h0 h hg hw) fun x hx=>hd x (List.mem_cons_of_mem _ hx)
  exact ⟨h1,h2.trans (mh h hg)⟩
theorem hV{ins:List Str}{ws:Bx}(ns:List Str):∃ks:List Str,(aF ins ws ns).map (·.1)=ks.map Sum.inr/\ks.length<=ns.length:=by
 suffices h:∀m (ns:List Str),ns.length=m->∃ks:List Str,(aF ins ws ns).map (·.1)=ks.map Sum.inr/\ks.length<=ns.length from h _ ns rfl
 intro m
 induction m with
 | zero=>
  intro ns h
  have:ns=[]:=List.length_eq_zero_iff.mp h
  subst this
  exact ⟨[],rfl,Nat.le_refl _⟩
 | succ m ih=>
  intro ns h
  obtain ⟨l,x,rfl⟩:∃l x,ns=l ++ [x]:=⟨ns.dropLast,ns.getLast (by intro z;rw [z] at h;simp at h),(List.dropLast_concat_getLast _).symm⟩
  obtain ⟨ks,e,hl⟩:=ih l (by simpa using h)
  rw [bU]
  cases hv:aY (aF ins ws l) (.inr x) with
  | some u=>exact ⟨ks,by rw [eQ hv];exact e,by rw [List.length_append];omega⟩
  | none=>
   refine ⟨ks ++ [x],?_,by rw [List.length_append,List.length_append];simp;omega⟩
   have hv2:=bc (.inr x) (aF ins ws l)
   rw [hv] at hv2
   unfold bi
   rw [if_neg (by rw [hv2];simp),List.map_append,e,List.map_append]
   rfl
end GO
local macro_rules | `(tactic| simp_arith [$ts,*])=>`(tactic| simp only [L2.vp,L2.uT,L2.vq,L2.uU,L2.vt,L2.uV,L2.vv,L2.uW,L2.vw,L2.uX,L2.vx,L2.uY,L2.vy,L2.uZ,L2.vz,L2.v0,L2.vA,L2.v5,L2.vB,L2.v6,L2.rX,L2.rl,L2.rY,L2.rm,L2.rZ,L2.rn,L2.sd,L2.rp,L2.se,L2.rq,L2.sf,L2.rA,L2.sg,L2.rB,L2.sh,L2.rC,L2.r_c,L2.ve,L2.vi,L2.vo,L2.y_I,L2.y_U,L2.rg,L2.rh,L2.ou,L2.nP,L2.jO,L2.oC,L2.r_B,L2.r9,L2.vf,L2.rN,L2.nB,L2.ox,L2.v7,L2.ow,L2.vg,L2.nK,L2.rO,L2.rD,L2.rc,L2.uQ,L2.rM,L2.nG,L2.nF,L2.rR,L2.rL,L2.nI,L2.vh,L2.ij,L2.oz,L2.nQ,L2.jQ,L2.rF,L2.vd,L2.v9,L2.nY,L2.nZ,L2.o1,L2.oa,L2.oe,L2.og,L2.oh,L2.rk,L2.jS,L2.nU,L2.jT,L2.jU,L2.nL,L2.nM,L2.rj,L2.uS,L2.re,L2.rH,L2.rG,L2.rJ,L2.rf,L2.rP,L2.ii,L2.nN,L2.nW,L2.nS,true_and,and_true,forall_const,Int.reduceLT,L2.jL,L2.fT,L2.rS,L2.r_isi_int_str,L2.r_isi_str_str,L2.rQ,L2.rE,L2.lO,L2.pd,L2.qS,L2.nD,L2.nE,List.map_cons,List.map_nil,List.getElem?_cons_zero,List.getElem?_cons_succ,Option.join_some,L2.uR,L2.nX,L2.jY,L2.jN,L2.nJ,L2.nO,L2.nR,List.set_cons_zero,List.set_cons_succ,L2.v8,L2.oB,L2.nT,L2.oq,L2.oo,L2.jM,L2.jR,L2.oi,L2.oA,L2.fU,$ts,*])
namespace K51
open PySem L2 PyProof.Rows FD FB FS FO FR FG
def top(i:Nat):Stmt:=PySem.Challenge.pw_deedloom_k51_tables_run.main.body.getD i (.Pass ⟨0,0,0,0⟩)
abbrev bR:Stmt:=gx (top 1) 0
theorem cI:aB ["self","width","ins","boxes","rows"] ["self","width","ins","boxes","rows"] (aq bR):=⟨rfl,rfl,rfl,by decide +kernel,rfl,by decide +kernel,by decide +kernel⟩
abbrev im:Stmt:=top 2
theorem ld:aB ["rows"] ["rows"] (aq im):=⟨rfl,rfl,rfl,by decide +kernel,rfl,by decide +kernel,by decide +kernel⟩
abbrev dk:Stmt:=top 3
theorem fw:aB ["row"] ["row"] (aq dk):=⟨rfl,rfl,rfl,by decide +kernel,rfl,by decide +kernel,by decide +kernel⟩
abbrev dm:Stmt:=top 4
theorem sc_word_count:aB ["width","many","bit"] ["width"] (aq dm):=⟨rfl,rfl,rfl,by decide +kernel,rfl,by decide +kernel,by decide +kernel⟩
abbrev ff:Stmt:=top 5
theorem io:aB ["op","x","y","width"] ["op","x","y","width"] (aq ff):=⟨rfl,rfl,rfl,by decide +kernel,rfl,by decide +kernel,by decide +kernel⟩
abbrev cM:Stmt:=top 7
theorem fh:aB ["deed"] ["deed"] (aq cM):=⟨rfl,rfl,rfl,by decide +kernel,rfl,by decide +kernel,by decide +kernel⟩
abbrev cK:Stmt:=top 8
theorem fg:aB ["deed"] ["deed"] (aq cK):=⟨rfl,rfl,rfl,by decide +kernel,rfl,by decide +kernel,by decide +kernel⟩
abbrev fZ:Stmt:=top 9
theorem jb:aB ["operand","boxes"] ["operand","boxes"] (aq fZ):=⟨rfl,rfl,rfl,by decide +kernel,rfl,by decide +kernel,by decide +kernel⟩
abbrev dX:Stmt:=top 10
theorem sc_word_made:aB ["deed","boxes","width","parts"] ["deed","boxes","width"] (aq dX):=⟨rfl,rfl,rfl,by decide +kernel,rfl,by decide +kernel,by decide +kernel⟩
abbrev cw:Stmt:=top 12
theorem er:aB ["ending","boxes"] ["ending","boxes"] (aq cw):=⟨rfl,rfl,rfl,by decide +kernel,rfl,by decide +kernel,by decide +kernel⟩
abbrev cL:Stmt:=top 14
theorem sc_first_boxes:aB ["program","words","boxes","name"] ["program","words"] (aq cL):=⟨rfl,rfl,rfl,by decide +kernel,rfl,by decide +kernel,by decide +kernel⟩
abbrev bI:Stmt:=gx (top 16) 0
theorem cx:aB ["self","program","table","words"] ["self","program","table","words"] (aq bI):=⟨rfl,rfl,rfl,by decide +kernel,rfl,by decide +kernel,by decide +kernel⟩
abbrev bS:Stmt:=gx (top 16) 1
theorem sc_TableRun_go_beat:aB ["self","state","after","deed","word","name"] ["self"] (aq bS):=⟨rfl,rfl,rfl,by decide +kernel,rfl,by decide +kernel,by decide +kernel⟩
abbrev dW:Stmt:=top 17
theorem sc_run_table:aB ["program","table","words","most","going","beats"] ["program","table","words","most"] (aq dW):=⟨rfl,rfl,rfl,by decide +kernel,rfl,by decide +kernel,by decide +kernel⟩
abbrev dh:Stmt:=top 19
theorem fu:aB ["_law_found"] ["_law_found"] (aq dh):=⟨rfl,rfl,rfl,by decide +kernel,rfl,by decide +kernel,by decide +kernel⟩
abbrev fX:Stmt:=top 20
theorem j9:aB ["_law_script","_law_k"] ["_law_script","_law_k"] (aq fX):=⟨rfl,rfl,rfl,by decide +kernel,rfl,by decide +kernel,by decide +kernel⟩
abbrev de:Stmt:=top 21
theorem sc__law_mixed:aB ["_law_cell","_law_k","_law_number"] ["_law_cell","_law_k"] (aq de):=⟨rfl,rfl,rfl,by decide +kernel,rfl,by decide +kernel,by decide +kernel⟩
abbrev dO:Stmt:=top 22
theorem sc__law_list:aB ["_law_found","_law_due","_law_k"] ["_law_found","_law_due"] (aq dO):=⟨rfl,rfl,rfl,by decide +kernel,rfl,by decide +kernel,by decide +kernel⟩
abbrev df:Stmt:=top 23
theorem sc__law_names:aB ["_law_number","_law_many","_law_letters","_law_some","_law_at_here","_law_names_here","_law_j","_law_spots"] ["_law_number","_law_many"] (aq df):=⟨rfl,rfl,rfl,by decide +kernel,rfl,by decide +kernel,by decide +kernel⟩
abbrev cv:Stmt:=top 24
theorem ej:aB ["_law_number","_law_names_here","_law_top"] ["_law_number","_law_names_here","_law_top"] (aq cv):=⟨rfl,rfl,rfl,by decide +kernel,rfl,by decide +kernel,by decide +kernel⟩
abbrev dN:Stmt:=top 25
theorem sc__law_deed:aB ["_law_number","_law_names_here","_law_top","_law_name","_law_one","_law_other","_law_way"] ["_law_number","_law_names_here","_law_top"] (aq dN):=⟨rfl,rfl,rfl,by decide +kernel,rfl,by decide +kernel,by decide +kernel⟩
abbrev dc:Stmt:=top 27
theorem sc__law_folds:aB ["_law_script","_law_start","_law_many","_law_k","_law_found","_law_some","_law_at_here","_law_left"] ["_law_script","_law_start","_law_many"] (aq dc):=⟨rfl,rfl,rfl,by decide +kernel,rfl,by decide +kernel,by decide +kernel⟩
abbrev di:Stmt:=top 29
theorem sc__law_words:aB ["_law_ins","_law_number","_law_width","_law_words_here","_law_k","_law_mixed_here"] ["_law_ins","_law_number","_law_width"] (aq di):=⟨rfl,rfl,rfl,by decide +kernel,rfl,by decide +kernel,by decide +kernel⟩
abbrev dU:Stmt:=top 30
theorem gH:aB ["_law_operand_here","_law_boxes"] ["_law_operand_here","_law_boxes"] (aq dU):=⟨rfl,rfl,rfl,by decide +kernel,rfl,by decide +kernel,by decide +kernel⟩
abbrev dP:Stmt:=top 31
theorem gE:aB ["_law_op","_law_x","_law_y","_law_width"] ["_law_op","_law_x","_law_y","_law_width"] (aq dP):=⟨rfl,rfl,rfl,by decide +kernel,rfl,by decide +kernel,by decide +kernel⟩
abbrev fY:Stmt:=top 32
theorem ja:aB ["_law_deed_here","_law_before","_law_boxes","_law_said","_law_width"] ["_law_deed_here","_law_before","_law_boxes","_law_said","_law_width"] (aq fY):=⟨rfl,rfl,rfl,by decide +kernel,rfl,by decide +kernel,by decide +kernel⟩
abbrev d9:Stmt:=top 34
theorem sc__law_begun:aB ["_law_drawn_here","_law_words_here","_law_boxes","_law_name"] ["_law_drawn_here","_law_words_here"] (aq d9):=⟨rfl,rfl,rfl,by decide +kernel,rfl,by decide +kernel,by decide +kernel⟩
abbrev dQ:Stmt:=top 36
theorem gF:aB ["_law_ending","_law_boxes"] ["_law_ending","_law_boxes"] (aq dQ):=⟨rfl,rfl,rfl,by decide +kernel,rfl,by decide +kernel,by decide +kernel⟩
abbrev dR:Stmt:=top 38
theorem gG:aB ["_law_deed_here"] ["_law_deed_here"] (aq dR):=⟨rfl,rfl,rfl,by decide +kernel,rfl,by decide +kernel,by decide +kernel⟩
abbrev c8:Stmt:=top 39
theorem sc__law_beat_fine:aB ["_law_deeds","_law_units_here","_law_written","_law_sort_here"] ["_law_deeds","_law_units_here"] (aq c8):=⟨rfl,rfl,rfl,by decide +kernel,rfl,by decide +kernel,by decide +kernel⟩
abbrev c9:Stmt:=top 40
theorem sc__law_table_run:aB ["_law_table","_law_drawn_here","_law_words_here","_law_most","_law_boxes","_law_said","_law_at_here","_law_k","_law_before","_law_deed_here"] ["_law_table","_law_drawn_here","_law_words_here","_law_most"] (aq c9):=⟨rfl,rfl,rfl,by decide +kernel,rfl,by decide +kernel,by decide +kernel⟩
abbrev dS:Stmt:=top 41
theorem sc__law_told:aB ["_law_found","_law_due","_law_name"] ["_law_found","_law_due"] (aq dS):=⟨rfl,rfl,rfl,by decide +kernel,rfl,by decide +kernel,by decide +kernel⟩
abbrev dg:Stmt:=top 42
theorem sc__law_state:aB ["_law_numbers","_law_names_here","_law_top","_law_many","_law_deeds","_law_k","_law_deed_here","_law_number","_law_ending"] ["_law_numbers","_law_names_here","_law_top","_law_many"] (aq dg):=⟨rfl,rfl,rfl,by decide +kernel,rfl,by decide +kernel,by decide +kernel⟩
abbrev rV:Stmt:=top 43
theorem sc_law:aB ["_law_script","_law_number","_law_names_here","_law_width","_law_ins","_law_drawn_here","_law_program","_law_many","_law_numbers","_law_table","_law_handed","_law_words_here","_law_kept","_law_most","_law_asked","_law_beats","_law_due","_law_found"] ["_law_script"] (aq rV):=⟨rfl,rfl,rfl,by decide +kernel,rfl,by decide +kernel,by decide +kernel⟩
set_option genInjectivity false in
structure Ad where
 C_Program:Addr
 C_TableRun:Addr
 f_Program___init__:Addr
 e_Program___init__:FuncData
 f_copied:Addr
 e_copied:FuncData
 f_copied_row:Addr
 e_copied_row:FuncData
 f_word_count:Addr
 e_word_count:FuncData
 f_reckoned:Addr
 e_reckoned:FuncData
 f_operands_of:Addr
 e_operands_of:FuncData
 f_box_written:Addr
 e_box_written:FuncData
 f_word_of:Addr
 e_word_of:FuncData
 f_word_made:Addr
 e_word_made:FuncData
 f_place_led_to:Addr
 e_place_led_to:FuncData
 f_first_boxes:Addr
 e_first_boxes:FuncData
 f_TableRun___init__:Addr
 e_TableRun___init__:FuncData
 f_TableRun_go_beat:Addr
 e_TableRun_go_beat:FuncData
 f_run_table:Addr
 e_run_table:FuncData
 f__law_whole:Addr
 e__law_whole:FuncData
 f__law_at:Addr
 e__law_at:FuncData
 f__law_mixed:Addr
 e__law_mixed:FuncData
 f__law_list:Addr
 e__law_list:FuncData
 f__law_names:Addr
 e__law_names:FuncData
 f__law_operand:Addr
 e__law_operand:FuncData
 f__law_deed:Addr
 e__law_deed:FuncData
 f__law_folds:Addr
 e__law_folds:FuncData
 f__law_words:Addr
 e__law_words:FuncData
 f__law_word:Addr
 e__law_word:FuncData
 f__law_made:Addr
 e__law_made:FuncData
 f__law_do:Addr
 e__law_do:FuncData
 f__law_begun:Addr
 e__law_begun:FuncData
 f__law_next:Addr
 e__law_next:FuncData
 f__law_sort:Addr
 e__law_sort:FuncData
 f__law_beat_fine:Addr
 e__law_beat_fine:FuncData
 f__law_table_run:Addr
 e__law_table_run:FuncData
 f__law_told:Addr
 e__law_told:FuncData
 f__law_state:Addr
 e__law_state:FuncData
 f_law:Addr
 e_law:FuncData
structure Txt(K:PySem.W.Frag)(mg:Str->Option Value)(t:Ad):Prop where
 c_Program:KlsAt K mg "Program" t.C_Program
 n_Program_width:NoAttr K t.C_Program "width"
 n_Program_ins:NoAttr K t.C_Program "ins"
 n_Program_boxes:NoAttr K t.C_Program "boxes"
 n_Program_rows:NoAttr K t.C_Program "rows"
 c_TableRun:KlsAt K mg "TableRun" t.C_TableRun
 n_TableRun_width:NoAttr K t.C_TableRun "width"
 n_TableRun_table:NoAttr K t.C_TableRun "table"
 n_TableRun_boxes:NoAttr K t.C_TableRun "boxes"
 n_TableRun_told:NoAttr K t.C_TableRun "told"
 n_TableRun_place:NoAttr K t.C_TableRun "place"
 d_Program___init__:c3 K t.C_Program "__init__" "Program.__init__" bR ["self","width","ins","boxes","rows"] t.f_Program___init__ t.e_Program___init__
 d_copied:aR K mg "copied" im ["rows"] t.f_copied t.e_copied
 d_copied_row:aR K mg "copied_row" dk ["row"] t.f_copied_row t.e_copied_row
 d_word_count:aR K mg "word_count" dm ["width"] t.f_word_count t.e_word_count
 d_reckoned:aR K mg "reckoned" ff ["op","x","y","width"] t.f_reckoned t.e_reckoned
 d_operands_of:aR K mg "operands_of" cM ["deed"] t.f_operands_of t.e_operands_of
 d_box_written:aR K mg "box_written" cK ["deed"] t.f_box_written t.e_box_written
 d_word_of:aR K mg "word_of" fZ ["operand","boxes"] t.f_word_of t.e_word_of
 d_word_made:aR K mg "word_made" dX ["deed","boxes","width"] t.f_word_made t.e_word_made
 d_place_led_to:aR K mg "place_led_to" cw ["ending","boxes"] t.f_place_led_to t.e_place_led_to
 d_first_boxes:aR K mg "first_boxes" cL ["program","words"] t.f_first_boxes t.e_first_boxes
 d_TableRun___init__:c3 K t.C_TableRun "__init__" "TableRun.__init__" bI ["self","program","table","words"] t.f_TableRun___init__ t.e_TableRun___init__
 d_TableRun_go_beat:c3 K t.C_TableRun "go_beat" "TableRun.go_beat" bS ["self"] t.f_TableRun_go_beat t.e_TableRun_go_beat
 d_run_table:aR K mg "run_table" dW ["program","table","words","most"] t.f_run_table t.e_run_table
 d__law_whole:aR K mg "_law_whole" dh ["_law_found"] t.f__law_whole t.e__law_whole
 d__law_at:aR K mg "_law_at" fX ["_law_script","_law_k"] t.f__law_at t.e__law_at
 d__law_mixed:aR K mg "_law_mixed" de ["_law_cell","_law_k"] t.f__law_mixed t.e__law_mixed
 d__law_list:aR K mg "_law_list" dO ["_law_found","_law_due"] t.f__law_list t.e__law_list
 d__law_names:aR K mg "_law_names" df ["_law_number","_law_many"] t.f__law_names t.e__law_names
 d__law_operand:aR K mg "_law_operand" cv ["_law_number","_law_names_here","_law_top"] t.f__law_operand t.e__law_operand
 d__law_deed:aR K mg "_law_deed" dN ["_law_number","_law_names_here","_law_top"] t.f__law_deed t.e__law_deed
 d__law_folds:aR K mg "_law_folds" dc ["_law_script","_law_start","_law_many"] t.f__law_folds t.e__law_folds
 d__law_words:aR K mg "_law_words" di ["_law_ins","_law_number","_law_width"] t.f__law_words t.e__law_words
 d__law_word:aR K mg "_law_word" dU ["_law_operand_here","_law_boxes"] t.f__law_word t.e__law_word
 d__law_made:aR K mg "_law_made" dP ["_law_op","_law_x","_law_y","_law_width"] t.f__law_made t.e__law_made
 d__law_do:aR K mg "_law_do" fY ["_law_deed_here","_law_before","_law_boxes","_law_said","_law_width"] t.f__law_do t.e__law_do
 d__law_begun:aR K mg "_law_begun" d9 ["_law_drawn_here","_law_words_here"] t.f__law_begun t.e__law_begun
 d__law_next:aR K mg "_law_next" dQ ["_law_ending","_law_boxes"] t.f__law_next t.e__law_next
 d__law_sort:aR K mg "_law_sort" dR ["_law_deed_here"] t.f__law_sort t.e__law_sort
 d__law_beat_fine:aR K mg "_law_beat_fine" c8 ["_law_deeds","_law_units_here"] t.f__law_beat_fine t.e__law_beat_fine
 d__law_table_run:aR K mg "_law_table_run" c9 ["_law_table","_law_drawn_here","_law_words_here","_law_most"] t.f__law_table_run t.e__law_table_run
 d__law_told:aR K mg "_law_told" dS ["_law_found","_law_due"] t.f__law_told t.e__law_told
 d__law_state:aR K mg "_law_state" dg ["_law_numbers","_law_names_here","_law_top","_law_many"] t.f__law_state t.e__law_state
 d_law:aR K mg "law" rV ["_law_script"] t.f_law t.e_law
 z_range:mg "range"=none
 z_isinstance:mg "isinstance"=none
 z_int:mg "int"=none
 z_bool:mg "bool"=none
 z_len:mg "len"=none
 z_str:mg "str"=none
 z_tuple:mg "tuple"=none
 z_sum:mg "sum"=none
 z_list:mg "list"=none
 z_dict:mg "dict"=none
 z_set:mg "set"=none
 z_sorted:mg "sorted"=none
end K51
variable {H:Hp} {u:TS}
namespace K51
open PySem L2 PyProof.Rows FD FB FS FO FR FG
def lC(u:TS)(D:bO):L2.St->Hp->Prop:=u D
theorem aM{u:TS}{D:bO}{σ:L2.St}(h:u D σ H):lC u D σ H:=h
theorem tY{t:TS}{D:bO}{σ:L2.St}:qJ t u D σ H=t {D with nx:=lC u D} σ H:=rfl
theorem tW{t:TS}{D:bO}{σ:L2.St}:qI t u D σ H=∃Mid:L2.St->Hp->Prop,t {D with nx:=Mid} σ H/\∀σ' H',Mid σ' H'->lC u D σ' H':=rfl
end K51
local macro_rules | `(tactic| simp_arith! [$ts,*])=>`(tactic| simp only [L2.vp,L2.uT,L2.vq,L2.uU,L2.vt,L2.uV,L2.vv,L2.uW,L2.vw,L2.uX,L2.vx,L2.uY,L2.vy,L2.uZ,L2.vz,L2.v0,L2.vA,L2.v5,L2.vB,L2.v6,L2.rX,L2.rl,L2.rY,L2.rm,L2.rZ,L2.rn,L2.sd,L2.rp,L2.se,L2.rq,L2.sf,L2.rA,L2.sg,L2.rB,L2.sh,L2.rC,L2.r_c,L2.ve,L2.vi,L2.vo,L2.y_I,L2.y_U,L2.rg,L2.rh,L2.ou,L2.nP,L2.jO,L2.oC,L2.r_B,L2.r9,L2.vf,L2.rN,L2.nB,L2.ox,L2.v7,L2.ow,K51.tY,L2.nK,L2.rO,L2.rD,L2.rc,L2.uQ,L2.rM,L2.nG,L2.nF,L2.rR,L2.rL,L2.nI,L2.vh,L2.ij,L2.oz,L2.nQ,L2.jQ,L2.rF,L2.vd,L2.v9,L2.nY,L2.nZ,L2.o1,L2.oa,L2.oe,L2.og,L2.oh,L2.rk,L2.jS,L2.nU,L2.jT,L2.jU,L2.nL,L2.nM,L2.rj,L2.uS,L2.re,L2.rH,L2.rG,L2.rJ,L2.rf,L2.rP,L2.ii,L2.nN,L2.nW,L2.nS,true_and,and_true,forall_const,Int.reduceLT,L2.jL,L2.fT,L2.rS,L2.r_isi_int_str,L2.r_isi_str_str,L2.rQ,L2.rE,L2.lO,L2.pd,L2.qS,L2.nD,L2.nE,List.map_cons,List.map_nil,List.getElem?_cons_zero,List.getElem?_cons_succ,Option.join_some,L2.uR,L2.nX,L2.jY,L2.jN,L2.nJ,L2.nO,L2.nR,List.set_cons_zero,List.set_cons_succ,K51.tW,L2.oB,L2.nT,L2.oq,L2.oo,L2.jM,L2.jR,L2.oi,L2.oA,L2.fU,$ts,*])
namespace K51
open PySem L2 PyProof.Rows FD FB FS FO FR FG
def iB:Sp:=fun vs H Q _=>∃c k:Int,vs=[.int c,.int k]/\Builtin.Int.intBits c<=2 ^ 20/\0<=k/\k<=1000/\Q (.int (eV c k)) H
theorem bW{c k:Int}{H:Hp}{Q:VK}{E:XK}:iB [.int c,.int k] H Q E=(Builtin.Int.intBits c<=2 ^ 20/\0<=k/\k<=1000/\Q (.int (eV c k)) H):=propext ⟨by rintro ⟨_,_,e,q⟩;cases e;exact q,by intro q;exact ⟨c,k,rfl,q⟩⟩
def rW(K:PySem.W.Frag):Sp:=fun vs H Q _=>∃(a:Addr)(ns:List Int)(k:Int),vs=[.ref a,.int k]/\SqL K H a (ns.map V.int)/\0<=k/\Q (.int (atF ns k)) H
section
variable {P:Program} {w:World} {K:PySem.W.Frag} {mg:Str->Option Value} {base:Heap} {t:Ad}
theorem nC{a:Addr}{k:Int}{H:Hp}{Q:VK}{E:XK}:rW K [.ref a,.int k] H Q E=∃ns:List Int,SqL K H a (ns.map V.int)/\0<=k/\Q (.int (atF ns k)) H:=propext ⟨by rintro ⟨_,ns,_,e,q⟩;cases e;exact ⟨ns,q⟩,by rintro ⟨ns,q⟩;exact ⟨a,ns,k,rfl,q⟩⟩
theorem eY(T:Txt K mg t):FnOk P w K mg base CX0 1 t.f__law_mixed t.e__law_mixed ["_law_cell","_law_k"] iB:=by
 refine T.d__law_mixed.F.ok sc__law_mixed (fun vs H Q E h=>by obtain ⟨_,_,rfl,_⟩:=h;rfl) (fun cdv A outer s H vs Q E hr h=>?_)
 obtain ⟨c,k,rfl,hb,k0,k1,q⟩:=h
 refine ⟨_,
   (XSs.h
   (ac
    (aE (ao ui (yqv 0 vl) (ai km ab ab) (ay _))
     (ag
      (am (ai aA (ai aH (ai dy (yqv 0 vl) (ai km ab ab)) (ai cG ab (ai aZ ab (ai aA (yqv 1 vl) ab)))) (ai cG ab ab))))
     av)
   (ac
    (ar (i:=2) sc__law_mixed.nd rfl ll (ai aA (ai aQ (ai aQ (ai aZ (yqv 0 vl) ab) (ai aZ (ai aZ ab (yqv 1 vl)) (yqv 1 vl))) (yqv 1 vl)) ab))
   (ac
    (ar (i:=2) sc__law_mixed.nd rfl ll (ai aA (ai aZ (yqv 2 vl) (yqv 2 vl)) ab))
   (ag
    (am (ai aA (ai aZ (yqv 2 vl) ab) ab))))))),?_⟩
 rw [show aL _ [V.int c,V.int k]=[some (.int c),some (.int k),none] from rfl]
 simp_arith []
 unfold eV at q
 have cp:kq 10 40:=⟨by decide,by decide,by decide⟩
 refine ⟨cp,aw (fun e=>?_) (fun e=>?_)⟩
 ·rw [if_pos e] at q
  have m0:0<=k % 60:=Int.emod_nonneg _ (by decide)
  have m1:k % 60 < 60:=Int.emod_lt_of_pos _ (by decide)
  refine ⟨cp,.inl ⟨by decide,by decide⟩,⟨by omega,by omega,by decide⟩,FA.CDivB.pow (by omega),⟨by decide,by decide,by decide⟩,by decide,q⟩
 ·rw [if_neg e] at q
  have n0:0<=(c * 1103515245+7919 * k * k+k) % 2147483647:=Int.emod_nonneg _ (by decide)
  have n1:(c * 1103515245+7919 * k * k+k) % 2147483647 < 2147483647:=Int.emod_lt_of_pos _ (by decide)
  refine ⟨.inr ⟨by decide,by decide⟩,.inl ⟨by decide,by decide⟩,.inr ⟨by omega,by omega⟩,.inl ⟨by omega,by omega⟩,.inr ⟨by decide,by decide⟩,q⟩
theorem uw(T:Txt K mg t):FnOk P w K mg base CX0 1 t.f__law_at t.e__law_at ["_law_script","_law_k"] (rW K):=by
 refine T.d__law_at.F.ok j9 (fun vs H Q E h=>by obtain ⟨_,_,_,rfl,_⟩:=h;rfl) (fun cdv A outer s H vs Q E hr h=>?_)
 obtain ⟨a,ns,k,rfl,hS,k0,q⟩:=h
 refine ⟨_,
   (XSs.h
   (ac
    (aE (ao cV (yqv 1 vl) (az aC gl T.z_len PySem.boot_len (aa (yqv 0 vl) ad)) (ay _))
     (ag
      (am (al aJ (yqv 0 vl) (yqv 1 vl) (fun _ _=>rfl))))
     av)
   (ag
    (am ab)))),?_⟩
 rw [show aL _ [V.ref a,V.int k]=[some (.ref a),some (.int k)] from rfl]
 simp_arith []
 unfold atF at q
 refine ⟨_,.inl hS,aw (fun e=>?_) (fun e=>?_)⟩
 ·rw [List.length_map] at e
  rw [if_pos e] at q
  obtain ⟨n,rfl⟩:=Int.eq_ofNat_of_zero_le k0
  have hn:n < ns.length:=by omega
  refine ⟨_,_,hS,b8 (by rw [List.getElem?_map,List.getElem?_eq_getElem hn];rfl),?_⟩
  rw [Int.toNat_natCast,List.getD_eq_getElem?_getD,List.getElem?_eq_getElem hn] at q
  exact q
 ·rw [List.length_map] at e
  rw [if_neg e] at q
  exact q
end
def sp_law(K:PySem.W.Frag):Sp:=fun vs H Q _=>∃(a:Addr)(ns:List Int),vs=[.ref a]/\SqL K H a (ns.map V.int)/\ns.length<=63/\(∀z∈ns,Builtin.Int.intBits z<=2 ^ 20)/\∀H',Q (.bl true) H'
def iF(K:PySem.W.Frag):Sp:=fun vs H Q _=>∃(x:V)(k:String),vs=[x]/\cm K H x k/\Q (.bl (decide (k="int"))) H
section
variable {P:Program} {w:World} {K:PySem.W.Frag} {mg:Str->Option Value} {base:Heap} {t:Ad}
theorem i8(T:Txt K mg t):FnOk P w K mg base CX0 1 t.f__law_whole t.e__law_whole ["_law_found"] (iF K):=by
 refine T.d__law_whole.F.ok fu (fun vs H Q E h=>by obtain ⟨_,_,rfl,_⟩:=h;rfl) (fun cdv A outer s H vs Q E hr h=>?_)
 obtain ⟨x,k,rfl,hk,q⟩:=h
 refine ⟨_,
   (XSs.h
   (ag
    (am (gM (az bC gl T.z_isinstance boot_isinstance (aa (yqv 0 vl) (aa (bG (v:=.ty "int") gl T.z_int boot_int rfl) ad))) (ki (qL (az bC gl T.z_isinstance boot_isinstance (aa (yqv 0 vl) (aa (bG (v:=.ty "bool") gl T.z_bool boot_bool rfl) ad))))))))),?_⟩
 rw [show aL _ [x]=[some x] from rfl]
 simp_arith []
 refine ⟨x,"int",k,rfl,by decide +kernel,hk,_,rfl,i0 (fun e=>⟨x,"bool",k,rfl,by decide +kernel,hk,_,rfl,?_⟩) (fun e=>?_)⟩
 ·have h:k="int"\/k="bool":=by
   unfold cR at e
   rw [Bool.or_eq_true,Bool.and_eq_true] at e
   rcases e with e | e
   ·exact .inl (by simpa using e)
   ·exact .inr (by simpa using e.1)
  rcases h with rfl | rfl
  ·exact q
  ·exact q
 ·have h:¬k="int":=fun z=>by subst z;exact absurd e (by decide +kernel)
  rw [decide_eq_false h] at q
  exact q
theorem fV{i:Int}{H:Hp}{Q:VK}{E:XK}:iF K [.int i] H Q E=Q (.bl true) H:=propext ⟨by rintro ⟨_,_,e,k,q⟩;cases e;cases k;exact q,by intro q;exact ⟨_,_,rfl,.int,q⟩⟩
end
def iC:Sp:=fun vs H Q _=>∃n m:Int,vs=[.int n,.int m]/\0<=n/\0<=m/\m<=8/\∀p H',Same H H'->H p=none->H' p=some (.lst ((cS n m.toNat).map V.str))->Q (.ref p) H'
theorem qC{n m:Int}{H:Hp}{Q:VK}{E:XK}:iC [.int n,.int m] H Q E=(0<=n/\0<=m/\m<=8/\∀p H',Same H H'->H p=none->H' p=some (.lst ((cS n m.toNat).map V.str))->Q (.ref p) H'):=propext ⟨by rintro ⟨_,_,e,q⟩;cases e;exact q,by intro q;exact ⟨n,m,rfl,q⟩⟩
section
variable {P:Program} {w:World} {K:PySem.W.Frag} {mg:Str->Option Value} {base:Heap} {t:Ad}
theorem qF{n:Int}:(List.range (1+n % 6).toNat).map (fun i:Nat=>V.int (n / ((i:Int)+1) % 26))=(bg n).map V.int:=by unfold bg;rw [List.map_map];rfl
def cO(n:Int)(j:Nat):List Int:=(List.range (bg n).length).map fun k:Nat=>(bg n).getD k 0+3 * (j:Int) * (if decide ((k:Int)=n / 64 % ((bg n).length:Int))=true then 1 else 0)
theorem lh{n:Int}{j:Nat}:Txt.join "" ((cO n j).map cu)=jD n j:=by unfold cO jD;rw [List.map_map];rfl
theorem iV{z:Int}:(cu z).length=1:=rfl
theorem oQ{xs:List Int}:((xs.map cu).map (·.length)).sum=xs.length:=by
 induction xs with
 | nil=>rfl
 | cons x xs ih=>rw [List.map_cons,List.map_cons,List.sum_cons,ih,iV,List.length_cons];omega
theorem mO(T:Txt K mg t):FnOk P w K mg base CX0 1 t.f__law_names t.e__law_names ["_law_number","_law_many"] iC:=by
 refine T.d__law_names.F.ok sc__law_names (fun vs H Q E h=>by obtain ⟨_,_,rfl,_⟩:=h;rfl) (fun cdv A outer s H vs Q E hr h=>?_)
 obtain ⟨n,m,rfl,n0,m0,m8,q⟩:=h
 refine ⟨_,
   (XSs.h
   (ac
    (ar (i:=2) sc__law_names.nd rfl lc aG)
   (ac
    (ar (i:=3) sc__law_names.nd rfl lc (cE (tns:=["_law_k"]) (cns:=["_law_number"]) (ci:=[0]) rfl (CompSc.of (by kernel_rfl)) (aV gl T.z_range (aa (ai aQ ab (ai aA (yqv 0 vc) ab)) ad)) (fun _=>(aI (i:=1) (show List.Nodup [(".0":Str),("_law_k":Str),("_law_number":Str)] by decide +kernel) rfl ll (Or.inr (by kernel_rfl)))) (fun _=>bZ) (fun _=>(ai aA (ai aH (yqv 2 vc) (ai aQ (yqv 1 vl) ab)) ab))))
   (ac
    (ar (i:=4) sc__law_names.nd rfl lc (ai aA (ai aH (yqv 0 vc) ab) (az aC gl T.z_len PySem.boot_len (aa (yqv 3 vc) ad))))
   (ac
    (ar (i:=5) sc__law_names.nd rfl ll (aW ad))
   (ac
    (ba PassesOwn.never rfl (aV gl T.z_range (aa (yqv 1 vl) ad)) (aI (i:=6) sc__law_names.nd rfl lc)
     (ac
      (bo (i:=7) sc__law_names.nd rfl ll rfl (by kernel_rfl) (tns:=["_law_k"]) (cns:=["_law_some","_law_at_here","_law_j"]) (ci:=[3,4,6]) rfl (CompSc.of (by kernel_rfl)) (aV gl T.z_range (aa (az aC gl T.z_len PySem.boot_len (aa (yqv 3 vc) ad)) ad)) (fun _=>(aI (i:=1) (show List.Nodup [(".0":Str),("_law_k":Str),("_law_some":Str),("_law_at_here":Str),("_law_j":Str)] by decide +kernel) rfl ll (Or.inr (by kernel_rfl)))) (fun _=>bZ) (fun _=>(ai aQ (al aJ (yqv 2 vc) (yqv 1 vl) (fun _ _=>rfl)) (ai aZ (ai aZ ab (yqv 4 vc)) (aO bM gl T.z_int boot_int (aa (br aU (yqv 1 vl) (yqv 3 vc) (ay _)) ad))))))
     (ag
      (bF (dE PySem.F.plainAttrs_list PySem.F.slot_list_append PySem.F.type_list_append bN (yqv 5 vl) (aa (dE PySem.F.plainAttrs_str PySem.F.slot_str_join PySem.F.type_str_join pQ aG (aa (cE (tns:=["_law_spot"]) (cns:=["_law_letters"]) (ci:=[2]) rfl (CompSc.of (by kernel_rfl)) (bj (yqv 7 vl)) (fun _=>(aI (i:=1) (show List.Nodup [(".0":Str),("_law_spot":Str),("_law_letters":Str)] by decide +kernel) rfl ll (Or.inr (by kernel_rfl)))) (fun _=>bZ) (fun _=>(al sE (yqv 2 vc) (ai aA (yqv 1 vl) ab) (fun _ _=>rfl)))) ad)) ad))))))
   (ac
    (aE (ao aU (ai aA (ai aH (yqv 0 vc) ab) ab) ab (ay _))
     (ag
      (ar (i:=5) sc__law_names.nd rfl ll (bA dq (aW (bw (by rfl))) cc (bE (yqv 1 vl)))))
     av)
   (ag
    (am (yqv 5 vl)))))))))),?_⟩
 rw [show aL _ [V.int n,V.int m]=[some (.int n),some (.int m),none,none,none,none,none,none] from rfl]
 simp_arith []
 have z0:0<=n % 6:=Int.emod_nonneg _ (by decide)
 have z1:n % 6 < 6:=Int.emod_lt_of_pos _ (by decide)
 have hln:=gJ n
 have hl1:1<=(bg n).length/\(bg n).length<=6:=by omega
 refine ⟨by omega,by omega,fun acc hacc bk=>js (fun i=>V.int (n / ((i:Int)+1) % 26)) (by rw [sizeLine_eq];omega) hacc (fun i hi H3 Q' s3 h=>?_) ?_⟩
 ·simp_arith []
  exact ⟨CDivB.small (by omega) (by omega),h⟩
 rw [qF]
 unfold cS at q
 have sA:Same H (upd H acc (.lst ((bg n).map V.int))):=Same.upd hacc
 refine ⟨CDivB.small (by decide) (by decide),_,.inl (SqL.of ae),by rw [List.length_map];omega,fun p0 hp0=>⟨by omega,by omega,?_⟩⟩
 have hq0:H p0=none:=sA.free hp0
 rw [List.length_map]
 refine bv (fun j σ H'=>Same (upd H acc (.lst ((bg n).map V.int))) H'/\H' p0=some (.lst ((List.range j).map fun i=>V.str (jD n i)))/\∃o6 o7,σ=[some (.int n),some (.int m),some (.str "abcdefghijklmnopqrstuvwxyz"),some (.ref acc),some (.int (n / 64 % ((bg n).length:Int))),some (.ref p0),o6,o7])
  ⟨Same.upd hp0,ae,_,_,rfl⟩ ?_ ?_
 ·rintro j σ H' hj ⟨sm,hl,o6,o7,rfl⟩
  simp_arith []
  have hA:H' acc=some (.lst ((bg n).map V.int)):=sm _ _ ae
  refine ⟨_,.inl (SqL.of hA),by rw [List.length_map];omega,by rw [List.length_map];omega,fun b hb bk=>?_⟩
  rw [Int.toNat_natCast,List.length_map]
  refine js (fun k=>V.int ((bg n).getD k 0+3 * (j:Int) * (if decide ((k:Int)=n / 64 % ((bg n).length:Int))=true then 1 else 0))) (by rw [sizeLine_eq];omega) hb (fun k hk H3 Q' s3 h=>?_) ?_
  ·simp_arith []
   refine ⟨_,_,SqL.of (s3 _ _ hA),b8 (v:=V.int ((bg n).getD k 0)) (by rw [List.getElem?_map,List.getD_eq_getElem?_getD,List.getElem?_eq_getElem hk];rfl),?_⟩
   simp_arith []
   refine ⟨.inl ⟨by decide,by decide⟩,.inl ⟨by omega,by omega⟩,h⟩
  have e1:(List.range (bg n).length).map (fun k:Nat=>V.int ((bg n).getD k 0+3 * (j:Int) * (if decide ((k:Int)=n / 64 % ((bg n).length:Int))=true then 1 else 0)))=(cO n j).map V.int:=by unfold cO;rw [List.map_map];rfl
  rw [e1]
  have s1:=Same.upd (o:=.lst ((cO n j).map V.int)) hb
  have hs6:(cO n j).length<=6:=by unfold cO;simp;omega
  refine ⟨.inl ⟨rfl,_,SqL.of (s1 _ _ hl)⟩,⟨_,SqL.of ae⟩,fun c hc bk2=>?_⟩
  refine pG (fun x=>match x with | .int i=>.str (cu i) | _=>.non) (by rw [List.length_map,sizeLine_eq];omega) (SqL.of ae) hc (fun x hx H3 Q' s3 h=>?_) ?_
  ·obtain ⟨i,_,rfl⟩:=List.mem_map.mp hx
   simp_arith []
   exact ⟨by decide +kernel,_,FA.sJ i,h⟩
  have e2:((cO n j).map V.int).map (fun x=>match x with | .int i=>V.str (cu i) | _=>.non)=((cO n j).map cu).map V.str:=by rw [List.map_map,List.map_map];rfl
  rw [e2]
  have s2:=s1.updN (o:=.lst (((cO n j).map cu).map V.str)) hc
  refine ⟨_,SqL.of ae,?_,_,s2 _ _ hl,?_,(sm.trans s2).updM hp0,?_,_,_,rfl⟩
  ·rw [oQ,List.length_map]
   have:("":Str).length=0:=by decide +kernel
   rw [this];omega
  ·rw [List.length_map,List.length_range,sizeLine_eq];omega
  ·rw [ae,lh,List.range_succ,List.map_append];rfl
 ·rintro σ H' ⟨sm,hl,o6,o7,rfl⟩
  simp_arith []
  refine ⟨CDivB.small (by decide) (by decide),aw (fun e=>?_) (fun e=>?_)⟩
  ·rw [if_pos e] at q
   intro b hb
   refine ⟨_,SqL.of ae,fun c hc=>?_⟩
   refine q c _ ((sA.trans sm).trans ((Same.upd hb).updN hc)) ((sA.trans sm).free ((Same.upd hb).free hc)) ?_
   rw [ae,gr m0,List.map_take]
   rfl
  ·rw [if_neg e] at q
   refine q p0 H' (sA.trans sm) hq0 ?_
   rw [hl,List.map_map];rfl
end
structure NmsV(K:PySem.W.Frag)(H:Hp)(b:Addr)(ns:List Str)(wd:Int):Prop where
 at_:SqL K H b (ns.map V.str)
 pos:0 < ns.length
 few:ns.length<=8
 w1:1<=wd
 w8:wd<=8
theorem NmsV.same{K:PySem.W.Frag}{H H':Hp}{b:Addr}{ns:List Str}{wd:Int}(h:NmsV K H b ns wd)(s:Same H H'):NmsV K H' b ns wd:=⟨s.seq h.at_,h.pos,h.few,h.w1,h.w8⟩
def jr(K:PySem.W.Frag)(n:Int)(b:Addr)(top:Int)(H:Hp)(Q:VK):Prop:=∃(ns:List Str)(wd:Int),top=1 * 2 ^ wd.toNat/\NmsV K H b ns wd/\∀(o:Opd)H',Same H H'->Opd.good ns wd o->Q o.v H'
def k9(K:PySem.W.Frag):Sp:=fun vs H Q _=>∃(n:Int)(b:Addr)(top:Int),vs=[.int n,.ref b,.int top]/\jr K n b top H Q
section
variable {P:Program} {w:World} {K:PySem.W.Frag} {mg:Str->Option Value} {base:Heap} {t:Ad}
theorem oy{n:Int}{b:Addr}{top:Int}{H:Hp}{Q:VK}{E:XK}:k9 K [.int n,.ref b,.int top] H Q E=jr K n b top H Q:=propext ⟨by rintro ⟨_,_,_,e,q⟩;cases e;exact q,fun q=>⟨_,_,_,rfl,q⟩⟩
theorem gA{ns:List Str}{x:Int}(h:0 < ns.length):∃n∈ns,atI (ns.map V.str) (x % ((ns.map V.str).length:Int))=some (V.str n):=by
 have l0:(0:Int) < ((ns.map V.str).length:Int):=by rw [List.length_map];omega
 have h0:=Int.emod_nonneg x (show ((ns.map V.str).length:Int)≠0 by omega)
 have h1:=Int.emod_lt_of_pos x l0
 generalize x % ((ns.map V.str).length:Int)=y at h0 h1
 obtain ⟨m,rfl⟩:∃m:Nat,y=(m:Int):=⟨y.toNat,by omega⟩
 rw [List.length_map] at h1
 refine ⟨ns[m],List.getElem_mem (by omega),b8 ?_⟩
 rw [List.getElem?_map,List.getElem?_eq_getElem (by omega)];rfl
theorem pW(T:Txt K mg t):FnOk P w K mg base CX0 1 t.f__law_operand t.e__law_operand ["_law_number","_law_names_here","_law_top"] (k9 K):=by
 refine T.d__law_operand.F.ok ej (fun vs H Q E h=>by obtain ⟨_,_,_,rfl,_⟩:=h;rfl) (fun cdv A outer s H vs Q E hr h=>?_)
 obtain ⟨n,b,top,rfl,ns,wd,htop,hN,q⟩:=h
 have hp:(0:Int) < top:=by rw [htop,Int.one_mul];exact Int.pow_pos (by decide)
 refine ⟨_,
   (XSs.h
   (ac
    (aE (ao aU (ai aA (yqv 0 vl) ab) ab (ay _))
     (ag
      (am (ai aA (al aJ (aW (aa (ai aA (ai aH (yqv 0 vl) ab) (yqv 2 vl)) (aa (ai dy (yqv 2 vl) ab) (bw (by rfl))))) (ai aA (ai aH (yqv 0 vl) ab) ab) (fun _ _=>rfl)) (yqv 2 vl))))
     av)
   (ag
    (am (al aJ (yqv 1 vl) (ai aA (ai aH (yqv 0 vl) ab) (az aC gl T.z_len PySem.boot_len (aa (yqv 1 vl) ad))) (fun _ _=>rfl)))))),?_⟩
 rw [show aL _ [V.int n,V.ref b,V.int top]=[some (.int n),some (.ref b),some (.int top)] from rfl]
 simp_arith []
 refine aw (fun _=>⟨CDivB.small (by decide) (by decide),hp,fun p hp0=>⟨CDivB.small (by decide) (by decide),?_⟩⟩) (fun _=>?_)
 ·have s1:=Same.upd (o:=.lst [V.int (n / 12 % top),V.int (top - 1),V.int 0,V.int 1]) hp0
  obtain ⟨z,hz⟩:∃z:Int,atI [V.int (n / 12 % top),V.int (top - 1),V.int 0,V.int 1] (n / 3 % 4)=some (V.int z):=by
   rcases (by omega:n / 3 % 4=0\/n / 3 % 4=1\/n / 3 % 4=2\/n / 3 % 4=3) with e | e | e | e <;> rw [e]
   ·exact ⟨_,rfl⟩
   ·exact ⟨_,rfl⟩
   ·exact ⟨_,rfl⟩
   ·exact ⟨_,rfl⟩
  refine ⟨_,_,SqL.of ae,hz,hp,q (.word (z % top)) _ s1 ⟨Int.emod_nonneg _ (by omega),?_⟩⟩
  have:=Int.emod_lt_of_pos z hp
  rw [htop,Int.one_mul] at this ⊢
  exact this
 ·obtain ⟨m,hm,he⟩:=gA (ns:=ns) (x:=n / 3) hN.pos
  exact ⟨CDivB.small (by decide) (by decide),_,.inl hN.at_,by rw [List.length_map];have:=hN.pos;omega,_,_,hN.at_,he,q (.box m) H (Same.refl _) hm⟩
end
def gO(K:PySem.W.Frag)(n:Int)(b:Addr)(top:Int)(H:Hp)(Q:VK):Prop:=∃(ns:List Str)(wd:Int),top=1 * 2 ^ wd.toNat/\NmsV K H b ns wd/\∀(d:Deed)q H',Same H H'->H' q=some (.tup d.vs)->d.fine->Deed.good ns wd d->Q (.ref q) H'
def iu(K:PySem.W.Frag):Sp:=fun vs H Q _=>∃(n:Int)(b:Addr)(top:Int),vs=[.int n,.ref b,.int top]/\gO K n b top H Q
section
variable {P:Program} {w:World} {K:PySem.W.Frag} {mg:Str->Option Value} {base:Heap} {t:Ad}
theorem eC{n:Int}{b:Addr}{top:Int}{H:Hp}{Q:VK}{E:XK}:iu K [.int n,.ref b,.int top] H Q E=gO K n b top H Q:=propext ⟨by rintro ⟨_,_,_,e,q⟩;cases e;exact q,fun q=>⟨_,_,_,rfl,q⟩⟩
theorem mH(T:Txt K mg t):FnOk P w K mg base CX0 2 t.f__law_deed t.e__law_deed ["_law_number","_law_names_here","_law_top"] (iu K):=by
 have G__law_operand:=pW (P:=P) (w:=w) (base:=base) T
 refine T.d__law_deed.F.ok sc__law_deed (fun vs H Q E h=>by obtain ⟨_,_,_,rfl,_⟩:=h;rfl) (fun cdv A outer s H vs Q E hr h=>?_)
 obtain ⟨n,b,top,rfl,ns,wd,htop,hN,q⟩:=h
 refine ⟨_,
   (XSs.h
   (ac
    (ar (i:=3) sc__law_deed.nd rfl ll (al aJ (yqv 1 vl) (ai aA (ai aH (yqv 0 vl) ab) (az aC gl T.z_len PySem.boot_len (aa (yqv 1 vl) ad))) (fun _ _=>rfl)))
   (ac
    (ar (i:=4) sc__law_deed.nd rfl ll (aj T.d__law_operand G__law_operand (hr.mono (by first | decide | omega)) (aa (ai aH (yqv 0 vl) ab) (aa (yqv 1 vl) (aa (yqv 2 vl) ad))) gl))
   (ac
    (ar (i:=5) sc__law_deed.nd rfl ll (aj T.d__law_operand G__law_operand (hr.mono (by first | decide | omega)) (aa (ai aH (yqv 0 vl) ab) (aa (yqv 1 vl) (aa (yqv 2 vl) ad))) gl))
   (ac
    (ar (i:=6) sc__law_deed.nd rfl ll (ai aA (yqv 0 vl) ab))
   (ac
    (aE (ao cV (yqv 6 vl) ab (ay _))
     (ag
      (am (b7 (aa aG (aa (yqv 4 vl) ad)))))
     av)
   (ac
    (aE (ao aU (yqv 6 vl) ab (ay _))
     (ag
      (am (b7 (aa aG (aa (yqv 3 vl) (aa (yqv 4 vl) ad))))))
     av)
   (ag
    (am (b7 (aa (al aJ (aW (bw (by rfl))) (ai dy (yqv 6 vl) ab) (fun _ _=>rfl)) (aa (yqv 3 vl) (aa (yqv 4 vl) (aa (yqv 5 vl) ad)))))))))))))),?_⟩
 rw [show aL _ [V.int n,V.ref b,V.int top]=[some (.int n),some (.ref b),some (.int top),none,none,none,none] from rfl]
 simp_arith [oy]
 obtain ⟨c,hc,he⟩:=gA (ns:=ns) (x:=n / 10) hN.pos
 refine ⟨CDivB.small (by decide) (by decide),_,.inl hN.at_,by rw [List.length_map];have:=hN.pos;omega,_,_,hN.at_,he,CDivB.small (by decide) (by decide),ns,wd,htop,hN,fun o H1 s1 ho=>?_⟩
 simp_arith [oy]
 refine ⟨CDivB.small (by decide) (by decide),ns,wd,htop,hN.same s1,fun o2 H2 s2 ho2=>?_⟩
 have s12:=s1.trans s2
 refine aw (fun _ p hp=>q (.tell o) p _ (s12.updN hp) ae trivial ho) (fun h2=>?_)
 refine aw (fun _ p hp=>q (.copy c o) p _ (s12.updN hp) ae trivial ⟨hc,ho⟩) (fun h3=>?_)
 intro p hp
 have m0:0<=n % 10:=Int.emod_nonneg _ (by decide)
 have m1:n % 10 < 10:=Int.emod_lt_of_pos _ (by decide)
 obtain ⟨f,hf,hfe⟩:∃f∈opsL,atI [V.str "plus",V.str "less",V.str "and",V.str "or",V.str "xor",V.str "below",V.str "same"] (n % 10 - 3)=some (V.str f):=by
  rcases (by omega:n % 10 - 3=0\/n % 10 - 3=1\/n % 10 - 3=2\/n % 10 - 3=3\/n % 10 - 3=4\/n % 10 - 3=5\/n % 10 - 3=6) with e | e | e | e | e | e | e <;> rw [e]
  ·exact ⟨"plus",by decide +kernel,rfl⟩
  ·exact ⟨"less",by decide +kernel,rfl⟩
  ·exact ⟨"and",by decide +kernel,rfl⟩
  ·exact ⟨"or",by decide +kernel,rfl⟩
  ·exact ⟨"xor",by decide +kernel,rfl⟩
  ·exact ⟨"below",by decide +kernel,rfl⟩
  ·exact ⟨"same",by decide +kernel,rfl⟩
 refine ⟨_,_,SqL.of ae,hfe,fun p2 hp2=>?_⟩
 exact q (.op f c o o2) p2 _ ((s12.updN hp).updN hp2) ae hf ⟨hf,hc,ho,ho2⟩
end
def gP(K:PySem.W.Frag)(a:Addr)(st:Int)(m:Int)(H:Hp)(Q:VK):Prop:=∃(ns:List Int)(many:Nat),m=(many:Int)/\0 < many/\many<=100/\0<=st/\st<=10/\SqL K H a (ns.map V.int)/\(∀z∈ns,Builtin.Int.intBits z<=2 ^ 20)/\∀p (fs:List Int) H',Same H H'->H p=none->H' p=some (.lst (fs.map V.int))->fs.length=many->Q (.ref p) H'
def ix(K:PySem.W.Frag):Sp:=fun vs H Q _=>∃(a:Addr)(st m:Int),vs=[.ref a,.int st,.int m]/\gP K a st m H Q
section
variable {P:Program} {w:World} {K:PySem.W.Frag} {mg:Str->Option Value} {base:Heap} {t:Ad}
theorem qA{a:Addr}{st m:Int}{H:Hp}{Q:VK}{E:XK}:ix K [.ref a,.int st,.int m] H Q E=gP K a st m H Q:=propext ⟨by rintro ⟨_,_,_,e,q⟩;cases e;exact q,fun q=>⟨_,_,_,rfl,q⟩⟩
theorem mJ(T:Txt K mg t):FnOk P w K mg base CX0 2 t.f__law_folds t.e__law_folds ["_law_script","_law_start","_law_many"] (ix K):=by
 have G__law_mixed:=eY (P:=P) (w:=w) (base:=base) T
 refine T.d__law_folds.F.ok sc__law_folds (fun vs H Q E h=>by obtain ⟨_,_,_,rfl,_⟩:=h;rfl) (fun cdv A outer s H vs Q E hr h=>?_)
 obtain ⟨a,st,m,rfl,ns,many,rfl,m0,m1,st0,st1,ha,hb,q⟩:=h
 refine ⟨_,
   (XSs.h
   (ac
    (bo (i:=4) sc__law_folds.nd rfl ll rfl (by kernel_rfl) (tns:=["_law_k"]) (cns:=[]) (ci:=[]) rfl (CompSc.of (by kernel_rfl)) (aV gl T.z_range (aa (yqv 2 vl) ad)) (fun _=>(aI (i:=1) (show List.Nodup [(".0":Str),("_law_k":Str)] by decide +kernel) rfl ll (Or.inr (by kernel_rfl)))) (fun _=>bZ) (fun _=>(ai aQ (ai aZ (ai aZ (yqv 1 vl) (yqv 1 vl)) ab) ab)))
   (ac
    (ar (i:=5) sc__law_folds.nd rfl ll (bA dq (yqv 0 vl) cc (bE ab)))
   (ac
    (ba PassesOwn.never rfl (jl gl T.z_range (aa (yqv 1 vl) (aa (az aC gl T.z_len PySem.boot_len (aa (yqv 5 vl) ad)) ad))) (aI (i:=3) sc__law_folds.nd rfl ll)
     (ac
      (ar (i:=6) sc__law_folds.nd rfl ll (ai aA (yqv 3 vl) (yqv 2 vl)))
     (ac
      (ar (i:=7) sc__law_folds.nd rfl ll (ai aQ (ai aQ (ai aZ (al aJ (yqv 4 vl) (yqv 6 vl) (fun _ _=>rfl)) ab) (ai aZ (aj T.d__law_mixed G__law_mixed (hr.mono (by first | decide | omega)) (aa (al aJ (yqv 5 vl) (yqv 3 vl) (fun _ _=>rfl)) (aa (yqv 3 vl) ad)) gl) ab)) (aj T.d__law_mixed G__law_mixed (hr.mono (by first | decide | omega)) (aa (al aJ (yqv 5 vl) (yqv 3 vl) (fun _ _=>rfl)) (aa (ai aQ (yqv 3 vl) ab) ad)) gl)))
     (ag
      (qP (ai aA (yqv 7 vl) ab) (qM (yqv 4 vl) (yqv 6 vl) oI))))))
   (ag
    (am (yqv 4 vl))))))),?_⟩
 rw [show aL _ [V.ref a,V.int st,V.int many]=[some (.ref a),some (.int st),some (.int many),none,none,none,none,none] from rfl]
 simp_arith [bW]
 refine ⟨by omega,by omega,fun acc hacc bk=>?_⟩
 rw [Int.toNat_natCast]
 refine lM (fun _=>true) (fun k:Nat=>V.int ((k:Int) * k * 7919+5)) (by rw [sizeLine_eq];omega) hacc (fun i _ H1 Q' _ h=>h H1 (Same.refl _)) (fun i hi H1 Q' s1 _ h=>?_) (fun H1 s1 h1=>?_)
 ·simp_arith []
  exact ⟨.inl ⟨by omega,by omega⟩,.inr ⟨by decide,by decide⟩,h H1 (Same.refl _)⟩
 obtain ⟨fs0,hfs0,lf0⟩:∃fs0:List Int,((List.range many).filter fun _=>true).map (fun k:Nat=>V.int ((k:Int) * k * 7919+5))=fs0.map V.int/\fs0.length=many:=by
  refine ⟨(List.range many).map fun k:Nat=>(k:Int) * k * 7919+5,?_,by simp⟩
  rw [List.map_map,List.filter_eq_self.mpr (fun _ _=>rfl)]
  rfl
 rw [hfs0] at h1
 refine ⟨_,s1.seq ha,fun ps hps=>?_⟩
 rw [gr (by decide),<- List.map_take]
 have t2:=Same.upd (o:=.lst ((ns.take (Int.toNat 63)).map V.int)) hps
 have hbt:∀z∈ns.take (Int.toNat 63),Builtin.Int.intBits z<=2 ^ 20:=fun z hz=>hb z (List.mem_of_mem_take hz)
 have lt:(ns.take (Int.toNat 63)).length<=63:=by rw [List.length_take];exact Nat.min_le_left ..
 generalize ns.take (Int.toNat 63)=cs at t2 hbt lt ⊢
 have hpa:ps≠acc:=fun z=>by rw [z,h1] at hps;cases hps
 have hps2:upd H1 ps (.lst (cs.map V.int)) ps=some (.lst (cs.map V.int)):=ae
 generalize upd H1 ps (.lst (cs.map V.int))=H2 at t2 hps2 ⊢
 refine ⟨_,.inl (SqL.of hps2),⟨by omega,by omega,by omega,by rw [List.length_map];omega⟩,?_⟩
 rw [List.length_map]
 refine hZ (fun i σ H'=>Same H H'/\H' ps=some (.lst (cs.map V.int))/\∃(fs:List Int)(o3 o6 o7:Option V),H' acc=some (.lst (fs.map V.int))/\fs.length=many/\σ=[some (.ref a),some (.int st),some (.int many),o3,some (.ref acc),some (.ref ps),o6,o7])
  ⟨s1.trans t2,hps2,fs0,_,_,_,t2 _ _ h1,lf0,rfl⟩ ?_ ?_
 ·rintro i σ H3 hi ⟨s3,hp3,fs,o3,o6,o7,hf3,lf,rfl⟩
  simp_arith [bW]
  have hsi:∃j:Nat,st+(i:Int)=(j:Int)/\j < cs.length:=⟨(st+i).toNat,by omega,by omega⟩
  obtain ⟨j,hj,hjl⟩:=hsi
  rw [hj]
  obtain ⟨mm,hmm,hml⟩:∃mm:Nat,(j:Int) % (many:Int)=(mm:Int)/\mm < many:=⟨j % many,by omega,Nat.mod_lt _ m0⟩
  rw [hmm]
  have hcj:(cs.map V.int)[j]?=some (.int cs[j]):=by rw [List.getElem?_map,List.getElem?_eq_getElem hjl];rfl
  have hfm:(fs.map V.int)[mm]?=some (.int fs[mm]):=by rw [List.getElem?_map,List.getElem?_eq_getElem (by omega)];rfl
  refine ⟨by omega,_,_,SqL.of hf3,b8 hfm,?_⟩
  simp_arith [bW]
  refine ⟨.inr ⟨by decide,by decide⟩,_,_,SqL.of hp3,b8 hcj,?_⟩
  simp_arith [bW]
  refine ⟨hbt _ (List.getElem_mem hjl),by omega,by omega,.inr ⟨by decide,by decide⟩,_,_,SqL.of hp3,b8 hcj,?_⟩
  simp_arith [bW]
  refine ⟨hbt _ (List.getElem_mem hjl),by omega,by omega,acc,_,_,mm,rfl,rfl,hf3,FL.pO (by rw [List.length_map];omega),s3.updM hacc,?_,?_⟩
  ·rw [ap hpa];exact hp3
  ·refine ⟨fs.set mm _,_,_,_,by rw [ae,List.map_set],by rw [List.length_set];exact lf,rfl⟩
 ·rintro σ H3 ⟨s3,hp3,fs,o3,o6,o7,hf3,lf,rfl⟩
  simp_arith []
  exact q acc fs H3 s3 hacc hf3 lf
end
def cD(K:PySem.W.Frag)(d:Nat):Sp:=fun vs H Q _=>∃(a:Addr)(xs:List V)(ss:List Stm)(f:List Addr),vs=[.ref a]/\H a=some (.lst xs)/\StmsV K H xs ss f/\cZ ss < d/\ck ss<=1000/\
 ∀p ys g H',Same H H'->H' p=some (.lst ys)->StmsV K H' ys ss g->(p :: g).Nodup->(∀c∈p :: g,H c=none)->Q (.ref p) H'
def dr(K:PySem.W.Frag)(d:Nat):Sp:=fun vs H Q _=>∃(x:V)(s:Stm)(f:List Addr),vs=[x]/\StmV K H x s f/\s.deep < d/\s.many<=1000/\
 ∀y g H',Same H H'->StmV K H' y s g->g.Nodup->(∀c∈g,H c=none)->Q y H'
section
variable {P:Program} {w:World} {K:PySem.W.Frag} {mg:Str->Option Value} {base:Heap} {t:Ad}
theorem nH{d:Nat}{x:V}{H:Hp}{Q:VK}{E:XK}:dr K d [x] H Q E=∃(s:Stm)(f:List Addr),StmV K H x s f/\s.deep < d/\s.many<=1000/\∀y g H',Same H H'->StmV K H' y s g->g.Nodup->(∀c∈g,H c=none)->Q y H':=
 propext ⟨by rintro ⟨_,s,f,e,q⟩;cases e;exact ⟨s,f,q⟩,by rintro ⟨s,f,q⟩;exact ⟨x,s,f,rfl,q⟩⟩
theorem b1{d:Nat}{a:Addr}{H:Hp}{Q:VK}{E:XK}:cD K d [.ref a] H Q E=∃(xs:List V)(ss:List Stm)(f:List Addr),H a=some (.lst xs)/\StmsV K H xs ss f/\cZ ss < d/\ck ss<=1000/\
 ∀p ys g H',Same H H'->H' p=some (.lst ys)->StmsV K H' ys ss g->(p :: g).Nodup->(∀c∈p :: g,H c=none)->Q (.ref p) H':=
 propext ⟨by rintro ⟨_,xs,ss,f,e,q⟩;cases e;exact ⟨xs,ss,f,q⟩,by rintro ⟨xs,ss,f,q⟩;exact ⟨a,xs,ss,f,rfl,q⟩⟩
theorem dG(T:Txt K mg t)(d:Nat)(G_copied_row:FnOk P w K mg base CX0 (2 * d+1) t.f_copied_row t.e_copied_row ["row"] (dr K d)):FnOk P w K mg base CX0 (2 * d+2) t.f_copied t.e_copied ["rows"] (cD K d):=by
 refine T.d_copied.F.ok ld (fun vs H Q E h=>by obtain ⟨_,_,_,_,rfl,_⟩:=h;rfl) (fun cdv A outer s H vs Q E hr h=>?_)
 obtain ⟨a,xs,ss,f,rfl,ha,hx,hd,hl,q⟩:=h
 refine ⟨_,
   (XSs.h
   (ag
    (am (cE (tns:=["row"]) (cns:=[]) (ci:=[]) rfl (CompSc.of (by kernel_rfl)) (bj (yqv 0 vl)) (fun _=>(aI (i:=1) (show List.Nodup [(".0":Str),("row":Str)] by decide +kernel) rfl ll (Or.inr (by kernel_rfl)))) (fun _=>bZ) (fun _=>(aj T.d_copied_row G_copied_row (hr.mono (by first | decide | omega)) (aa (yqv 1 vl) ad) gl)))))),?_⟩
 rw [show aL _ [V.ref a]=[some (.ref a)] from rfl]
 simp_arith [nH]
 refine ⟨⟨_,SqL.of ha⟩,fun acc hacc bk=>?_⟩
 have lx:=hx.length
 have lm:=mk ss
 refine cY (xs:=xs) (fun i ys H'=>Same H H'/\H' acc=some (.lst ys)/\ys.length=i/\∃g,StmsV K H' ys (ss.take i) g/\(acc :: g).Nodup/\∀c∈acc :: g,H c=none) ?_ ?_ ?_ ?_
 ·exact ⟨Same.upd hacc,ae,rfl,[],.nil,by simp,fun c hc=>by rw [List.mem_singleton.mp hc];exact hacc⟩
 ·intro i ys H' _ h;exact SqL.of (h.1 _ _ ha)
 ·rintro i x ys H' os hxi ho ⟨sm,hacc2,ly,g,hg,nd,fr⟩
  match os,ho with
  | [o],_=>
   simp_arith [nH]
   refine ⟨⟨[some x],rfl,rfl⟩,?_⟩
   rw [if_pos trivial]
   obtain ⟨s,f',hs,hsv,_⟩:=hx.get hxi
   have hi:i < ss.length:=(List.getElem?_eq_some_iff.mp hs).1
   have hse:ss[i]=s:=(List.getElem?_eq_some_iff.mp hs).2
   have hds:=kE (List.mem_of_getElem? hs)
   refine ⟨s,f',hsv.same sm,by omega,by have:=mq (List.mem_of_getElem? hs);omega,fun y g2 H2 s2 hy nd2 fr2=>?_⟩
   have na:acc∉g:=(List.nodup_cons.mp nd).1
   have na2:acc∉g2:=fun z=>by rw [fr2 acc z] at hacc2;cases hacc2
   have tt:TSame H2 (upd H2 acc (.lst (ys ++ [y]))):=TSame.updL (s2 _ _ hacc2)
   refine ⟨s2 _ _ hacc2,by rw [sizeLine_eq];omega,(sm.trans s2).updM hacc,ae,by simp [ly],g ++ g2,?_,?_,fun c hc=>?_⟩
   ·rw [List.take_succ_eq_append_getElem hi,hse]
    exact ((hg.same s2).keep tt (Kept.upd na)).snoc (hy.keep tt (Kept.upd na2))
   ·refine List.nodup_cons.mpr ⟨fun z=>(List.mem_append.mp z).elim na na2,fP (List.nodup_cons.mp nd).2 nd2 fun c h1 h2=>?_⟩
    obtain ⟨zs,hz⟩:=hg.tracked c h1
    rw [fr2 c h2] at hz;cases hz
   ·rcases List.mem_cons.mp hc with z | z
    ·rw [z];exact hacc
    ·rcases List.mem_append.mp z with z | z
     ·exact fr c (List.mem_cons_of_mem _ z)
     ·exact sm.free (fr2 c z)
 ·rintro ys H' ⟨sm,hacc2,ly,g,hg,nd,fr⟩
  rw [lx,List.take_length] at hg
  exact q acc ys g H' sm hacc2 hg nd fr
theorem kA(T:Txt K mg t)(d:Nat)(G_copied:FnOk P w K mg base CX0 (2 * d+2) t.f_copied t.e_copied ["rows"] (cD K d)):FnOk P w K mg base CX0 (2 * (d+1)+1) t.f_copied_row t.e_copied_row ["row"] (dr K (d+1)):=by
 refine T.d_copied_row.F.ok fw (fun vs H Q E h=>by obtain ⟨_,_,_,rfl,_⟩:=h;rfl) (fun cdv A outer s H vs Q E hr h=>?_)
 obtain ⟨x,s,f,rfl,hx,hd,hm,q⟩:=h
 refine ⟨_,
   (XSs.h
   (ac
    (aE (ao aU (al ax (yqv 0 vl) ab (fun _ _=>rfl)) aG (ay _))
     (ag
      (am (b7 (aa aG (aa (al ax (yqv 0 vl) ab (fun _ _=>rfl)) (aa (aj T.d_copied G_copied (hr.mono (by first | decide | omega)) (aa (al ax (yqv 0 vl) ab (fun _ _=>rfl)) ad) gl) (aa (aj T.d_copied G_copied (hr.mono (by first | decide | omega)) (aa (al ax (yqv 0 vl) ab (fun _ _=>rfl)) ad) gl) ad)))))))
     av)
   (ac
    (aE (ao aU (al ax (yqv 0 vl) ab (fun _ _=>rfl)) aG (ay _))
     (ag
      (am (b7 (aa aG (aa (al ax (yqv 0 vl) ab (fun _ _=>rfl)) (aa (aj T.d_copied G_copied (hr.mono (by first | decide | omega)) (aa (al ax (yqv 0 vl) ab (fun _ _=>rfl)) ad) gl) ad))))))
     av)
   (ag
    (am (yqv 0 vl)))))),?_⟩
 rw [show aL _ [x]=[some x] from rfl]
 cases hx with
 | @deed q0 dd hf hq=>
  simp_arith [b1]
  refine qT hf hq (by decide +kernel) (by decide +kernel) (by decide +kernel) ⟨_,rfl,?_⟩
  rw [if_neg Bool.false_ne_true]
  refine qT hf hq (by decide +kernel) (by decide +kernel) (by decide +kernel) ⟨_,rfl,?_⟩
  rw [if_neg Bool.false_ne_true]
  exact q _ [] H (Same.refl H) (.deed hf hq) (by simp) (fun c hc=>by cases hc)
 | @ifs q0 a b n xs ys ones others f g hq ha hb h1 h2=>
  simp only [Stm.deep,Stm.many] at hd hm
  simp_arith [b1]
  refine ⟨_,_,hq,rfl,?_⟩
  simp_arith [b1]
  refine aw (fun _=>⟨_,_,hq,rfl,_,_,hq,rfl,?_⟩) (fun z=>absurd trivial z)
  simp_arith [b1]
  refine ⟨xs,ones,f,ha,h1,by omega,by omega,fun p1 zs1 g1 H1 s1 e1 k1 nd1 fr1=>⟨_,_,s1.seqT hq,rfl,?_⟩⟩
  simp_arith [b1]
  refine ⟨ys,others,g,s1 _ _ hb,h2.same s1,by omega,by omega,fun p2 zs2 g2 H2 s2 e2 k2 nd2 fr2 p3 hp3=>?_⟩
  have s3:=Same.upd (o:=.tup [V.str "if",V.str n,V.ref p1,V.ref p2]) hp3
  have s12:=s1.trans s2
  refine q _ (p1 :: p2 :: (g1 ++ g2)) _ (s12.trans s3) (.ifs (SqT.of ae) (s3 _ _ (s2 _ _ e1)) (s3 _ _ e2) ((k1.same s2).same s3) (k2.same s3)) ?_ (fun c hc=>?_)
  ·have dj:∀c∈p1 :: g1,c∉p2 :: g2:=fun c h1 h2=>by
    have ex:∃u,H1 c=some u:=by
     rcases List.mem_cons.mp h1 with z | z
     ·exact ⟨_,by rw [z];exact e1⟩
     ·obtain ⟨u,hu⟩:=k1.tracked c z;exact ⟨_,hu⟩
    obtain ⟨u,hu⟩:=ex
    rw [fr2 c h2] at hu;cases hu
   have n5:=fP nd1 nd2 dj
   refine (List.Perm.nodup_iff ?_).mp n5
   rw [List.cons_append]
   exact .cons _ List.perm_middle
  ·rcases List.mem_cons.mp hc with z | z
   ·rw [z];exact fr1 p1 (by simp)
   rcases List.mem_cons.mp z with z | z
   ·rw [z];exact s1.free (fr2 p2 (by simp))
   rcases List.mem_append.mp z with z | z
   ·exact fr1 c (List.mem_cons_of_mem _ z)
   ·exact s1.free (fr2 c (List.mem_cons_of_mem _ z))
 | @whl q0 a n xs rows f hq ha h1=>
  simp only [Stm.deep,Stm.many] at hd hm
  simp_arith [b1]
  refine ⟨_,_,hq,rfl,?_⟩
  simp_arith [b1]
  refine aw (fun z=>absurd z (by decide +kernel)) (fun _=>⟨_,_,hq,rfl,?_⟩)
  simp_arith [b1]
  refine aw (fun _=>⟨_,_,hq,rfl,_,_,hq,rfl,?_⟩) (fun z=>absurd trivial z)
  simp_arith [b1]
  refine ⟨xs,rows,f,ha,h1,by omega,by omega,fun p1 zs1 g1 H1 s1 e1 k1 nd1 fr1 p3 hp3=>?_⟩
  have s3:=Same.upd (o:=.tup [V.str "while",V.str n,V.ref p1]) hp3
  exact q _ (p1 :: g1) _ (s1.trans s3) (.whl (SqT.of ae) (s3 _ _ e1) (k1.same s3)) nd1 fr1
theorem fQ(T:Txt K mg t):∀d,FnOk P w K mg base CX0 (2 * d+1) t.f_copied_row t.e_copied_row ["row"] (dr K d)/\FnOk P w K mg base CX0 (2 * d+2) t.f_copied t.e_copied ["rows"] (cD K d)
 | 0=>by
  have h0:FnOk P w K mg base CX0 (2 * 0+1) t.f_copied_row t.e_copied_row ["row"] (dr K 0):=⟨fun vs H Q E h=>by obtain ⟨_,_,_,_,_,h,_⟩:=h;omega,fun _ _ _ _ _ _ _ _ _ _ _ _ _ h=>by obtain ⟨_,_,_,_,_,h,_⟩:=h;omega⟩
  exact ⟨h0,dG T 0 h0⟩
 | d+1=>by
  have h1:=kA T d (fQ T d).2
  exact ⟨h1,dG T (d+1) h1⟩
end
def jq(K:PySem.W.Frag)(C:Addr)(d:Nat)(p:Addr)(a0:Addr)(b0:Addr)(r0:Addr)(wd:Int)(H:Hp)(Q:VK):Prop:=∃(dx:Addr)(ins:List Str)(oth:List Str)(xs:List V)(ss:List Stm)(f:List Addr),H p=some (.ins C dx [])/\
 H a0=some (.lst (ins.map V.str))/\H b0=some (.lst (oth.map V.str))/\H r0=some (.lst xs)/\StmsV K H xs ss f/\cZ ss < d/\ck ss<=1000/\ins.length<=1000/\oth.length<=1000/\
 ∀a b r ys g H',SameX p H H'->ProgAt K C H' p wd ins oth ss a b r ys g->(a :: b :: r :: g).Nodup->(∀c∈a :: b :: r :: g,H c=none)->Q .non H'
def jZ(K:PySem.W.Frag)(C:Addr)(d:Nat):Sp:=fun vs H Q _=>∃(p:Addr)(a0:Addr)(b0:Addr)(r0:Addr)(wd:Int),vs=[.ref p,.int wd,.ref a0,.ref b0,.ref r0]/\jq K C d p a0 b0 r0 wd H Q
section
variable {P:Program} {w:World} {K:PySem.W.Frag} {mg:Str->Option Value} {base:Heap} {t:Ad}
theorem pT(T:Txt K mg t)(d:Nat):FnOk P w K mg base CX0 (2 * d+3) t.f_Program___init__ t.e_Program___init__ ["self","width","ins","boxes","rows"] (jZ K t.C_Program d):=by
 have G_copied:=(fQ (P:=P) (w:=w) (base:=base) T d).2
 refine T.d_Program___init__.F.ok cI (fun vs H Q E h=>by obtain ⟨_,_,_,_,_,rfl,_⟩:=h;rfl) (fun cdv A outer s H vs Q E hr h=>?_)
 obtain ⟨p,a0,b0,r0,wd,rfl,dx,ins,oth,xs,ss,f,hp,ha,hb,hr0,hx,hd,hm,hi,ho,q⟩:=h
 refine ⟨_,
   (XSs.h
   (ac
    (bt (yqv 0 vl) (yqv 1 vl) rfl)
   (ac
    (bt (yqv 0 vl) (aO bJ gl T.z_list boot_list (aa (yqv 2 vl) ad)) rfl)
   (ac
    (bt (yqv 0 vl) (ai j0 (aO bJ gl T.z_list boot_list (aa (yqv 2 vl) ad)) (aO bJ gl T.z_list boot_list (aa (yqv 3 vl) ad))) rfl)
   (ag
    (bt (yqv 0 vl) (aj T.d_copied G_copied (hr.mono (by first | decide | omega)) (aa (yqv 4 vl) ad) gl) rfl)))))),?_⟩
 rw [show aL _ [V.ref p,V.int wd,V.ref a0,V.ref b0,V.ref r0]=[some (.ref p),some (.int wd),some (.ref a0),some (.ref b0),some (.ref r0)] from rfl]
 simp_arith [b1]
 have na:a0≠p:=bp ha hp (by intro z;cases z)
 have nb:b0≠p:=bp hb hp (by intro z;cases z)
 have nr:r0≠p:=bp hr0 hp (by intro z;cases z)
 refine eO hp T.c_Program.cl T.n_Program_width (by simp) ?_
 rw [bh (by rfl),List.nil_append]
 obtain ⟨H1,hH1⟩:∃H1,H1=upd H p (.ins t.C_Program dx [("width",V.int wd)]):=⟨_,rfl⟩
 rw [<- hH1]
 have e1:H1 p=some (.ins t.C_Program dx [("width",V.int wd)]):=by rw [hH1];exact ae
 have s1:SameX p H H1:=by rw [hH1];exact SameX.upd
 have t1:TSame H H1:=by rw [hH1];exact TSame.updI hp
 simp_arith [b1]
 refine ⟨_,.inl (SqL.of (s1 _ _ ha na)),fun l1 hl1=>?_⟩
 have np1:p≠l1:=au e1 hl1
 refine eO (by rw [ap np1];exact e1) T.c_Program.cl T.n_Program_ins (by simp) ?_
 rw [bh (by kernel_rfl)]
 obtain ⟨H2,hH2⟩:∃H2,H2=upd (upd H1 l1 (.lst (ins.map V.str))) p (.ins t.C_Program dx ([(("width":Str),V.int wd)] ++ [(("ins":Str),V.ref l1)])):=⟨_,rfl⟩
 rw [<- hH2]
 have e2:H2 p=some (.ins t.C_Program dx ([(("width":Str),V.int wd)] ++ [(("ins":Str),V.ref l1)])):=by rw [hH2];exact ae
 have s2:SameX p H1 H2:=by rw [hH2];exact (SameX.of (Same.upd hl1)).trans SameX.upd
 have k2:H2 l1=some (.lst (ins.map V.str)):=by rw [hH2,ap np1.symm];exact ae
 have t2:TSame H1 H2:=by rw [hH2];exact (Same.upd hl1).ts.trans (TSame.updI (by rw [ap np1];exact e1))
 have s02:=s1.trans s2
 simp_arith [b1]
 refine ⟨_,.inl (SqL.of (s02 _ _ ha na)),fun l2 hl2=>?_⟩
 have s3:=Same.upd (o:=.lst (ins.map V.str)) hl2
 refine ⟨_,.inl (SqL.of (s3 _ _ (s02 _ _ hb nb))),fun l3 hl3=>?_⟩
 have s4:=s3.trans (Same.upd (o:=.lst (oth.map V.str)) hl3)
 refine ⟨_,_,(by rw [ap (au ae hl3)];exact ae),ae,(by rw [sizeLine_eq];simp only [List.length_map];omega),fun l4 hl4=>?_⟩
 have s5:=s4.trans (Same.upd (o:=.lst (ins.map V.str ++ oth.map V.str)) hl4)
 refine eO (s5 _ _ e2) T.c_Program.cl T.n_Program_boxes (by simp) ?_
 rw [bh (by kernel_rfl)]
 have np4:p≠l4:=au (s4 _ _ e2) hl4
 obtain ⟨H3,hH3⟩:∃H3,H3=upd (upd (upd (upd H2 l2 (.lst (ins.map V.str))) l3 (.lst (oth.map V.str))) l4 (.lst (ins.map V.str ++ oth.map V.str))) p (.ins t.C_Program dx ([(("width":Str),V.int wd)] ++ [(("ins":Str),V.ref l1)] ++ [(("boxes":Str),V.ref l4)])):=⟨_,rfl⟩
 rw [<- hH3]
 have e3:H3 p=some (.ins t.C_Program dx ([(("width":Str),V.int wd)] ++ [(("ins":Str),V.ref l1)] ++ [(("boxes":Str),V.ref l4)])):=by rw [hH3];exact ae
 have s23:SameX p H2 H3:=by rw [hH3];exact (SameX.of s5).trans SameX.upd
 have k4:H3 l4=some (.lst (ins.map V.str ++ oth.map V.str)):=by rw [hH3,ap np4.symm];exact ae
 have t3:TSame H2 H3:=by rw [hH3];exact s5.ts.trans (TSame.updI (s5 _ _ e2))
 have s03:=s02.trans s23
 simp_arith [b1]
 have pf:p∉f:=fun z=>by obtain ⟨zs,hz⟩:=hx.tracked p z;rw [hp] at hz;cases hz
 refine ⟨xs,ss,f,s03 _ _ hr0 nr,hx.keep ((t1.trans t2).trans t3) (fun c hc o e=>s03 c o e (fun z=>pf (by rw [<- z];exact hc))),hd,hm,fun r ys g H4 s34 e4 k5 nd fr=>?_⟩
 refine eO (s34 _ _ e3) T.c_Program.cl T.n_Program_rows (by simp) ?_
 rw [bh (by kernel_rfl)]
 have pg:p∉r :: g:=fun z=>by rw [fr p z] at e3;cases e3
 have npr:r≠p:=fun z=>pg (by rw [z];exact List.mem_cons_self)
 have nl1:l1≠p:=np1.symm
 have nl4:l4≠p:=np4.symm
 have n14:l1≠l4:=au (s4 _ _ k2) hl4
 have f1:H l1=none:=s1.free e1 hl1
 have f4:H l4=none:=s02.free e2 (s4.free hl4)
 have k3:H3 l1=some (.lst (ins.map V.str)):=s23 _ _ k2 nl1
 refine q l1 l4 r ys g _ (s03.trans ((SameX.of s34).trans SameX.upd)) ⟨⟨dx,ae⟩,?_,?_,?_,?_⟩ ?_ ?_
 ·rw [ap nl1];exact s34 _ _ k3
 ·rw [ap nl4,List.map_append];exact s34 _ _ k4
 ·rw [ap npr];exact e4
 ·exact k5.keep (TSame.updI (s34 _ _ e3)) (Kept.upd fun z=>pg (List.mem_cons_of_mem _ z))
 ·have a1:l1∉r :: g:=fun z=>by rw [fr l1 z] at k3;cases k3
  have a4:l4∉r :: g:=fun z=>by rw [fr l4 z] at k4;cases k4
  refine List.nodup_cons.mpr ⟨fun z=>?_,List.nodup_cons.mpr ⟨a4,nd⟩⟩
  rcases List.mem_cons.mp z with z | z
  ·exact n14 z
  ·exact a1 z
 ·intro c hc
  rcases List.mem_cons.mp hc with z | hc
  ·rw [z];exact f1
  rcases List.mem_cons.mp hc with z | hc
  ·rw [z];exact f4
  exact s03.free e3 (fr c hc)
end
end K51
variable {H:Hp}
namespace K51
open PySem L2 PyProof.Rows FD FB FS FO FR FG
section
variable {P:Program} {w:World} {K:PySem.W.Frag} {mg:Str->Option Value} {base:Heap} {t:Ad}
theorem jz{o:FB.Opd}{Q:VK}(h:Q (.bl (sD o.v)) H):j4 K [o.v,.ty "str"] H Q:=by
 cases o with
 | box n=>exact r_isi_str_str.mpr h
 | word i=>exact r_isi_int_str.mpr h
theorem j1{f:Str}(h:f∈FB.opsL):¬f="tell":=by
 rintro rfl
 revert h
 decide +kernel
theorem ix0{d:FB.Deed}{H:Hp}{a:Addr}{Z:V->Hp->Prop}(f:d.fine)(hS:SqT K H a d.vs)(h:Z (.bl d.tells) H):∃xs v,SqT K H a xs/\atI xs 0=some v/\rEq v (.str "tell") H Z:=by
 cases d with
 | tell o=>exact ⟨_,_,hS,rfl,rfl,h⟩
 | copy n o=>exact ⟨_,_,hS,rfl,rfl,h⟩
 | op g n o p=>
  refine ⟨_,_,hS,rfl,rfl,?_⟩
  have e:decide (V.str g=V.str "tell")=false:=decide_eq_false (fun z=>j1 f (V.str.inj z))
  rw [e];exact h
theorem vF{d:FB.Deed}{H:Hp}{a:Addr}{Z:V->Hp->Prop}(f:d.fine)(hS:SqT K H a d.vs)(h:Z (.bl (!d.tells)) H):∃xs v,SqT K H a xs/\atI xs 0=some v/\rNe v (.str "tell") H Z:=by
 obtain ⟨xs,v,h1,h2,h3,h4⟩:=ix0 (Z:=fun x H'=>∃b,x=.bl b/\Z (.bl (!b)) H') f hS ⟨_,rfl,h⟩
 obtain ⟨b,e,h4⟩:=h4
 cases e
 exact ⟨xs,v,h1,h2,h3,h4⟩
def wr(d:FB.Deed):Str:=d.writes.headD ""
theorem ix1{d:FB.Deed}{H:Hp}{a:Addr}{Z:V->Prop}(f:d.tells=false)(hS:SqT K H a d.vs)(h:Z (.str (wr d))):∃xs v,SqT K H a xs/\atI xs 1=some v/\Z v:=by
 cases d with
 | tell o=>cases f
 | copy n o=>exact ⟨_,_,hS,rfl,h⟩
 | op g n o p=>exact ⟨_,_,hS,rfl,h⟩
end
def cT:FB.Deed->List FB.Opd
 | .tell a=>[a]
 | .copy _ a=>[a]
 | .op _ _ a b=>[a,b]
def wrV(d:FB.Deed):V:=match d.writes with | []=>.non | n :: _=>.str n
def kd(K:PySem.W.Frag):Sp:=fun vs H Q _=>∃(a:Addr)(d:FB.Deed),vs=[.ref a]/\SqT K H a d.vs/\d.fine/\∀p,H p=none->Q (.ref p) (upd H p (.tup ((cT d).map FB.Opd.v)))
def fj(K:PySem.W.Frag):Sp:=fun vs H Q _=>∃(a:Addr)(d:FB.Deed),vs=[.ref a]/\SqT K H a d.vs/\d.fine/\Q (wrV d) H
theorem mU{d:FB.Deed}:(cT d).length<=2:=by cases d <;> simp [cT]
section
variable {P:Program} {w:World} {K:PySem.W.Frag} {mg:Str->Option Value} {base:Heap} {t:Ad}
theorem pX(T:Txt K mg t):FnOk P w K mg base CX0 1 t.f_operands_of t.e_operands_of ["deed"] (kd K):=by
 refine T.d_operands_of.F.ok fh (fun vs H Q E h=>by obtain ⟨_,_,rfl,_⟩:=h;rfl) (fun cdv A outer s H vs Q E hr h=>?_)
 obtain ⟨a,d,rfl,hS,hf,q⟩:=h
 refine ⟨_,
   (XSs.h
   (ag
    (am (bz (ao aU (al ax (yqv 0 vl) ab (fun _ _=>rfl)) aG (ay _)) (bA oJ (yqv 0 vl) (bE ab) cc) (bA oJ (yqv 0 vl) (bE ab) cc))))),?_⟩
 rw [show aL _ [V.ref a]=[some (.ref a)] from rfl]
 simp_arith []
 refine ix0 hf hS ⟨_,rfl,?_⟩
 cases d with
 | tell o=>exact ⟨_,hS,eW (k:=1) (show ¬HT.sIx 2 0 (some 1)=0 by decide),q⟩
 | copy n o=>exact ⟨_,hS,eW (k:=2) (show ¬HT.sIx 3 0 (some 2)=0 by decide),q⟩
 | op f n o o2=>exact ⟨_,hS,eW (k:=2) (show ¬HT.sIx 4 0 (some 2)=0 by decide),q⟩
theorem tX{a:Addr}{H:Hp}{Q:VK}{E:XK}:kd K [.ref a] H Q E=∃d:FB.Deed,SqT K H a d.vs/\d.fine/\∀p,H p=none->Q (.ref p) (upd H p (.tup ((cT d).map FB.Opd.v))):=propext ⟨by rintro ⟨_,d,e,q⟩;cases e;exact ⟨d,q⟩,by rintro ⟨d,q⟩;exact ⟨a,d,rfl,q⟩⟩
theorem iZ(T:Txt K mg t):FnOk P w K mg base CX0 1 t.f_box_written t.e_box_written ["deed"] (fj K):=by
 refine T.d_box_written.F.ok fg (fun vs H Q E h=>by obtain ⟨_,_,rfl,_⟩:=h;rfl) (fun cdv A outer s H vs Q E hr h=>?_)
 obtain ⟨a,d,rfl,hS,hf,q⟩:=h
 refine ⟨_,
   (XSs.h
   (ag
    (am (bz (ao aU (al ax (yqv 0 vl) ab (fun _ _=>rfl)) aG (ay _)) dw (al ax (yqv 0 vl) ab (fun _ _=>rfl)))))),?_⟩
 rw [show aL _ [V.ref a]=[some (.ref a)] from rfl]
 simp_arith []
 refine ix0 hf hS ⟨_,rfl,?_⟩
 cases d with
 | tell o=>exact q
 | copy n o=>exact ⟨_,_,hS,rfl,q⟩
 | op f n o o2=>exact ⟨_,_,hS,rfl,q⟩
theorem fW{a:Addr}{H:Hp}{Q:VK}{E:XK}:fj K [.ref a] H Q E=∃d:FB.Deed,SqT K H a d.vs/\d.fine/\Q (wrV d) H:=propext ⟨by rintro ⟨_,d,e,q⟩;cases e;exact ⟨d,q⟩,by rintro ⟨d,q⟩;exact ⟨a,d,rfl,q⟩⟩
end
def cN:Sp:=fun vs H Q _=>∃w:Int,vs=[.int w]/\0<=w/\w<=8/\Q (.int (2 ^ w.toNat)) H
theorem gC{w:Int}{H:Hp}{Q:VK}{E:XK}:cN [.int w] H Q E=(0<=w/\w<=8/\Q (.int (2 ^ w.toNat)) H):=propext ⟨by rintro ⟨_,e,q⟩;cases e;exact q,by intro q;exact ⟨w,rfl,q⟩⟩
def dY:Sp:=fun vs H Q _=>∃(op:Str)(x y w:Int),vs=[.str op,.int x,.int y,.int w]/\0<=w/\w<=8/\Q (.int (gD op x y w)) H
theorem j6{op:Str}{x y w:Int}{H:Hp}{Q:VK}{E:XK}:dY [.str op,.int x,.int y,.int w] H Q E=(0<=w/\w<=8/\Q (.int (gD op x y w)) H):=propext ⟨by rintro ⟨_,_,_,_,e,q⟩;cases e;exact q,by intro q;exact ⟨op,x,y,w,rfl,q⟩⟩
section
variable {P:Program} {w:World} {K:PySem.W.Frag} {mg:Str->Option Value} {base:Heap} {t:Ad}
theorem fq(T:Txt K mg t):FnOk P w K mg base CX0 1 t.f_word_count t.e_word_count ["width"] cN:=by
 refine T.d_word_count.F.ok sc_word_count (fun vs H Q E h=>by obtain ⟨_,rfl,_⟩:=h;rfl) (fun cdv A outer s H vs Q E hr h=>?_)
 obtain ⟨w,rfl,h0,h8,q⟩:=h
 refine ⟨_,
   (XSs.h
   (ac
    (ar (i:=1) sc_word_count.nd rfl ll ab)
   (ac
    (ba PassesOwn.never rfl (aV gl T.z_range (aa (yqv 0 vl) ad)) (aI (i:=2) sc_word_count.nd rfl ll)
     (ag
      (ar (i:=1) sc_word_count.nd rfl ll (ai aZ (yqv 1 vl) ab))))
   (ag
    (am (yqv 1 vl)))))),?_⟩
 rw [show aL _ [V.int w]=[some (.int w),none,none] from rfl]
 simp_arith []
 refine ⟨by omega,by omega,bv (fun i σ H'=>H'=H/\∃b,σ=[some (.int w),some (.int (2 ^ i)),b]) ⟨rfl,none,rfl⟩ ?_ ?_⟩
 ·rintro i σ H2 hi ⟨rfl,b,rfl⟩
  simp_arith []
  exact ⟨.inr ⟨by decide,by decide⟩,_,by rw [Int.pow_succ]⟩
 ·rintro σ H2 ⟨rfl,b,rfl⟩
  simp_arith []
  exact q
theorem i7(T:Txt K mg t):FnOk P w K mg base CX0 2 t.f_reckoned t.e_reckoned ["op","x","y","width"] dY:=by
 have G_word_count:=fq (P:=P) (w:=w) (base:=base) T
 refine T.d_reckoned.F.ok io (fun vs H Q E h=>by obtain ⟨_,_,_,_,rfl,_⟩:=h;rfl) (fun cdv A outer s H vs Q E hr h=>?_)
 obtain ⟨op,x,y,w,rfl,h0,h8,q⟩:=h
 refine ⟨_,
   (XSs.h
   (ac
    (aE (ao aU (yqv 0 vl) aG (ay _))
     (ag
      (am (ai aA (ai aQ (yqv 1 vl) (yqv 2 vl)) (aj T.d_word_count G_word_count (hr.mono (by first | decide | omega)) (aa (yqv 3 vl) ad) gl))))
     av)
   (ac
    (aE (ao aU (yqv 0 vl) aG (ay _))
     (ag
      (am (ai aA (ai dy (yqv 1 vl) (yqv 2 vl)) (aj T.d_word_count G_word_count (hr.mono (by first | decide | omega)) (aa (yqv 3 vl) ad) gl))))
     av)
   (ac
    (aE (ao aU (yqv 0 vl) aG (ay _))
     (ag
      (am (ai kl (yqv 1 vl) (yqv 2 vl))))
     av)
   (ac
    (aE (ao aU (yqv 0 vl) aG (ay _))
     (ag
      (am (ai pz (yqv 1 vl) (yqv 2 vl))))
     av)
   (ac
    (aE (ao aU (yqv 0 vl) aG (ay _))
     (ag
      (am (ai kn (yqv 1 vl) (yqv 2 vl))))
     av)
   (ac
    (aE (ao aU (yqv 0 vl) aG (ay _))
     (ag
      (am (bz (ao cV (yqv 1 vl) (yqv 2 vl) (ay _)) ab ab)))
     av)
   (ag
    (am (bz (ao aU (yqv 1 vl) (yqv 2 vl) (ay _)) ab ab)))))))))),?_⟩
 rw [show aL _ [V.str op,V.int x,V.int y,V.int w]=[some (.str op),some (.int x),some (.int y),some (.int w)] from rfl]
 simp_arith [gC]
 unfold gD at q
 have hp:(0:Int) < 2 ^ w.toNat:=Int.pow_pos (by decide)
 refine aw (fun e=>?_) (fun e=>?_)
 ·rw [if_pos e] at q;exact ⟨h0,h8,hp,q⟩
 rw [if_neg e] at q
 refine aw (fun e=>?_) (fun e=>?_)
 ·rw [if_pos e] at q;exact ⟨h0,h8,hp,q⟩
 rw [if_neg e] at q
 refine aw (fun e=>?_) (fun e=>?_)
 ·rw [if_pos e] at q;exact q
 rw [if_neg e] at q
 refine aw (fun e=>?_) (fun e=>?_)
 ·rw [if_pos e] at q;exact q
 rw [if_neg e] at q
 refine aw (fun e=>?_) (fun e=>?_)
 ·rw [if_pos e] at q;exact q
 rw [if_neg e] at q
 refine aw (fun e=>?_) (fun e=>?_)
 ·rw [if_pos e] at q
  refine aw (fun e=>?_) (fun e=>?_)
  ·rw [if_pos e] at q;exact q
  ·rw [if_neg e] at q;exact q
 rw [if_neg e] at q
 refine aw (fun e=>?_) (fun e=>?_)
 ·rw [if_pos e] at q;exact q
 ·rw [if_neg e] at q;exact q
end
def gK(K:PySem.W.Frag):Sp:=fun vs H Q _=>∃(o:Opd)(bx:Addr)(b:Bx)(ns:List Str)(w:Int),vs=[o.v,.ref bx]/\H bx=some (.dK b)/\BxG ns w b/\Opd.good ns w o/\Q (.int (d8 b o)) H
def pF(K:PySem.W.Frag)(a:Addr)(bx:Addr)(w:Int)(H:Hp)(Q:VK):Prop:=∃(d:Deed)(b:Bx)(ns:List Str),SqT K H a d.vs/\H bx=some (.dK b)/\BxG ns w b/\d.fine/\Deed.good ns w d/\1<=w/\w<=8/\∀H',Same H H'->Q (.int (dI b w d)) H'
def k8(K:PySem.W.Frag):Sp:=fun vs H Q _=>∃(a:Addr)(bx:Addr)(w:Int),vs=[.ref a,.ref bx,.int w]/\pF K a bx w H Q
section
variable {P:Program} {w:World} {K:PySem.W.Frag} {mg:Str->Option Value} {base:Heap} {t:Ad}
theorem pZ(T:Txt K mg t):FnOk P w K mg base CX0 1 t.f_word_of t.e_word_of ["operand","boxes"] (gK K):=by
 refine T.d_word_of.F.ok jb (fun vs H Q E h=>by obtain ⟨_,_,_,_,_,rfl,_⟩:=h;rfl) (fun cdv A outer s H vs Q E hr h=>?_)
 obtain ⟨o,bx,b,ns,w,rfl,hB,hG,ho,q⟩:=h
 have hu:=cj hr
 refine ⟨_,
   (XSs.h
   (ag
    (am (bz (bu (az bC gl T.z_isinstance boot_isinstance (aa (yqv 0 vl) (aa (bG (v:=.ty "str") gl T.z_str boot_str rfl) ad)))) (bD hu (yqv 1 vl) (yqv 0 vl) (fun _ _=>rfl)) (yqv 0 vl))))),?_⟩
 rw [show aL _ [o.v,V.ref bx]=[some o.v,some (.ref bx)] from rfl]
 simp_arith []
 refine jz ⟨_,rfl,?_⟩
 cases o with
 | box n=>exact ⟨bx,_,rfl,.inl ⟨b,.inr n,.inl hB,rfl,(hG.val ho).symm⟩,q⟩
 | word i=>exact q
theorem fc{o:Opd}{bx:Addr}{H:Hp}{Q:VK}{E:XK}:gK K [o.v,.ref bx] H Q E=∃(b:Bx)(ns:List Str)(w:Int),H bx=some (.dK b)/\BxG ns w b/\Opd.good ns w o/\Q (.int (d8 b o)) H:=
 propext ⟨fun ⟨o',_,b,ns,w,e,q⟩=>by
  have e2:o=o':=by
   injection e with e1 _
   cases o <;> cases o' <;> first | (injection e1 with e1;rw [e1]) | cases e1
  subst e2
  injection e with _ e
  injection e with e _
  injection e with e
  subst e
  exact ⟨b,ns,w,q⟩,fun ⟨b,ns,w,q⟩=>⟨o,bx,b,ns,w,rfl,q⟩⟩
theorem kY{ns:List Str}{w:Int}{d:Deed}(h:Deed.good ns w d):∀o∈cT d,Opd.good ns w o:=by
 cases d with
 | tell a=>intro o ho;rw [List.mem_singleton.mp ho];exact h
 | copy n a=>intro o ho;rw [List.mem_singleton.mp ho];exact h.2
 | op f n a c=>
  intro o ho
  rcases List.mem_cons.mp ho with z | z
  ·rw [z];exact h.2.2.1
  ·rw [List.mem_singleton.mp z];exact h.2.2.2
theorem pV(T:Txt K mg t):FnOk P w K mg base CX0 3 t.f_word_made t.e_word_made ["deed","boxes","width"] (k8 K):=by
 have G_operands_of:=pX (P:=P) (w:=w) (base:=base) T
 have G_word_of:=pZ (P:=P) (w:=w) (base:=base) T
 have G_reckoned:=i7 (P:=P) (w:=w) (base:=base) T
 refine T.d_word_made.F.ok sc_word_made (fun vs H Q E h=>by obtain ⟨_,_,_,rfl,_⟩:=h;rfl) (fun cdv A outer s H vs Q E hr h=>?_)
 obtain ⟨a,bx,w,rfl,d,b,ns,hA,hB,hG,hf,hd,w1,w8,q⟩:=h
 refine ⟨_,
   (XSs.h
   (ac
    (bo (i:=3) sc_word_made.nd rfl ll rfl (by kernel_rfl) (tns:=["operand"]) (cns:=["boxes"]) (ci:=[1]) rfl (CompSc.of (by kernel_rfl)) (qO (aj T.d_operands_of G_operands_of (hr.mono (by first | decide | omega)) (aa (yqv 0 vl) ad) gl)) (fun _=>(aI (i:=1) (show List.Nodup [(".0":Str),("operand":Str),("boxes":Str)] by decide +kernel) rfl ll (Or.inr (by kernel_rfl)))) (fun _=>bZ) (fun _=>(aj T.d_word_of G_word_of (hr.mono (by first | decide | omega)) (aa (yqv 1 vl) (aa (yqv 2 vc) ad)) gl)))
   (ac
    (aE (ao aU (az aC gl T.z_len PySem.boot_len (aa (yqv 3 vl) ad)) ab (ay _))
     (ag
      (am (al aJ (yqv 3 vl) ab (fun _ _=>rfl))))
     av)
   (ag
    (am (aj T.d_reckoned G_reckoned (hr.mono (by first | decide | omega)) (aa (al ax (yqv 0 vl) ab (fun _ _=>rfl)) (aa (al aJ (yqv 3 vl) ab (fun _ _=>rfl)) (aa (al aJ (yqv 3 vl) ab (fun _ _=>rfl)) (aa (yqv 2 vl) ad)))) gl)))))),?_⟩
 rw [show aL _ [V.ref a,V.ref bx,V.int w]=[some (.ref a),some (.ref bx),some (.int w),none] from rfl]
 simp_arith [tX]
 refine ⟨d,hA,hf,fun p hp=>⟨⟨_,SqT.of ae⟩,fun acc hacc bk=>?_⟩⟩
 have s1:Same H (upd H p (.tup ((cT d).map Opd.v))):=Same.upd hp
 refine pH (xs:=(cT d).map Opd.v) (fun x=>match x with | .int i=>.int i | .str n=>.int (aN b n) | _=>.non) (by rw [sizeLine_eq,List.length_map];have:=mU (d:=d);omega) (SqT.of ae) hacc (fun x hm H3 Q' s3 h=>?_) ?_
 ·obtain ⟨o,ho,rfl⟩:=List.mem_map.mp hm
  simp_arith [fc]
  refine ⟨b,ns,w,s3 _ _ (s1 _ _ hB),hG,kY hd o ho,?_⟩
  cases o <;> exact h
 ·have em:List.map (fun x:V=>match x with | .int i=>V.int i | .str n=>V.int (aN b n) | _=>V.non) ((cT d).map Opd.v)=(cT d).map fun o=>V.int (d8 b o):=by
   rw [List.map_map]
   refine List.map_congr_left fun o _=>?_
   cases o <;> rfl
  rw [em]
  have s2:=s1.updN (o:=.lst ((cT d).map fun o=>V.int (d8 b o))) hacc
  have hA2:=s2.seqT hA
  have hL:upd (upd H p (.tup ((cT d).map Opd.v))) acc (.lst ((cT d).map fun o=>V.int (d8 b o))) acc=some (.lst ((cT d).map fun o=>V.int (d8 b o))):=ae
  have q2:=q _ s2
  generalize upd (upd H p (.tup ((cT d).map Opd.v))) acc (.lst ((cT d).map fun o=>V.int (d8 b o)))=H2 at s2 hA2 hL q2 ⊢
  cases d with
  | tell o=>exact ⟨_,.inl (SqL.of hL),aw (fun _=>⟨_,_,SqL.of hL,rfl,q2⟩) (fun e=>absurd rfl e)⟩
  | copy n o=>exact ⟨_,.inl (SqL.of hL),aw (fun _=>⟨_,_,SqL.of hL,rfl,q2⟩) (fun e=>absurd rfl e)⟩
  | op f n o o2=>
   refine ⟨_,.inl (SqL.of hL),aw (fun e=>absurd (show ((2:Nat):Int)=1 from e) (by decide)) (fun _=>⟨_,_,hA2,rfl,_,_,SqL.of hL,rfl,_,_,SqL.of hL,rfl,?_⟩)⟩
   simp_arith [j6]
   exact ⟨by omega,w8,q2⟩
theorem j5{a bx:Addr}{w:Int}{H:Hp}{Q:VK}{E:XK}:k8 K [.ref a,.ref bx,.int w] H Q E=∃(d:Deed)(b:Bx)(ns:List Str),SqT K H a d.vs/\H bx=some (.dK b)/\BxG ns w b/\d.fine/\Deed.good ns w d/\1<=w/\w<=8/\∀H',Same H H'->Q (.int (dI b w d)) H':=propext ⟨by rintro ⟨_,_,_,e,q⟩;cases e;exact q,fun q=>⟨_,_,_,rfl,q⟩⟩
end
end K51
variable {H:Hp} {c:Addr}
namespace K51
open PySem L2 PyProof.Rows FD FB FS FO FR FG
def WordsIn(H:Hp)(c:Addr)(ws:Bx)(ins:List Str)(w:Int):Prop:=Rd H c (.dK ws)/\∀n∈ins,∃x,dt ws n=some x/\0<=x/\x < 2 ^ w.toNat
theorem WordsIn.get{H:Hp}{c:Addr}{ws:Bx}{ins:List Str}{w:Int}(h:WordsIn H c ws ins w):∀n∈ins,0<=aN ws n/\aN ws n < 2 ^ w.toNat:=fun n hn=>by
 obtain ⟨x,e,h0,h1⟩:=h.2 n hn
 unfold aN;rw [e];exact ⟨h0,h1⟩
theorem WordsIn.same{H H':Hp}{c:Addr}{ws:Bx}{ins:List Str}{w:Int}(h:WordsIn H c ws ins w)(s:Same H H'):WordsIn H' c ws ins w:=⟨by
 rcases h.1 with z | ⟨o,z⟩
 ·exact .inl (s _ _ z)
 ·exact .inr ⟨o,s _ _ z⟩,h.2⟩
def lG(K:PySem.W.Frag)(C:Addr)(p:Addr)(c:Addr)(H:Hp)(Q:VK):Prop:=∃(wd:Int)(ins:List Str)(oth:List Str)(ss:List Stm)(a:Addr)(b:Addr)(r:Addr)(xs:List V)(f:List Addr)(ws:Bx),ProgAt K C H p wd ins oth ss a b r xs f/\WordsIn H c ws ins wd/\(ins ++ oth).length<=1000/\
 ∀l H',Same H H'->H l=none->H' l=some (.dK (aF ins ws (ins ++ oth)))->Q (.ref l) H'
def iw(K:PySem.W.Frag)(C:Addr):Sp:=fun vs H Q _=>∃(p:Addr)(c:Addr),vs=[.ref p,.ref c]/\lG K C p c H Q
section
variable {P:Program} {w:World} {K:PySem.W.Frag} {mg:Str->Option Value} {base:Heap} {t:Ad}
theorem mI(T:Txt K mg t):FnOk P w K mg base CX0 1 t.f_first_boxes t.e_first_boxes ["program","words"] (iw K t.C_Program):=by
 refine T.d_first_boxes.F.ok sc_first_boxes (fun vs H Q E h=>by obtain ⟨_,_,rfl,_⟩:=h;rfl) (fun cdv A outer s H vs Q E hr h=>?_)
 obtain ⟨p,c,rfl,wd,ins,oth,ss,a,b,r,xs,f,ws,hP,hW,hl,q⟩:=h
 have hu:=cj hr
 refine ⟨_,
   (XSs.h
   (ac
    (ar (i:=2) sc_first_boxes.nd rfl ll dF)
   (ac
    (ba PassesOwn.never rfl (bj (b9 (yqv 0 vl) rfl)) (aI (i:=3) sc_first_boxes.nd rfl ll)
     (ag
      (ce hu (yqv 2 vl) (yqv 3 vl) (bz (ao cC (yqv 3 vl) (b9 (yqv 0 vl) rfl) rfl) (bD hu (yqv 1 vl) (yqv 3 vl) (fun _ _=>rfl)) ab) rfl)))
   (ag
    (am (yqv 2 vl)))))),?_⟩
 rw [show aL _ [V.ref p,V.ref c]=[some (.ref p),some (.ref c),none,none] from rfl]
 simp_arith []
 intro l hl0
 have s1:Same H (upd H l (.dK [])):=Same.upd hl0
 obtain ⟨dx,hob⟩:=hP.ob
 refine d4 (s1 _ _ hob) T.c_Program.cl T.n_Program_boxes rfl ?_
 refine ⟨b,rfl,⟨_,SqL.of (s1 _ _ hP.bx)⟩,?_⟩
 refine d5 (xs:=(ins ++ oth).map V.str) (fun i σ H'=>Same H H'/\H' l=some (.dK (aF ins ws ((ins ++ oth).take i)))/\∃o,σ=[some (.ref p),some (.ref c),some (.ref l),o])
  ⟨s1,ae,_,rfl⟩ (fun i σ H' _ h=>SqL.of (h.1 _ _ hP.bx)) ?_ ?_
 ·rintro i x σ H' hx ⟨sm,hd,o,rfl⟩
  rw [List.getElem?_map] at hx
  obtain ⟨n,hn,rfl⟩:=Option.map_eq_some_iff.mp hx
  obtain ⟨hi,hne⟩:=List.getElem?_eq_some_iff.mp hn
  simp_arith []
  obtain ⟨dx,hob⟩:=hP.ob
  refine d4 (sm _ _ hob) T.c_Program.cl T.n_Program_ins rfl ?_
  simp_arith []
  have en:aF ins ws ((ins ++ oth).take (i+1))=bi (aF ins ws ((ins ++ oth).take i)) (.inr n) (.int (if n∈ins then aN ws n else 0)):=by
   rw [List.take_succ_eq_append_getElem hi,hne,bU]
  have lb:(aF ins ws ((ins ++ oth).take i)).length < sizeLine:=by
   have:=(cB hW.get _ ((ins ++ oth).take i) rfl).2.1
   rw [List.length_take] at this
   rw [sizeLine_eq];omega
  refine ⟨_,.inl (SqL.of (sm _ _ hP.ia)),rfl,fL,?_⟩
  rw [d7]
  refine aw (fun e=>?_) (fun e=>?_)
  ·obtain ⟨x,hx,_⟩:=hW.2 n e
   have hx2:aN ws n=x:=by unfold aN;rw [hx];rfl
   rw [if_pos e,hx2] at en
   refine ⟨c,.int x,rfl,.inl ⟨ws,.inr n,(hW.same sm).1,rfl,(ph hx).symm⟩,_,DPut.k (k:=.inr n) hd lb,sm.updM hl0,?_,_,rfl⟩
   rw [ae,en]
  ·rw [if_neg e] at en
   refine ⟨_,DPut.k (k:=.inr n) hd lb,sm.updM hl0,?_,_,rfl⟩
   rw [ae,en]
 ·rintro σ H' ⟨sm,hd,o,rfl⟩
  simp_arith []
  rw [List.length_map,List.take_length] at hd
  exact q l H' sm hl0 hd
theorem jP{C p:Addr}{Q:VK}{E:XK}:iw K C [.ref p,.ref c] H Q E=∃(wd:Int)(ins oth:List Str)(ss:List Stm)(a b r:Addr)(xs:List V)(f:List Addr)(ws:Bx),ProgAt K C H p wd ins oth ss a b r xs f/\WordsIn H c ws ins wd/\(ins ++ oth).length<=1000/\
  ∀l H',Same H H'->H l=none->H' l=some (.dK (aF ins ws (ins ++ oth)))->Q (.ref l) H':=propext ⟨by rintro ⟨_,_,e,q⟩;cases e;exact q,fun q=>⟨_,_,rfl,q⟩⟩
end
def bY:FB.Deed->Nat
 | .op f _ _ _=>if f∈(["plus","less"]:List Str) then 0 else if f∈(["below","same"]:List Str) then 1 else if f∈(["and","or","xor"]:List Str) then 2 else 3
 | _=>3
def ke(K:PySem.W.Frag):Sp:=fun vs H Q _=>∃(a:Addr)(d:FB.Deed),vs=[.ref a]/\SqT K H a d.vs/\∀H',Same H H'->Q (.int (bY d)) H'
section
variable {P:Program} {w:World} {K:PySem.W.Frag} {mg:Str->Option Value} {base:Heap} {t:Ad}
theorem pY(T:Txt K mg t):FnOk P w K mg base CX0 1 t.f__law_sort t.e__law_sort ["_law_deed_here"] (ke K):=by
 refine T.d__law_sort.F.ok gG (fun vs H Q E h=>by obtain ⟨_,_,rfl,_⟩:=h;rfl) (fun cdv A outer s H vs Q E hr h=>?_)
 obtain ⟨a,d,rfl,hS,q⟩:=h
 refine ⟨_,
   (XSs.h
   (ac
    (aE (ao cC (al ax (yqv 0 vl) ab (fun _ _=>rfl)) (aW (bw (by rfl))) rfl)
     (ag
      (am ab))
     av)
   (ac
    (aE (ao cC (al ax (yqv 0 vl) ab (fun _ _=>rfl)) (aW (bw (by rfl))) rfl)
     (ag
      (am ab))
     av)
   (ac
    (aE (ao cC (al ax (yqv 0 vl) ab (fun _ _=>rfl)) (aW (bw (by rfl))) rfl)
     (ag
      (am ab))
     av)
   (ag
    (am ab)))))),?_⟩
 rw [show aL _ [V.ref a]=[some (.ref a)] from rfl]
 obtain ⟨f,hf,he⟩:∃f:Str,atI d.vs 0=some (.str f)/\bY d=if f∈(["plus","less"]:List Str) then 0 else if f∈(["below","same"]:List Str) then 1 else if f∈(["and","or","xor"]:List Str) then 2 else 3:=by
  cases d with
  | tell o=>exact ⟨"tell",rfl,by rw [if_neg (by decide +kernel),if_neg (by decide +kernel),if_neg (by decide +kernel)];rfl⟩
  | copy n o=>exact ⟨"copy",rfl,by rw [if_neg (by decide +kernel),if_neg (by decide +kernel),if_neg (by decide +kernel)];rfl⟩
  | op f n o o2=>exact ⟨f,rfl,rfl⟩
 rw [he] at q
 simp_arith []
 refine ⟨_,_,hS,hf,fun p hp=>⟨_,.inl (SqL.of ae),rfl,rfl,?_⟩⟩
 rw [show inV (.str f) [V.str "plus",V.str "less"]=decide (f∈(["plus","less"]:List Str)) from d7 (ns:=["plus","less"])]
 refine aw (fun h=>by rw [if_pos h] at q;exact q _ (Same.upd hp)) (fun h=>?_)
 rw [if_neg h] at q
 refine ⟨_,_,(Same.upd hp).seqT hS,hf,fun p2 hp2=>⟨_,.inl (SqL.of ae),rfl,rfl,?_⟩⟩
 rw [show inV (.str f) [V.str "below",V.str "same"]=decide (f∈(["below","same"]:List Str)) from d7 (ns:=["below","same"])]
 have s2:=(Same.upd hp).trans (Same.upd (o:=.lst [V.str "below",V.str "same"]) hp2)
 refine aw (fun h=>by rw [if_pos h] at q;exact q _ s2) (fun h=>?_)
 rw [if_neg h] at q
 refine ⟨_,_,s2.seqT hS,hf,fun p3 hp3=>⟨_,.inl (SqL.of ae),rfl,rfl,?_⟩⟩
 rw [show inV (.str f) [V.str "and",V.str "or",V.str "xor"]=decide (f∈(["and","or","xor"]:List Str)) from d7 (ns:=["and","or","xor"])]
 have s3:=s2.trans (Same.upd (o:=.lst [V.str "and",V.str "or",V.str "xor"]) hp3)
 exact aw (fun h=>by rw [if_pos h] at q;exact q _ s3) (fun h=>by rw [if_neg h] at q;exact q _ s3)
theorem j7{a:Addr}{H:Hp}{Q:VK}{E:XK}:ke K [.ref a] H Q E=∃d:FB.Deed,SqT K H a d.vs/\∀H',Same H H'->Q (.int (bY d)) H':=propext ⟨by rintro ⟨_,d,e,q⟩;cases e;exact ⟨d,q⟩,by rintro ⟨d,q⟩;exact ⟨a,d,rfl,q⟩⟩
end
def uN(us:List Int)(s:Nat):Int:=us.getD s 0
def cy(l:List FB.Deed):List Str:=l.flatMap FB.Deed.writes
def bfB(us:List Int)(l:List FB.Deed):Bool:=decide ((aT (cy l)).length=(cy l).length) && decide (l.length<=(cy l).length+1) && (List.range 3).all fun s=>decide (((l.countP fun d=>decide (bY d=s)):Int)<=uN us s)
theorem ug{d:FB.Deed}:d.writes.length=if d.tells then 0 else 1:=by cases d <;> rfl
def h9:FZ.Ed->List V
 | .stop=>[.str "stop"]
 | .go i=>[.str "go",.int i]
 | .choose n i j=>[.str "choose",.str n,.int i,.int j]
def DeedV1(K:PySem.W.Frag)(H:Hp)(x:V)(d:Deed):Prop:=∃q,x=.ref q/\SqT K H q d.vs/\d.fine
theorem DeedV1.ts{K:PySem.W.Frag}{H H':Hp}{x:V}{d:Deed}(t:TSame H H')(h:DeedV1 K H x d):DeedV1 K H' x d:=let ⟨q,e,z,f⟩:=h;⟨q,e,t.seqT z,f⟩
def cr(l:List (Bool×V)):List V:=(l.filter (·.1)).map (·.2)
section
variable {K:PySem.W.Frag} {tt:TT} {te:TE} {ci:List Nat} {σ:L2.St} {acc:Addr} {Q:Hp->Prop} {H1:Hp} {a:Addr} {xs:List V}
theorem gX(l:List (Bool×V))(hz:xs.length<=sizeLine)(hlen:xs.length=l.length)(hl:SqL K H1 a xs)(hacc:H1 acc=none)
  (hp:∀(i:Nat)x b y,xs[i]?=some x->l[i]?=some (b,y)->∀H Q',Same H1 H->(∀H',Same H H'->Q' b H')->tt (aD [some x] ci σ) H Q')
  (hf:∀(i:Nat)x y,xs[i]?=some x->l[i]?=some (true,y)->∀H Q',Same H1 H->(∀H',Same H H'->Q' y H')->te (aD [some x] ci σ) H Q')
  (q:∀H,Same H1 H->H acc=some (.lst (cr l))->Q H):b6 (Itl K a) (aS 1) tt te 1 ci σ acc Q (upd H1 acc (.lst [])):=by
 refine cY (fun i ys H=>ys=cr (l.take i)/\Same H1 H/\H acc=some (.lst ys)) ⟨rfl,Same.upd hacc,ae⟩ (fun i ys H _ h=>h.2.1.seq hl) ?_ ?_
 ·rintro i x ys H os hi ho ⟨rfl,sm,ha⟩
  have hi':i < l.length:=by have:=(List.getElem?_eq_some_iff.mp hi).1;omega
  have e:(aD os ci σ).set 1 (some x)=aD [some x] ci σ:=by
   match os,ho with
   | [o],_=>rfl
  show (∃os',os'.length=1/\(aD os ci σ).set 1 (some x)=aD os' ci σ)/\tt ((aD os ci σ).set 1 (some x)) H _
  rw [e]
  refine ⟨⟨[some x],rfl,rfl⟩,?_⟩
  obtain ⟨⟨b,y⟩,hy⟩:∃p,l[i]?=some p:=⟨_,List.getElem?_eq_getElem hi'⟩
  obtain ⟨_,ey⟩:=List.getElem?_eq_some_iff.mp hy
  have ek:cr (l.take (i+1))=cr (l.take i) ++ if b=true then [y] else []:=by
   rw [List.take_succ_eq_append_getElem hi',ey]
   unfold cr
   rw [List.filter_append,List.map_append]
   cases b <;> rfl
  refine hp i x b y hi hy H _ sm fun H2 s2=>?_
  cases b with
  | false=>
   rw [if_neg (by decide)]
   rw [if_neg (by decide),List.append_nil] at ek
   exact ⟨ek.symm,sm.trans s2,s2 _ _ ha⟩
  | true=>
   rw [if_pos rfl]
   rw [if_pos rfl] at ek
   have lk:(cr (l.take i)).length<=i:=by
    unfold cr
    rw [List.length_map]
    exact Nat.le_trans (List.length_filter_le _ _) (by rw [List.length_take];omega)
   exact hf i x y hi hy H2 _ (sm.trans s2) fun H3 s3=>⟨s3 _ _ (s2 _ _ ha),by omega,ek.symm,((sm.trans s2).trans s3).updM hacc,ae⟩
 ·rintro ys H ⟨rfl,sm,ha⟩
  rw [hlen,List.take_length] at ha
  exact q H sm ha
end
def gN(K:PySem.W.Frag)(a u:Addr)(H:Hp)(Q:VK):Prop:=∃(xs:List V)(ds:List FB.Deed)(us:List Int),SqL K H a xs/\Paired (DeedV1 K H) xs ds/\ds.length < 60/\SqT K H u (us.map V.int)/\us.length=3/\∀H',Same H H'->Q (.bl (bfB us ds)) H'
def ir(K:PySem.W.Frag):Sp:=fun vs H Q _=>∃a u:Addr,vs=[.ref a,.ref u]/\gN K a u H Q
theorem pP{ds:List FB.Deed}:cr (ds.map fun d=>(!d.tells,V.str (wr d)))=(cy ds).map V.str:=by
 induction ds with
 | nil=>rfl
 | cons d ds ih=>
  have e:cy (d :: ds)=d.writes ++ cy ds:=rfl
  rw [e,List.map_append,<- ih]
  unfold cr
  rw [List.map_cons,List.filter_cons]
  cases d <;> rfl
theorem mf{ds:List FB.Deed}{xs:List V}{s:Nat}(h:xs.length=ds.length):(cr ((ds.map fun d=>decide (bY d=s)).zip xs)).length=ds.countP fun d=>decide (bY d=s):=by
 unfold cr
 rw [List.length_map]
 induction ds generalizing xs with
 | nil=>rfl
 | cons d ds ih=>
  cases xs with
  | nil=>cases h
  | cons x xs=>
   rw [List.map_cons,List.zip_cons_cons,List.filter_cons,List.countP_cons]
   have z:=ih (xs:=xs) (by simpa using h)
   dsimp only
   split
   ·rw [List.length_cons,z]
   ·rw [z];omega
theorem uh{l:List FB.Deed}:(cy l).length<=l.length:=by
 induction l with
 | nil=>exact Nat.le_refl _
 | cons d l ih=>
  have e:cy (d :: l)=d.writes ++ cy l:=rfl
  rw [e,List.length_append,ug,List.length_cons]
  split <;> omega
section
variable {P:Program} {w:World} {K:PySem.W.Frag} {mg:Str->Option Value} {base:Heap} {t:Ad}
theorem eB{a u:Addr}{H:Hp}{Q:VK}{E:XK}:ir K [.ref a,.ref u] H Q E=gN K a u H Q:=propext ⟨by rintro ⟨_,_,e,q⟩;cases e;exact q,fun q=>⟨_,_,rfl,q⟩⟩
theorem mG(T:Txt K mg t):FnOk P w K mg base CX0 2 t.f__law_beat_fine t.e__law_beat_fine ["_law_deeds","_law_units_here"] (ir K):=by
 have G__law_sort:=pY (P:=P) (w:=w) (base:=base) T
 refine T.d__law_beat_fine.F.ok sc__law_beat_fine (fun vs H Q E h=>by obtain ⟨_,_,rfl,_⟩:=h;rfl) (fun cdv A outer s H vs Q E hr h=>?_)
 obtain ⟨a,u,rfl,xs,ds,us,ha,hd,hl,hU,h3,q⟩:=h
 refine ⟨_,
   (XSs.h
   (ac
    (bo (i:=2) sc__law_beat_fine.nd rfl ll rfl (by kernel_rfl) (tns:=["_law_deed_here"]) (cns:=[]) (ci:=[]) rfl (CompSc.of (by kernel_rfl)) (bj (yqv 0 vl)) (fun _=>(aI (i:=1) (show List.Nodup [(".0":Str),("_law_deed_here":Str)] by decide +kernel) rfl ll (Or.inr (by kernel_rfl)))) (fun _=>(kj (ao dM (al ax (yqv 1 vl) ab (fun _ _=>rfl)) aG (ay _)))) (fun _=>(al ax (yqv 1 vl) ab (fun _ _=>rfl))))
   (bd
    (aE (cU (cz (ao dM (az kx gl T.z_len PySem.boot_len (aa (aO (ky rfl) gl T.z_set boot_set (aa (yqv 2 vl) ad)) ad)) (az aC gl T.z_len PySem.boot_len (aa (yqv 2 vl) ad)) (ay _)) (cF (ao py (az aC gl T.z_len PySem.boot_len (aa (yqv 0 vl) ad)) (ai aQ (az aC gl T.z_len PySem.boot_len (aa (yqv 2 vl) ad)) ab) (ay _)))))
     (ag
      (am bq))
     av)
   (ac
    (ba PassesOwn.never rfl (aV gl T.z_range (aa ab ad)) (aI (i:=3) sc__law_beat_fine.nd rfl lc)
     (ag
      (aE (ao py (az aC gl T.z_len PySem.boot_len (aa (cE (tns:=["_law_deed_here"]) (cns:=["_law_sort_here"]) (ci:=[3]) rfl (CompSc.of (by kernel_rfl)) (bj (yqv 0 vl)) (fun _=>(aI (i:=1) (show List.Nodup [(".0":Str),("_law_deed_here":Str),("_law_sort_here":Str)] by decide +kernel) rfl ll (Or.inr (by kernel_rfl)))) (fun _=>(kj (ao aU (aj T.d__law_sort G__law_sort (hr.mono (by first | decide | omega)) (aa (yqv 1 vl) ad) gl) (yqv 2 vc) (ay _)))) (fun _=>(yqv 1 vl))) ad)) (al ax (yqv 1 vl) (yqv 3 vc) (fun _ _=>rfl)) (ay _))
       (ag
        (am bq))
       av)))
   (ag
    (am bq)))))),?_⟩
 rw [show aL _ [V.ref a,V.ref u]=[some (.ref a),some (.ref u),none,none] from rfl]
 simp_arith! [j7]
 have lx:=hd.length
 refine ⟨⟨_,ha⟩,fun wl hwl bk=>?_⟩
 refine gX (ds.map fun d=>(!d.tells,V.str (wr d))) (by rw [sizeLine_eq];omega) (by rw [List.length_map];exact lx) ha hwl (fun i x b y hx hy H2 Q' s2 h=>?_) (fun i x y hx hy H2 Q' s2 h=>?_) fun H1 s1 e1=>?_
 ·obtain ⟨d,hd1,q0,rfl,hq0,hf⟩:=Paired.get hd hx
  rw [List.getElem?_map,hd1] at hy
  cases hy
  simp_arith []
  exact vF hf (s2.seqT hq0) ⟨_,rfl,h H2 (Same.refl H2)⟩
 ·obtain ⟨d,hd1,q0,rfl,hq0,hf⟩:=Paired.get hd hx
  rw [List.getElem?_map,hd1] at hy
  have e:=Option.some.inj hy
  have e1:d.tells=false:=by have:=congrArg Prod.fst e;simpa using this
  have e2:V.str (wr d)=y:=congrArg Prod.snd e
  subst e2
  simp_arith []
  exact ix1 e1 (s2.seqT hq0) (h H2 (Same.refl H2))
 rw [pP] at e1
 have lw:=uh (l:=ds)
 have hbf:bfB us ds=(decide ((aT (cy ds)).length=(cy ds).length) && decide (ds.length<=(cy ds).length+1) && (List.range 3).all fun s=>decide (((ds.countP fun d=>decide (bY d=s)):Int)<=uN us s)):=rfl
 refine aM ?_
 simp_arith! []
 refine ⟨fun σ H'=>Same H H'/\bfB us ds=((List.range 3).all fun s=>decide (((ds.countP fun d=>decide (bY d=s)):Int)<=uN us s))/\σ=[some (V.ref a),some (V.ref u),some (V.ref wl),none],?_,?_⟩
 ·refine ⟨cy ds,SqL.of e1,by omega,fun p hp=>⟨_,ae,?_⟩⟩
  have t2:=Same.upd (o:=g0 p (aT (cy ds)).length) hp
  have s2:=s1.trans t2
  refine ⟨_,.inl (SqL.of (t2 _ _ e1)),?_⟩
  rw [List.length_map]
  by_cases hz:(aT (cy ds)).length=(cy ds).length
  ·rw [if_neg (by simp [hz])]
   refine ⟨_,.inl (s2.seq ha),_,.inl (SqL.of (t2 _ _ e1)),?_⟩
   rw [List.length_map,lx]
   by_cases hy:ds.length<=(cy ds).length+1
   ·rw [if_neg (by simp;omega)]
    refine ⟨s2,?_,rfl⟩
    rw [hbf,decide_eq_true hz,decide_eq_true hy,Bool.true_and,Bool.true_and]
   ·rw [if_pos (by simp;omega)]
    have e:bfB us ds=false:=by rw [hbf,decide_eq_false hy,Bool.and_false,Bool.false_and]
    rw [e] at q
    exact q _ s2
  ·rw [if_pos (by simp;omega),if_pos trivial]
   have e:bfB us ds=false:=by rw [hbf,decide_eq_false hz,Bool.false_and,Bool.false_and]
   rw [e] at q
   exact q _ s2
 rintro σ H2 ⟨s2,hb2,rfl⟩
 refine aM ?_
 simp_arith! []
 refine ⟨by decide,by decide,?_⟩
 refine bv (n:=3) (fun i σ H'=>Same H H'/\(∀s,s < i->((ds.countP fun d=>decide (bY d=s)):Int)<=uN us s)/\∃o3,σ=[some (V.ref a),some (V.ref u),some (V.ref wl),o3]) ⟨s2,fun s hs=>absurd hs (by omega),_,rfl⟩ ?_ ?_
 ·rintro i σ H3 hi ⟨s3,hall,o3,rfl⟩
  simp_arith [j7]
  refine ⟨⟨_,s3.seq ha⟩,fun acc hacc bk=>?_⟩
  refine gX ((ds.map fun d=>decide (bY d=i)).zip xs) (by rw [sizeLine_eq];omega) (by rw [List.length_zip,List.length_map];omega) (s3.seq ha) hacc (fun j x b y hx hy H4 Q' s4 h=>?_) (fun j x y hx hy H4 Q' s4 h=>?_) fun H4 s4 e4=>?_
  ·obtain ⟨d,hd1,q0,rfl,hq0,hf⟩:=Paired.get hd hx
   rw [List.getElem?_zip_eq_some,List.getElem?_map,hd1] at hy
   obtain rfl:decide (bY d=i)=b:=Option.some.inj hy.1
   simp_arith [j7]
   refine ⟨d,(s3.trans s4).seqT hq0,fun H5 s5=>?_⟩
   have z:=h H5 s5
   rw [show decide (bY d=i)=decide ((bY d:Int)=(i:Int)) by rw [Bool.eq_iff_iff,decide_eq_true_iff,decide_eq_true_iff];omega] at z
   exact z
  ·rw [List.getElem?_zip_eq_some] at hy
   rw [hx] at hy
   cases hy.2
   simp_arith []
   exact h H4 (Same.refl H4)
  ·have hu:(us.map V.int)[i]?=some (V.int (uN us i)):=by
    unfold uN
    rw [List.getElem?_map,List.getElem?_eq_getElem (by omega),List.getD_eq_getElem?_getD,List.getElem?_eq_getElem (by omega)];rfl
   have s34:=s3.trans s4
   refine ⟨_,.inl (SqL.of e4),_,_,s34.seqT hU,b8 hu,_,rfl,?_⟩
   rw [mf lx]
   refine aw (fun hz=>?_) fun hz=>⟨s34,fun s hs=>?_,_,rfl⟩
   ·have e:bfB us ds=false:=by
     rw [hb2]
     cases hb:((List.range 3).all fun s=>decide (((ds.countP fun d=>decide (bY d=s)):Int)<=uN us s)) with
     | false=>rfl
     | true=>exact absurd (of_decide_eq_true (List.all_eq_true.mp hb i (List.mem_range.mpr hi))) (by omega)
    rw [e] at q
    exact q _ s34
   ·by_cases es:s=i
    ·rw [es];omega
    ·exact hall s (by omega)
 ·rintro σ H3 ⟨s3,hall,o3,rfl⟩
  refine aM ?_
  simp_arith []
  have e:bfB us ds=true:=by
   rw [hb2,List.all_eq_true]
   exact fun s hs=>decide_eq_true (hall s (List.mem_range.mp hs))
  rw [e] at q
  exact q H3 s3
end
end K51
variable {H H':Hp}
namespace K51
open PySem L2 PyProof.Rows FD FB FS FO FR FG
def StV(K:PySem.W.Frag)(H:Hp)(x:V)(b:FZ.Blk):Prop:=∃q a e vs,x=.ref q/\SqT K H q [.ref a,.ref e]/\H a=some (.lst vs)/\Paired (DeedV1 K H) vs b.ds/\SqT K H e (h9 b.ed)
theorem StV.same{K:PySem.W.Frag}{H:Hp}{x:V}{b:FZ.Blk}(h:StV K H x b)(s:Same H H'):StV K H' x b:=by
 obtain ⟨q,a,e,vs,ex,h1,h2,h3,h4⟩:=h
 exact ⟨q,a,e,vs,ex,s.seqT h1,s _ _ h2,FL.Paired.imp h3 fun y _ d _ ⟨q,e,z,f⟩=>⟨q,e,s.seqT z,f⟩,s.seqT h4⟩
def StA(K:PySem.W.Frag)(H:Hp)(x:V)(b:FZ.Blk)(a:Addr):Prop:=∃q e vs,x=.ref q/\SqT K H q [.ref a,.ref e]/\H a=some (.lst vs)/\Paired (DeedV1 K H) vs b.ds/\SqT K H e (h9 b.ed)
theorem StA.v{K:PySem.W.Frag}{H:Hp}{x:V}{b:FZ.Blk}{a:Addr}(h:StA K H x b a):StV K H x b:=by
 obtain ⟨q,e,vs,h⟩:=h
 exact ⟨q,a,e,vs,h⟩
theorem StA.same{K:PySem.W.Frag}{H:Hp}{x:V}{b:FZ.Blk}{a:Addr}(h:StA K H x b a)(s:Same H H'):StA K H' x b a:=by
 obtain ⟨q,e,vs,ex,h1,h2,h3,h4⟩:=h
 exact ⟨q,e,vs,ex,s.seqT h1,s _ _ h2,FL.Paired.imp h3 fun y _ d _ ⟨q,e,z,f⟩=>⟨q,e,s.seqT z,f⟩,s.seqT h4⟩
theorem StA.upd{K:PySem.W.Frag}{H:Hp}{x:V}{b:FZ.Blk}{a c:Addr}{ys zs:List V}(h:StA K H x b a)(hc:H c=some (.lst ys))(n:a≠c):StA K (L2.upd H c (.lst zs)) x b a:=by
 obtain ⟨q,e,vs,ex,h1,h2,h3,h4⟩:=h
 have ts:=TSame.updL (o:=.lst zs) hc
 exact ⟨q,e,vs,ex,ts.seqT h1,by rw [ap n];exact h2,FL.Paired.imp h3 fun y _ d _ ⟨q,e,z,f⟩=>⟨q,e,ts.seqT z,f⟩,ts.seqT h4⟩
def TabV(K:PySem.W.Frag)(H:Hp)(tb:Addr)(F:List FZ.Blk):Prop:=∃xs,H tb=some (.lst xs)/\Paired (StV K H) xs F
theorem TabV.same{K:PySem.W.Frag}{H:Hp}{tb:Addr}{F:List FZ.Blk}(h:TabV K H tb F)(s:Same H H'):TabV K H' tb F:=by
 obtain ⟨xs,h1,h2⟩:=h
 exact ⟨xs,s _ _ h1,FL.Paired.imp h2 fun y _ d _ z=>z.same s⟩
theorem TabV.at{K:PySem.W.Frag}{H:Hp}{tb:Addr}{F:List FZ.Blk}(h:TabV K H tb F){i:Nat}{b:FZ.Blk}(hb:F[i]?=some b):∃xs x,H tb=some (.lst xs)/\xs[i]?=some x/\StV K H x b:=by
 obtain ⟨xs,h1,h2⟩:=h
 obtain ⟨x,hx,hv⟩:=Paired.getR h2 hb
 exact ⟨xs,x,h1,hx,hv⟩
def eX(b:Bx)(e:FZ.Ed):V:=match GA.nxt b e with
 | none=>.non
 | some j=>.int j
def lH(K:PySem.W.Frag)(e bx:Addr)(H:Hp)(Q:VK):Prop:=∃(ed:FZ.Ed)(b:Bx)(ns:List Str)(w:Int),SqT K H e (h9 ed)/\H bx=some (.dK b)/\BxG ns w b/\(∀n i j,ed=.choose n i j->n∈ns)/\Q (eX b ed) H
def oM(K:PySem.W.Frag):Sp:=fun vs H Q _=>∃e bx:Addr,vs=[.ref e,.ref bx]/\lH K e bx H Q
section
variable {P:Program} {w:World} {K:PySem.W.Frag} {mg:Str->Option Value} {base:Heap} {t:Ad}
theorem rK{e bx:Addr}{Q:VK}{E:XK}:oM K [.ref e,.ref bx] H Q E=lH K e bx H Q:=propext ⟨by rintro ⟨_,_,e,q⟩;cases e;exact q,fun q=>⟨_,_,rfl,q⟩⟩
theorem sP(T:Txt K mg t):FnOk P w K mg base CX0 1 t.f_place_led_to t.e_place_led_to ["ending","boxes"] (oM K):=by
 refine T.d_place_led_to.F.ok er (fun vs H Q E h=>by obtain ⟨_,_,rfl,_⟩:=h;rfl) (fun cdv A outer s H vs Q E hr h=>?_)
 obtain ⟨e,bx,rfl,ed,b,ns,w,hq,hb,hG,hn,q⟩:=h
 have hu:=cj hr
 refine ⟨_,
   (XSs.h
   (ac
    (aE (ao aU (al ax (yqv 0 vl) ab (fun _ _=>rfl)) aG (ay _))
     (ag
      (am (al ax (yqv 0 vl) ab (fun _ _=>rfl))))
     av)
   (ac
    (aE (ao aU (al ax (yqv 0 vl) ab (fun _ _=>rfl)) aG (ay _))
     (ag
      (am (bz (ao dM (bD hu (yqv 1 vl) (al ax (yqv 0 vl) ab (fun _ _=>rfl)) (fun _ _=>rfl)) ab (ay _)) (al ax (yqv 0 vl) ab (fun _ _=>rfl)) (al ax (yqv 0 vl) ab (fun _ _=>rfl)))))
     av)
   (ag
    (am dw))))),?_⟩
 rw [show aL _ [V.ref e,V.ref bx]=[some (.ref e),some (.ref bx)] from rfl]
 simp_arith []
 cases ed with
 | stop=>
  refine ⟨_,_,hq,rfl,?_⟩
  simp_arith []
  refine aw (fun z=>absurd z (by decide +kernel)) (fun _=>⟨_,_,hq,rfl,rfl,_,rfl,?_⟩)
  refine aw (fun z=>absurd z (by decide +kernel)) (fun _=>q)
 | go i=>
  refine ⟨_,_,hq,rfl,?_⟩
  simp_arith []
  exact aw (fun _=>⟨_,_,hq,rfl,q⟩) (fun z=>absurd trivial z)
 | choose n i j=>
  refine ⟨_,_,hq,rfl,?_⟩
  simp_arith []
  refine aw (fun z=>absurd z (by decide +kernel)) (fun _=>⟨_,_,hq,rfl,rfl,_,rfl,?_⟩)
  refine aw (fun _=>⟨_,_,hq,rfl,bx,_,rfl,.inl ⟨b,.inr n,.inl hb,rfl,(hG.val (hn n i j rfl)).symm⟩,?_⟩) (fun z=>absurd rfl z)
  have e:eX b (.choose n i j)=if aN b n≠0 then V.int i else .int j:=by
   unfold eX GA.nxt
   dsimp only
   by_cases h:aN b n=0
   ·rw [if_neg (fun z=>z h),if_neg (fun z=>z h)]
   ·rw [if_pos h,if_pos h]
  rw [e] at q
  simp_arith []
  refine me (fun h=>?_) (fun h=>?_)
  ·rw [if_pos h] at q
   exact ⟨_,_,hq,rfl,q⟩
  ·rw [if_neg (fun z=>z h)] at q
   exact ⟨_,_,hq,rfl,q⟩
end
end K51
variable {H:Hp}
namespace K51
open PySem L2 PyProof.Rows FD FB FS FO FR FG
theorem ic{f:Str}{v:V}:∀fs:List (Str×V),(bH f v fs).length<=fs.length+1
 | []=>Nat.le_refl _
 | (g,x) :: r=>by
  rw [bH]
  split
  ·exact Nat.le_succ _
  ·rw [List.length_cons,List.length_cons];have:=ic (f:=f) (v:=v) r;omega
def ji(wd:Int)(tb bx td:Addr)(pl:V):List (Str×V):=[("width",.int wd),("table",.ref tb),("boxes",.ref bx),("told",.ref td),("place",pl)]
structure TRunH(C:Addr)(H0 H:Hp)(p tb bx td:Addr)(wd:Int)(pl:V)(s:GA.BT):Prop where
 same:Same H0 H
 ob:∃dx,H p=some (.ins C dx (ji wd tb bx td pl))
 bxs:H bx=some (.dK s.1)
 tds:H td=some (.lst (s.2.map V.int))
 fr:H0 p=none/\H0 bx=none/\H0 td=none
theorem TRunH.mv{C p tb bx td:Addr}{H0 H H':Hp}{wd:Int}{pl:V}{s:GA.BT}(h:TRunH C H0 H p tb bx td wd pl s)(sm:Same H H'):TRunH C H0 H' p tb bx td wd pl s:=
 ⟨h.same.trans sm,let ⟨dx,e⟩:=h.ob;⟨dx,sm _ _ e⟩,sm _ _ h.bxs,sm _ _ h.tds,h.fr⟩
def gT(K:PySem.W.Frag)(C CP:Addr)(p pp tb c:Addr)(H:Hp)(Q:VK):Prop:=∃(H0:Hp)(dx:Addr)(wd:Int)(ins oth:List Str)(ss:List Stm)(a b r:Addr)(xs:List V)(f:List Addr)(ws:Bx),Same H0 H/\H0 p=none/\H p=some (.ins C dx [])/\ProgAt K CP H0 pp wd ins oth ss a b r xs f/\WordsIn H0 c ws ins wd/\(ins ++ oth).length<=1000/\
 ∀bx td H',TRunH C H0 H' p tb bx td wd (.int 0) (aF ins ws (ins ++ oth),[])->Q .non H'
def iE(K:PySem.W.Frag)(C CP:Addr):Sp:=fun vs H Q _=>∃(p pp tb c:Addr),vs=[.ref p,.ref pp,.ref tb,.ref c]/\gT K C CP p pp tb c H Q
structure StG(ns:List Str)(wd:Int)(b:FZ.Blk):Prop where
 gd:∀d∈b.ds,Deed.good ns wd d
 nm:∀n i j,b.ed=.choose n i j->n∈ns
 len:b.ds.length<=60
def fA(K:PySem.W.Frag)(C:Addr)(p:Addr)(H:Hp)(Q:VK):Prop:=∃(H0:Hp)(tb bx td:Addr)(wd:Int)(i:Nat)(s:GA.BT)(F:List FZ.Blk)(b:FZ.Blk)(ns:List Str),TRunH C H0 H p tb bx td wd (.int i) s/\TabV K H0 tb F/\F[i]?=some b/\StG ns wd b/\BxG ns wd s.1/\1<=wd/\wd<=8/\s.2.length<=1000000/\
 ∀bx' H',TRunH C H0 H' p tb bx' td wd (eX s.1 b.ed) (GO.beat wd s.1 b.ds s)->Q .non H'
def g7(K:PySem.W.Frag)(C:Addr):Sp:=fun vs H Q _=>∃(p:Addr),vs=[.ref p]/\fA K C p H Q
section
variable {P:Program} {w:World} {K:PySem.W.Frag} {mg:Str->Option Value} {base:Heap} {t:Ad}
theorem jX{C CP p pp tb c:Addr}{Q:VK}{E:XK}:iE K C CP [.ref p,.ref pp,.ref tb,.ref c] H Q E=gT K C CP p pp tb c H Q:=propext ⟨by rintro ⟨_,_,_,_,e,q⟩;cases e;exact q,fun q=>⟨_,_,_,_,rfl,q⟩⟩
theorem f8{C p:Addr}{Q:VK}{E:XK}:g7 K C [.ref p] H Q E=fA K C p H Q:=propext ⟨by rintro ⟨_,e,q⟩;cases e;exact q,fun q=>⟨_,rfl,q⟩⟩
theorem mQ(T:Txt K mg t):FnOk P w K mg base CX0 2 t.f_TableRun___init__ t.e_TableRun___init__ ["self","program","table","words"] (iE K t.C_TableRun t.C_Program):=by
 have G_first_boxes:=mI (P:=P) (w:=w) (base:=base) T
 refine T.d_TableRun___init__.F.ok cx (fun vs H Q E h=>by obtain ⟨_,_,_,_,rfl,_⟩:=h;rfl) (fun cdv A outer s H vs Q E hr h=>?_)
 obtain ⟨p,pp,tb,c,rfl,H0,dx,wd,ins,oth,ss,a,b,r,xs,f,ws,s0,hp0,hp,hP,hW,hl,q⟩:=h
 refine ⟨_,
   (XSs.h
   (ac
    (bt (yqv 0 vl) (b9 (yqv 1 vl) rfl) rfl)
   (ac
    (bt (yqv 0 vl) (yqv 2 vl) rfl)
   (ac
    (bt (yqv 0 vl) (aj T.d_first_boxes G_first_boxes (hr.mono (by first | decide | omega)) (aa (yqv 1 vl) (aa (yqv 3 vl) ad)) gl) rfl)
   (ac
    (bt (yqv 0 vl) (aW ad) rfl)
   (ag
    (bt (yqv 0 vl) ab rfl))))))),?_⟩
 rw [show aL _ [V.ref p,V.ref pp,V.ref tb,V.ref c]=[some (.ref p),some (.ref pp),some (.ref tb),some (.ref c)] from rfl]
 simp_arith! [jP]
 obtain ⟨dxp,hob⟩:=hP.ob
 refine d4 (s0 _ _ hob) T.c_Program.cl T.n_Program_width rfl (eO hp T.c_TableRun.cl T.n_TableRun_width (by simp) ?_)
 rw [bh (by rfl),List.nil_append]
 have s1:=s0.updM (o:=.ins t.C_TableRun dx [("width",V.int wd)]) hp0
 have e1:upd H p (.ins t.C_TableRun dx [("width",V.int wd)]) p=some (.ins t.C_TableRun dx [("width",V.int wd)]):=ae
 generalize upd H p (.ins t.C_TableRun dx [("width",V.int wd)])=H1 at s1 e1 ⊢
 refine aM ?_
 simp_arith! []
 refine eO e1 T.c_TableRun.cl T.n_TableRun_table (by simp) ?_
 rw [bh (by kernel_rfl)]
 have s2:=s1.updM (o:=.ins t.C_TableRun dx ([(("width":Str),V.int wd)] ++ [(("table":Str),V.ref tb)])) hp0
 have e2:upd H1 p (.ins t.C_TableRun dx ([(("width":Str),V.int wd)] ++ [(("table":Str),V.ref tb)])) p=some (.ins t.C_TableRun dx ([(("width":Str),V.int wd)] ++ [(("table":Str),V.ref tb)])):=ae
 generalize upd H1 p (.ins t.C_TableRun dx ([(("width":Str),V.int wd)] ++ [(("table":Str),V.ref tb)]))=H2 at s2 e2 ⊢
 refine aM ?_
 simp_arith! [jP]
 refine ⟨wd,ins,oth,ss,a,b,r,xs,f,ws,hP.same s2,hW.same s2,hl,fun bx H4 s4 hbx gb=>?_⟩
 refine eO (s4 _ _ e2) T.c_TableRun.cl T.n_TableRun_boxes (by simp) ?_
 rw [bh (by kernel_rfl)]
 have nbx:bx≠p:=(au e2 hbx).symm
 have fb:=s2.free hbx
 have s5:=(s2.trans s4).updM (o:=.ins t.C_TableRun dx ([(("width":Str),V.int wd)] ++ [(("table":Str),V.ref tb)] ++ [(("boxes":Str),V.ref bx)])) hp0
 have e5:upd H4 p (.ins t.C_TableRun dx ([(("width":Str),V.int wd)] ++ [(("table":Str),V.ref tb)] ++ [(("boxes":Str),V.ref bx)])) p=some (.ins t.C_TableRun dx ([(("width":Str),V.int wd)] ++ [(("table":Str),V.ref tb)] ++ [(("boxes":Str),V.ref bx)])):=ae
 have b5:upd H4 p (.ins t.C_TableRun dx ([(("width":Str),V.int wd)] ++ [(("table":Str),V.ref tb)] ++ [(("boxes":Str),V.ref bx)])) bx=some (.dK (aF ins ws (ins ++ oth))):=by rw [ap nbx];exact gb
 generalize upd H4 p (.ins t.C_TableRun dx ([(("width":Str),V.int wd)] ++ [(("table":Str),V.ref tb)] ++ [(("boxes":Str),V.ref bx)]))=H5 at s5 e5 b5 ⊢
 refine aM ?_
 simp_arith! []
 intro td htd
 have ntd:p≠td:=au e5 htd
 have ft:=s5.free htd
 have s6:=Same.upd (o:=.lst []) htd
 refine eO (s6 _ _ e5) T.c_TableRun.cl T.n_TableRun_told (by simp) ?_
 rw [bh (by kernel_rfl)]
 refine aM ?_
 simp_arith []
 refine eO ae T.c_TableRun.cl T.n_TableRun_place (by simp) ?_
 rw [bh (by kernel_rfl)]
 refine q bx td _ ⟨((s5.trans s6).updM hp0).updM hp0,⟨dx,ae⟩,?_,?_,⟨hp0,fb,ft⟩⟩
 ·rw [ap nbx,ap nbx];exact s6 _ _ b5
 ·rw [ap ntd.symm,ap ntd.symm];exact ae
theorem kT(T:Txt K mg t):FnOk P w K mg base CX0 4 t.f_TableRun_go_beat t.e_TableRun_go_beat ["self"] (g7 K t.C_TableRun):=by
 have G_word_made:=pV (P:=P) (w:=w) (base:=base) T
 have G_box_written:=iZ (P:=P) (w:=w) (base:=base) T
 have G_place_led_to:=sP (P:=P) (w:=w) (base:=base) T
 refine T.d_TableRun_go_beat.F.ok sc_TableRun_go_beat (fun vs H Q E h=>by obtain ⟨_,rfl,_⟩:=h;rfl) (fun cdv A outer s H vs Q E hr h=>?_)
 obtain ⟨p,rfl,H0,tb,bx,td,wd,i,st,F,blk,ns,hR,hT,hF,hS,hG,w1,w8,hl,q⟩:=h
 have hu:=cj hr
 refine ⟨_,
   (XSs.h
   (ac
    (ar (i:=1) sc_TableRun_go_beat.nd rfl ll (al aJ (b9 (yqv 0 vl) rfl) (b9 (yqv 0 vl) rfl) (fun _ _=>rfl)))
   (ac
    (ar (i:=2) sc_TableRun_go_beat.nd rfl ll (aO cW gl T.z_dict boot_dict (aa (b9 (yqv 0 vl) rfl) ad)))
   (bd
    (ba PassesOwn.never rfl (bj (al ax (yqv 1 vl) ab (fun _ _=>rfl))) (aI (i:=3) sc_TableRun_go_beat.nd rfl ll)
     (ac
      (ar (i:=4) sc_TableRun_go_beat.nd rfl ll (aj T.d_word_made G_word_made (hr.mono (by first | decide | omega)) (aa (yqv 3 vl) (aa (b9 (yqv 0 vl) rfl) (aa (b9 (yqv 0 vl) rfl) ad))) gl))
     (ac
      (ar (i:=5) sc_TableRun_go_beat.nd rfl ll (aj T.d_box_written G_box_written (hr.mono (by first | decide | omega)) (aa (yqv 3 vl) ad) gl))
     (ag
      (aE (ao mT (yqv 5 vl) dw (ay _))
       (ag
        (bF (dE PySem.F.plainAttrs_list PySem.F.slot_list_append PySem.F.type_list_append bN (b9 (yqv 0 vl) rfl) (aa (yqv 4 vl) ad))))
       (ag
        (ce hu (yqv 2 vl) (yqv 5 vl) (yqv 4 vl) rfl)))))))
   (ac
    (bt (yqv 0 vl) (aj T.d_place_led_to G_place_led_to (hr.mono (by first | decide | omega)) (aa (al ax (yqv 1 vl) ab (fun _ _=>rfl)) (aa (b9 (yqv 0 vl) rfl) ad)) gl) rfl)
   (ag
    (bt (yqv 0 vl) (yqv 2 vl) rfl))))))),?_⟩
 rw [show aL _ [V.ref p]=[some (.ref p),none,none,none,none,none] from rfl]
 simp_arith! []
 obtain ⟨dx,e⟩:=hR.ob
 obtain ⟨xs,x,hxs,hx,qs,da,ea,vs,rfl,v1,v2,v3,v4⟩:=hT.at hF
 refine d4 e T.c_TableRun.cl T.n_TableRun_table rfl (d4 e T.c_TableRun.cl T.n_TableRun_place rfl ?_)
 simp_arith! []
 refine ⟨_,_,SqL.of (hR.same _ _ hxs),b8 hx,?_⟩
 refine aM ?_
 simp_arith! []
 refine d4 e T.c_TableRun.cl T.n_TableRun_boxes rfl ⟨_,_,rfl,.inl hR.bxs,fun af haf=>?_⟩
 have t1:=Same.upd (o:=.dK st.1) haf
 have naf:bx≠af:=au hR.bxs haf
 have npf:p≠af:=au e haf
 have ntf:td≠af:=au hR.tds haf
 have hR1:=hR.mv t1
 have eaf:upd H af (.dK st.1) af=some (.dK st.1):=ae
 have faf:=hR.same.free haf
 have e1:=t1 _ _ e
 generalize upd H af (.dK st.1)=H1 at t1 hR1 eaf e1 ⊢
 refine aM ?_
 simp_arith! [j5,fW]
 have lv:=v3.length
 have hlen:=hS.len
 have few:=hG.few
 refine ⟨fun σ H'=>Same H0 H'/\H' p=some (.ins t.C_TableRun dx (ji wd tb bx td (.int i)))/\H' bx=some (.dK st.1)/\H' af=some (.dK (GO.beat wd st.1 blk.ds st).1)/\H' td=some (.lst ((GO.beat wd st.1 blk.ds st).2.map V.int))/\∃o3 o4 o5,σ=[some (.ref p),some (.ref qs),some (.ref af),o3,o4,o5],?_,?_⟩
 ·refine ⟨_,_,hR1.same.seqT v1,rfl,_,rfl,⟨_,SqL.of (hR1.same _ _ v2)⟩,?_⟩
  refine d5 (xs:=vs) (fun j σ H'=>Same H0 H'/\H' p=some (.ins t.C_TableRun dx (ji wd tb bx td (.int i)))/\H' bx=some (.dK st.1)/\BxG ns wd (GO.beat wd st.1 (blk.ds.take j) st).1/\H' af=some (.dK (GO.beat wd st.1 (blk.ds.take j) st).1)/\H' td=some (.lst ((GO.beat wd st.1 (blk.ds.take j) st).2.map V.int))/\∃o3 o4 o5,σ=[some (.ref p),some (.ref qs),some (.ref af),o3,o4,o5])
   ⟨hR1.same,e1,hR1.bxs,hG,eaf,hR1.tds,_,_,_,rfl⟩ (fun j σ H' _ h=>SqL.of (h.1 _ _ v2)) ?_ ?_
  ·rintro j y σ H2 hy ⟨s2,ep,eb,gb,ef,et,o3,o4,o5,rfl⟩
   obtain ⟨d,hd,q0,rfl,hq0,hf⟩:=Paired.get v3 hy
   have hgd:=hS.gd d (List.mem_of_getElem? hd)
   have hl2:=GO.c6 (w:=wd) (b0:=st.1) (ds:=blk.ds.take j) (s:=st)
   have lt:(blk.ds.take j).length<=blk.ds.length:=by rw [List.length_take];exact Nat.min_le_right ..
   have few2:=gb.few
   simp_arith [j5,fW]
   refine d4 ep T.c_TableRun.cl T.n_TableRun_boxes rfl (d4 ep T.c_TableRun.cl T.n_TableRun_width rfl ?_)
   rw [j5]
   refine ⟨d,st.1,ns,s2.seqT hq0,eb,hG,hf,hgd,w1,w8,fun H3 s3=>?_⟩
   have s23:=s2.trans s3
   refine ⟨d,s23.seqT hq0,hf,?_⟩
   rw [GO.c7 hd]
   have gb3:=GO.BxG.atB hG gb hgd w1
   cases d with
   | tell o=>
    refine aw (fun _=>d4 (s3 _ _ ep) T.c_TableRun.cl T.n_TableRun_told rfl ⟨.inl ⟨rfl,_,SqL.of (s3 _ _ et)⟩,td,_,_,rfl,rfl,s3 _ _ et,by rw [List.length_map,sizeLine_eq];omega,?_⟩) (fun z=>absurd rfl z)
    have npt:p≠td:=bp (s3 _ _ ep) (s3 _ _ et) (by intro z;cases z)
    have nbt:bx≠td:=bp (s3 _ _ eb) (s3 _ _ et) (by intro z;cases z)
    refine ⟨s23.updM hR.fr.2.2,by rw [ap npt];exact s3 _ _ ep,by rw [ap nbt];exact s3 _ _ eb,gb3,by rw [ap ntf.symm];exact s3 _ _ ef,?_,_,_,_,rfl⟩
    show upd H3 td _ td=some (.lst (List.map V.int ((GO.beat wd st.1 (blk.ds.take j) st).2 ++ [dI st.1 wd (.tell o)])))
    rw [ae,List.map_append];rfl
   | copy n o=>
    refine aw (fun z=>absurd z (by intro z;cases z)) (fun _=>⟨_,DPut.k (k:=.inr n) (s3 _ _ ef) (by rw [sizeLine_eq];omega),?_⟩)
    exact ⟨s23.updM faf,by rw [ap npf];exact s3 _ _ ep,by rw [ap naf];exact s3 _ _ eb,gb3,ae,by rw [ap ntf];exact s3 _ _ et,_,_,_,rfl⟩
   | op g n o o2=>
    refine aw (fun z=>absurd z (by intro z;cases z)) (fun _=>⟨_,DPut.k (k:=.inr n) (s3 _ _ ef) (by rw [sizeLine_eq];omega),?_⟩)
    exact ⟨s23.updM faf,by rw [ap npf];exact s3 _ _ ep,by rw [ap naf];exact s3 _ _ eb,gb3,ae,by rw [ap ntf];exact s3 _ _ et,_,_,_,rfl⟩
  ·rintro σ H2 ⟨s2,ep,eb,gb,ef,et,o3,o4,o5,rfl⟩
   rw [lv,List.take_length] at ef et
   exact ⟨s2,ep,eb,ef,et,_,_,_,rfl⟩
 rintro σ H2 ⟨s2,ep,eb,ef,et,o3,o4,o5,rfl⟩
 refine aM ?_
 simp_arith! [rK]
 refine ⟨_,_,s2.seqT v1,rfl,?_⟩
 refine d4 ep T.c_TableRun.cl T.n_TableRun_boxes rfl ?_
 rw [rK]
 refine ⟨blk.ed,st.1,ns,wd,s2.seqT v4,eb,hG,hS.nm,?_⟩
 refine eO ep T.c_TableRun.cl T.n_TableRun_place (by simp [ji]) ?_
 refine aM ?_
 simp_arith []
 refine eO ae T.c_TableRun.cl T.n_TableRun_boxes (Nat.lt_of_le_of_lt (ic _) (show 5+1 < 1000 by decide)) ?_
 have npt:p≠td:=bp ep et (by intro z;cases z)
 have npf2:p≠af:=bp ep ef (by intro z;cases z)
 refine q af _ ⟨(s2.updM hR.fr.1).updM hR.fr.1,⟨dx,?_⟩,?_,?_,⟨hR.fr.1,faf,hR.fr.2.2⟩⟩
 ·rw [ae]
  have:bH "boxes" (V.ref af) (bH "place" (eX st.1 blk.ed) (ji wd tb bx td (.int i)))=ji wd tb af td (eX st.1 blk.ed):=by
   unfold ji
   kernel_rfl
  rw [this]
 ·rw [ap npf2.symm,ap npf2.symm];exact ef
 ·rw [ap npt.symm,ap npt.symm];exact et
end
end K51
variable {b:Bx}
namespace K51
open PySem L2 PyProof.Rows FD FB FS FO FR FG
structure pB(ns:List Str)(wd:Int)(F:List FZ.Blk):Prop where
 st:∀b∈F,StG ns wd b
 tg:∀b∈F,∀j∈b.ed.tg,j < F.length
 pos:0 < F.length
def fD(K:PySem.W.Frag)(C:Addr)(pp tb c:Addr)(m:Int)(H:Hp)(Q:VK):Prop:=∃(wd:Int)(ins oth:List Str)(ss:List Stm)(a b r:Addr)(xs:List V)(f:List Addr)(ws:Bx)(F:List FZ.Blk),ProgAt K C H pp wd ins oth ss a b r xs f/\WordsIn H c ws ins wd/\1<=wd/\wd<=8/\(ins ++ oth).length<=1000/\TabV K H tb F/\pB (ins ++ oth) wd F/\m<=2100/\
 ∀p td bx H',Same H H'->H td=none->H bx=none->H' p=some (.tup [.ref td,.ref bx,.bl (GO.cb F wd m.toNat 0 (aF ins ws (ins ++ oth),[])).2])->H' td=some (.lst ((GO.cb F wd m.toNat 0 (aF ins ws (ins ++ oth),[])).1.2.map V.int))->H' bx=some (.dK (GO.cb F wd m.toNat 0 (aF ins ws (ins ++ oth),[])).1.1)->Q (.ref p) H'
def ga(K:PySem.W.Frag)(C:Addr):Sp:=fun vs H Q _=>∃(pp tb c:Addr)(m:Int),vs=[.ref pp,.ref tb,.ref c,.int m]/\fD K C pp tb c m H Q
theorem qU{b:Bx}{e:FZ.Ed}{j:Nat}(h:GA.nxt b e=some j):j∈e.tg:=by
 cases e with
 | stop=>cases h
 | go i=>cases h;exact List.mem_singleton.mpr rfl
 | choose n x y=>
  unfold GA.nxt at h
  cases h
  show (if aN b n≠0 then x else y)∈[x,y]
  split <;> simp
theorem mE{b:Bx}{e:FZ.Ed}(h:GA.nxt b e=none):eX b e=.non:=by unfold eX;rw [h]
theorem mD{b:Bx}{e:FZ.Ed}{j:Nat}(h:GA.nxt b e=some j):eX b e=.int j:=by unfold eX;rw [h]
section
variable {P:Program} {w:World} {K:PySem.W.Frag} {mg:Str->Option Value} {base:Heap} {t:Ad}
theorem f9{C pp tb c:Addr}{m:Int}{H:Hp}{Q:VK}{E:XK}:ga K C [.ref pp,.ref tb,.ref c,.int m] H Q E=fD K C pp tb c m H Q:=propext ⟨by rintro ⟨_,_,_,_,e,q⟩;cases e;exact q,fun q=>⟨_,_,_,_,rfl,q⟩⟩
theorem kW(T:Txt K mg t):FnOk P w K mg base CX0 6 t.f_run_table t.e_run_table ["program","table","words","most"] (ga K t.C_Program):=by
 have G_TableRun___init__:=mQ (P:=P) (w:=w) (base:=base) T
 have G_TableRun_go_beat:=kT (P:=P) (w:=w) (base:=base) T
 refine T.d_run_table.F.ok sc_run_table (fun vs H Q E h=>by obtain ⟨_,_,_,_,rfl,_⟩:=h;rfl) (fun cdv A outer s H vs Q E hr h=>?_)
 obtain ⟨pp,tb,c,m,rfl,wd,ins,oth,ss,a,b,r,xs,f,ws,F,hP,hW,w1,w8,hl,hT,hF,hm,q⟩:=h
 refine ⟨_,
   (XSs.h
   (ac
    (ar (i:=4) sc_run_table.nd rfl ll (gj T.c_TableRun T.d_TableRun___init__ G_TableRun___init__ (hr.mono (by first | decide | omega)) (aa (yqv 0 vl) (aa (yqv 1 vl) (aa (yqv 2 vl) ad))) gl))
   (ac
    (ar (i:=5) sc_run_table.nd rfl ll ab)
   (ac
    (lz PassesOwn.never (cU (qQ (ao cV (yqv 5 vl) (yqv 3 vl) (ay _)) (pv (ao q5 (b9 (yqv 4 vl) rfl) dw (ay _)))))
     (ac
      (bF (jm T.c_TableRun.cl T.d_TableRun_go_beat G_TableRun_go_beat (hr.mono (by first | decide | omega)) (yqv 4 vl)))
     (ag
      (ar (i:=5) sc_run_table.nd rfl ll (ai aQ (yqv 5 vl) ab)))))
   (ag
    (am (b7 (aa (b9 (yqv 4 vl) rfl) (aa (b9 (yqv 4 vl) rfl) (aa (br mT (b9 (yqv 4 vl) rfl) dw (ay _)) ad)))))))))),?_⟩
 rw [show aL _ [V.ref pp,V.ref tb,V.ref c,V.int m]=[some (.ref pp),some (.ref tb),some (.ref c),some (.int m),none,none] from rfl]
 simp_arith [jX,f8]
 intro p dx hp hdx hne
 have s1:Same H (upd (upd H dx (.own p)) p (.ins t.C_TableRun dx [])):=(Same.upd hdx).updM hp
 simp only [jX]
 refine ⟨H,dx,wd,ins,oth,ss,a,b,r,xs,f,ws,s1,hp,ae,hP,hW,hl,fun bx td H1 hR=>⟨rfl,?_⟩⟩
 obtain ⟨st0,est⟩:∃st0:GA.BT,st0=(aF ins ws (ins ++ oth),[]):=⟨_,rfl⟩
 have hb0:BxG (ins ++ oth) wd st0.1:=by rw [est];exact hE hW.get hl
 have hst:st0.2.length<=60 * 0:=by rw [est];exact Nat.le_refl _
 rw [<- est] at hR q
 generalize hRR:GO.cb F wd m.toNat 0 st0=R at q
 refine ls (fun σ H'=>∃(k:Nat)(bx:Addr)(s:GA.BT)(pl:V),(k:Int)<=max m 0/\TRunH t.C_TableRun H H' p tb bx td wd pl s/\BxG (ins ++ oth) wd s.1/\s.2.length<=60 * k/\((∃i:Nat,pl=.int i/\i < F.length/\R=GO.cb F wd (m.toNat - k) i s)\/(pl=.non/\R=(s,true)))/\σ=[some (.ref pp),some (.ref tb),some (.ref c),some (.int m),some (.ref p),some (.int k)])
  (fun (σ:L2.St) H'=>match (σ[5]?).join with | some (V.int i)=>(m - i).toNat | _=>0) ⟨0,bx,_,_,by omega,hR,hb0,hst,.inl ⟨0,rfl,hF.pos,hRR.symm⟩,rfl⟩ ?_
 rintro σ H2 ⟨k,bx2,s2,pl,hk,hR2,hG2,hl2,hpl,rfl⟩
 simp_arith [f8]
 have fin:R=(s2,decide (pl=.non))->eG K (V.ref p) "told" H2 fun x H1=>eG K (V.ref p) "boxes" H1 fun x_1 H1=>eG K (V.ref p) "place" H1 fun x_2 H1=>∀(p:Addr),H1 p=none->Q (V.ref p) (upd H1 p (HO.tup [x,x_1,V.bl (decide (x_2=.non))])):=by
  intro he
  obtain ⟨dx3,e3⟩:=hR2.ob
  refine d4 e3 T.c_TableRun.cl T.n_TableRun_told rfl (d4 e3 T.c_TableRun.cl T.n_TableRun_boxes rfl (d4 e3 T.c_TableRun.cl T.n_TableRun_place rfl fun u hu=>?_))
  have s5:=Same.upd (o:=.tup [V.ref td,V.ref bx2,V.bl (decide (pl=.non))]) hu
  rw [he] at q
  exact q u td bx2 _ (hR2.same.trans s5) hR2.fr.2.2 hR2.fr.2.1 ae (s5 _ _ hR2.tds) (s5 _ _ hR2.bxs)
 have mint:∀i:Nat,decide (V.int i=V.non)=false:=fun i=>rfl
 refine aw (fun h1=>?_) (fun h1=>?_)
 ·obtain ⟨dx2,e2⟩:=hR2.ob
  refine d4 e2 T.c_TableRun.cl T.n_TableRun_place rfl ?_
  rcases hpl with ⟨i,rfl,hi,eR⟩ | ⟨rfl,eR⟩
  ·rw [mint]
   simp_arith [f8]
   obtain ⟨blk,hblk⟩:∃blk,F[i]?=some blk:=⟨_,List.getElem?_eq_getElem hi⟩
   have hmem:=List.mem_of_getElem? hblk
   have hsg:=hF.st blk hmem
   rw [show m.toNat - k=m.toNat - (k+1)+1 by omega,GO.dC hblk] at eR
   obtain ⟨hG3,_⟩:=GO.BxG.beat hG2 w1 hG2 hsg.gd
   have hl3:=GO.c6 (w:=wd) (b0:=s2.1) (ds:=blk.ds) (s:=s2)
   have hsl:=hsg.len
   rw [if_pos trivial]
   refine ⟨fun σ' H'=>∃(bx:Addr),TRunH t.C_TableRun H H' p tb bx td wd (eX s2.1 blk.ed) (GO.beat wd s2.1 blk.ds s2)/\σ'=[some (V.ref pp),some (V.ref tb),some (V.ref c),some (V.int m),some (V.ref p),some (V.int (k+1))],?_,?_⟩
   ·rintro σ' H' ⟨bx',hRj,rfl⟩
    refine ⟨_,?_,rfl,k+1,bx',_,_,by omega,hRj,hG3,by omega,?_,rfl⟩
    ·show (m - ((k:Int)+1)).toNat < (m - (k:Int)).toNat
     omega
    ·unfold GO.tR at eR
     cases e:GA.nxt s2.1 blk.ed with
     | none=>
      rw [e] at eR
      exact .inr ⟨mE e,eR⟩
     | some j=>
      rw [e] at eR
      exact .inl ⟨j,mD e,hF.tg blk hmem j (qU e),eR⟩
   ·exact sL e2 rfl ⟨H,tb,bx2,td,wd,i,s2,F,blk,ins ++ oth,hR2,hT,hblk,hsg,hG2,w1,w8,by omega,fun bx' H4 hR4=>⟨bx',hR4,rfl⟩⟩
  ·rw [decide_eq_true rfl,if_neg (by decide)]
   exact fin eR
 ·refine fin ?_
  rcases hpl with ⟨i,rfl,hi,eR⟩ | ⟨rfl,eR⟩
  ·rw [show m.toNat - k=0 by omega] at eR
   exact eR
  ·exact eR
end
end K51
variable {H:Hp} {Q:VK}
namespace K51
open PySem L2 PyProof.Rows FD FB FS FO FR FG
def gQ(op:Str)(x y w:Int)(H:Hp)(Q:VK):Prop:=op∈FB.opsL/\0<=w/\w<=8/\∀H',Same H H'->Q (.int (gD op x y w)) H'
def iy:Sp:=fun vs H Q _=>∃(op:Str)(x y w:Int),vs=[.str op,.int x,.int y,.int w]/\gQ op x y w H Q
def iQ(K:PySem.W.Frag)(q:Addr)(bf bx td:Addr)(w:Int)(H:Hp)(Q:VK):Prop:=∃(d:Deed)(b0 b:Bx)(ns:List Str)(tl:List Int),SqT K H q d.vs/\d.fine/\Deed.good ns w d/\H bf=some (.dK b0)/\BxG ns w b0/\H bx=some (.dK b)/\BxG ns w b/\H td=some (.lst (tl.map V.int))/\tl.length<=200000/\1<=w/\w<=8/\
 ∀H',SameB bx td H H'->H' bx=some (.dK (GO.atB w d b0 b))->H' td=some (.lst ((doT w d b0 tl).map V.int))->Q .non H'
theorem sM{K:PySem.W.Frag}{q:Addr}{bf bx td:Addr}{w:Int}{H:Hp}{Q:VK}(d:Deed)(b0 b:Bx)(ns:List Str)(tl:List Int)(h_0:SqT K H q d.vs)(h_1:d.fine)(h_2:Deed.good ns w d)(h_3:H bf=some (.dK b0))(h_4:BxG ns w b0)(h_5:H bx=some (.dK b))(h_6:BxG ns w b)(h_7:H td=some (.lst (tl.map V.int)))(h_8:tl.length<=200000)(h_9:1<=w)(h_10:w<=8)(h_11:∀H',SameB bx td H H'->H' bx=some (.dK (GO.atB w d b0 b))->H' td=some (.lst ((doT w d b0 tl).map V.int))->Q .non H'):iQ K q bf bx td w H Q:=⟨d,b0,b,ns,tl,h_0,h_1,h_2,h_3,h_4,h_5,h_6,h_7,h_8,h_9,h_10,h_11⟩
def oK(K:PySem.W.Frag):Sp:=fun vs H Q _=>∃(q bf bx td:Addr)(w:Int),vs=[.ref q,.ref bf,.ref bx,.ref td,.int w]/\iQ K q bf bx td w H Q
section
variable {P:Program} {w:World} {K:PySem.W.Frag} {mg:Str->Option Value} {base:Heap} {t:Ad}
theorem qB{op:Str}{x y w:Int}{E:XK}:iy [.str op,.int x,.int y,.int w] H Q E=gQ op x y w H Q:=propext ⟨by rintro ⟨_,_,_,_,e,q⟩;cases e;exact q,fun q=>⟨_,_,_,_,rfl,q⟩⟩
theorem jV{q bf bx td:Addr}{w:Int}{E:XK}:oK K [.ref q,.ref bf,.ref bx,.ref td,.int w] H Q E=iQ K q bf bx td w H Q:=propext ⟨by rintro ⟨_,_,_,_,_,e,q⟩;cases e;exact q,fun q=>⟨_,_,_,_,_,rfl,q⟩⟩
theorem mK(T:Txt K mg t):FnOk P w K mg base CX0 1 t.f__law_made t.e__law_made ["_law_op","_law_x","_law_y","_law_width"] iy:=by
 refine T.d__law_made.F.ok gE (fun vs H Q E h=>by obtain ⟨_,_,_,_,rfl,_⟩:=h;rfl) (fun cdv A outer s H vs Q E hr h=>?_)
 obtain ⟨op,x,y,w,rfl,ho,h0,h8,q⟩:=h
 refine ⟨_,
   (XSs.h
   (ac
    (aE (ao aU (yqv 0 vl) aG (ay _))
     (ag
      (am (ai aA (ai aQ (yqv 1 vl) (yqv 2 vl)) (ai cG ab (yqv 3 vl)))))
     av)
   (ac
    (aE (ao aU (yqv 0 vl) aG (ay _))
     (ag
      (am (ai aA (ai dy (yqv 1 vl) (yqv 2 vl)) (ai cG ab (yqv 3 vl)))))
     av)
   (ac
    (aE (ao aU (yqv 0 vl) aG (ay _))
     (ag
      (am (aO bM gl T.z_int boot_int (aa (br cV (yqv 1 vl) (yqv 2 vl) (ay _)) ad))))
     av)
   (ac
    (aE (ao aU (yqv 0 vl) aG (ay _))
     (ag
      (am (aO bM gl T.z_int boot_int (aa (br aU (yqv 1 vl) (yqv 2 vl) (ay _)) ad))))
     av)
   (ag
    (am (al aJ (aW (aa (al aJ (aW (aa (ai kl (yqv 1 vl) (yqv 2 vl)) (aa (ai pz (yqv 1 vl) (yqv 2 vl)) ad))) (aO bM gl T.z_int boot_int (aa (br aU (yqv 0 vl) aG (ay _)) ad)) (fun _ _=>rfl)) (aa (ai kn (yqv 1 vl) (yqv 2 vl)) ad))) (aO bM gl T.z_int boot_int (aa (br aU (yqv 0 vl) aG (ay _)) ad)) (fun _ _=>rfl))))))))),?_⟩
 rw [show aL _ [V.str op,V.int x,V.int y,V.int w]=[some (.str op),some (.int x),some (.int y),some (.int w)] from rfl]
 simp_arith []
 have z:op="plus"\/op="less"\/op="and"\/op="or"\/op="xor"\/op="below"\/op="same":=by simpa [FB.opsL] using ho
 have hp:(0:Int) < 1 * 2 ^ w.toNat:=by rw [Int.one_mul];exact Int.pow_pos (by decide)
 have cp:kq 1 w:=⟨h0,by omega,by decide⟩
 unfold gD at q
 rw [<- Int.one_mul (2 ^ w.toNat)] at q
 have t2:∀{p1 p2:Addr} {v:V},H p1=none->upd H p1 (.lst [V.int (Builtin.bitAnd x y),V.int (Builtin.bitOr x y)]) p2=none->Same H (upd (upd H p1 (.lst [V.int (Builtin.bitAnd x y),V.int (Builtin.bitOr x y)])) p2 (.lst [v,V.int (Builtin.bitXor x y)])):=fun h1 h2=>(Same.upd h1).trans (Same.upd h2)
 rcases z with rfl | rfl | rfl | rfl | rfl | rfl | rfl
 ·rw [if_pos rfl] at q
  rw [if_pos (by decide)]
  exact ⟨cp,hp,q H (Same.refl H)⟩
 ·rw [if_neg (by decide +kernel),if_pos rfl] at q
  rw [if_neg (by decide +kernel),if_pos (by decide)]
  exact ⟨cp,hp,q H (Same.refl H)⟩
 ·rw [if_neg (by decide +kernel),if_neg (by decide +kernel),if_pos rfl] at q
  rw [if_neg (by decide +kernel),if_neg (by decide +kernel),if_neg (by decide +kernel),if_neg (by decide +kernel)]
  intro p1 hp1
  refine ⟨_,_,SqL.of ae,by rw [if_neg (by decide +kernel)];rfl,fun p2 hp2=>⟨_,_,SqL.of ae,by rw [if_neg (by decide +kernel)];rfl,q _ (t2 hp1 hp2)⟩⟩
 ·rw [if_neg (by decide +kernel),if_neg (by decide +kernel),if_neg (by decide +kernel),if_pos rfl] at q
  rw [if_neg (by decide +kernel),if_neg (by decide +kernel),if_neg (by decide +kernel),if_neg (by decide +kernel)]
  intro p1 hp1
  refine ⟨_,_,SqL.of ae,by rw [if_pos (by decide)];rfl,fun p2 hp2=>⟨_,_,SqL.of ae,by rw [if_neg (by decide +kernel)];rfl,q _ (t2 hp1 hp2)⟩⟩
 ·rw [if_neg (by decide +kernel),if_neg (by decide +kernel),if_neg (by decide +kernel),if_neg (by decide +kernel),if_pos rfl] at q
  rw [if_neg (by decide +kernel),if_neg (by decide +kernel),if_neg (by decide +kernel),if_neg (by decide +kernel)]
  intro p1 hp1
  refine ⟨_,_,SqL.of ae,by rw [if_neg (by decide +kernel)];rfl,fun p2 hp2=>⟨_,_,SqL.of ae,by rw [if_pos (by decide)];rfl,q _ (t2 hp1 hp2)⟩⟩
 ·rw [if_neg (by decide +kernel),if_neg (by decide +kernel),if_neg (by decide +kernel),if_neg (by decide +kernel),if_neg (by decide +kernel),if_pos rfl] at q
  rw [if_neg (by decide +kernel),if_neg (by decide +kernel),if_pos (by decide)]
  rw [show (if decide (x < y)=true then (1:Int) else 0)=(if x < y then 1 else 0) by simp]
  exact q H (Same.refl H)
 ·rw [if_neg (by decide +kernel),if_neg (by decide +kernel),if_neg (by decide +kernel),if_neg (by decide +kernel),if_neg (by decide +kernel),if_neg (by decide +kernel)] at q
  rw [if_neg (by decide +kernel),if_neg (by decide +kernel),if_neg (by decide +kernel),if_pos (by decide)]
  rw [show (if decide (x=y)=true then (1:Int) else 0)=(if x=y then 1 else 0) by simp]
  exact q H (Same.refl H)
theorem mN(T:Txt K mg t):FnOk P w K mg base CX0 1 t.f__law_word t.e__law_word ["_law_operand_here","_law_boxes"] (gK K):=by
 refine T.d__law_word.F.ok gH (fun vs H Q E h=>by obtain ⟨_,_,_,_,_,rfl,_⟩:=h;rfl) (fun cdv A outer s H vs Q E hr h=>?_)
 obtain ⟨o,bx,b,ns,w,rfl,hB,hG,ho,q⟩:=h
 have hu:=cj hr
 refine ⟨_,
   (XSs.h
   (ac
    (aE (bu (az bC gl T.z_isinstance boot_isinstance (aa (yqv 0 vl) (aa (bG (v:=.ty "str") gl T.z_str boot_str rfl) ad))))
     (ag
      (am (bD hu (yqv 1 vl) (yqv 0 vl) (fun _ _=>rfl))))
     av)
   (ag
    (am (yqv 0 vl))))),?_⟩
 rw [show aL _ [o.v,V.ref bx]=[some o.v,some (.ref bx)] from rfl]
 simp_arith []
 refine jz ⟨_,rfl,?_⟩
 cases o with
 | box n=>exact ⟨bx,_,rfl,.inl ⟨b,.inr n,.inl hB,rfl,(hG.val ho).symm⟩,q⟩
 | word i=>exact q
theorem mV{f:Str}(h:f∈FB.opsL){g:Str}(hg:g∉FB.opsL):¬f=g:=fun z=>hg (z ▸ h)
theorem sO(T:Txt K mg t):FnOk P w K mg base CX0 2 t.f__law_do t.e__law_do ["_law_deed_here","_law_before","_law_boxes","_law_said","_law_width"] (oK K):=by
 have G__law_word:=mN (P:=P) (w:=w) (base:=base) T
 have G__law_made:=mK (P:=P) (w:=w) (base:=base) T
 refine T.d__law_do.F.ok ja (fun vs H Q E h=>by obtain ⟨_,_,_,_,_,rfl,_⟩:=h;rfl) (fun cdv A outer s H vs Q E hr h=>?_)
 obtain ⟨qd,bf,bx,td,w,rfl,d,b0,b,ns,tl,hq,hf,hd,hB,hG,hBx,hGx,hT,hl,w1,w8,q⟩:=h
 have hu:=cj hr
 refine ⟨_,
   (XSs.h
   (ag
    (aE (ao aU (al ax (yqv 0 vl) ab (fun _ _=>rfl)) aG (ay _))
     (ag
      (bF (dE PySem.F.plainAttrs_list PySem.F.slot_list_append PySem.F.type_list_append bN (yqv 3 vl) (aa (aj T.d__law_word G__law_word (hr.mono (by first | decide | omega)) (aa (al ax (yqv 0 vl) ab (fun _ _=>rfl)) (aa (yqv 1 vl) ad)) gl) ad))))
     (ag
      (aE (ao aU (al ax (yqv 0 vl) ab (fun _ _=>rfl)) aG (ay _))
       (ag
        (ce hu (yqv 2 vl) (al ax (yqv 0 vl) ab (fun _ _=>rfl)) (aj T.d__law_word G__law_word (hr.mono (by first | decide | omega)) (aa (al ax (yqv 0 vl) ab (fun _ _=>rfl)) (aa (yqv 1 vl) ad)) gl) rfl))
       (ag
        (ce hu (yqv 2 vl) (al ax (yqv 0 vl) ab (fun _ _=>rfl)) (aj T.d__law_made G__law_made (hr.mono (by first | decide | omega)) (aa (al ax (yqv 0 vl) ab (fun _ _=>rfl)) (aa (aj T.d__law_word G__law_word (hr.mono (by first | decide | omega)) (aa (al ax (yqv 0 vl) ab (fun _ _=>rfl)) (aa (yqv 1 vl) ad)) gl) (aa (aj T.d__law_word G__law_word (hr.mono (by first | decide | omega)) (aa (al ax (yqv 0 vl) ab (fun _ _=>rfl)) (aa (yqv 1 vl) ad)) gl) (aa (yqv 4 vl) ad)))) gl) rfl))))))),?_⟩
 rw [show aL _ [V.ref qd,V.ref bf,V.ref bx,V.ref td,V.int w]=[some (.ref qd),some (.ref bf),some (.ref bx),some (.ref td),some (.int w)] from rfl]
 simp_arith []
 have few:=hGx.few
 have nbt:bx≠td:=bp hBx hT (by intro z;cases z)
 cases d with
 | tell o=>
  refine ⟨_,_,hq,rfl,?_⟩
  simp_arith []
  refine aw (fun _=>⟨.inl ⟨rfl,_,SqL.of hT⟩,_,_,hq,rfl,?_⟩) (fun e=>absurd trivial e)
  simp_arith [fc]
  refine ⟨b0,ns,w,hB,hG,hd,_,hT,by rw [List.length_map,sizeLine_eq];omega,q _ SameB.upd2 (by rw [ap nbt];exact hBx) ?_⟩
  show upd H td _ td=some (.lst (List.map V.int (tl ++ [d8 b0 o])))
  rw [ae,List.map_append];rfl
 | copy n o=>
  refine ⟨_,_,hq,rfl,?_⟩
  simp_arith []
  refine aw (fun e=>absurd e (by decide +kernel)) (fun _=>⟨_,_,hq,rfl,?_⟩)
  simp_arith []
  refine aw (fun _=>⟨_,_,hq,rfl,?_⟩) (fun e=>absurd trivial e)
  simp_arith [fc]
  refine ⟨b0,ns,w,hB,hG,hd.2,?_⟩
  exact ⟨_,_,hq,rfl,_,DPut.k (k:=.inr n) hBx (by rw [sizeLine_eq];omega),q _ SameB.upd1 ae (by rw [ap nbt.symm];exact hT)⟩
 | op f n o o2=>
  obtain ⟨g1,g2,g3,g4⟩:f∈FB.opsL/\n∈ns/\Opd.good ns w o/\Opd.good ns w o2:=hd
  refine ⟨_,_,hq,rfl,?_⟩
  simp_arith []
  refine aw (fun e=>absurd e (mV g1 (by decide +kernel))) (fun _=>⟨_,_,hq,rfl,?_⟩)
  simp_arith []
  refine aw (fun e=>absurd e (mV g1 (by decide +kernel))) (fun _=>⟨_,_,hq,rfl,_,_,hq,rfl,?_⟩)
  simp_arith [fc]
  refine ⟨b0,ns,w,hB,hG,g3,_,_,hq,rfl,?_⟩
  simp_arith [fc,qB]
  refine ⟨b0,ns,w,hB,hG,g4,g1,by omega,w8,fun H1 s1=>⟨_,_,s1.seqT hq,rfl,_,DPut.k (k:=.inr n) (s1 _ _ hBx) (by rw [sizeLine_eq];omega),?_⟩⟩
  exact q _ ((SameB.of s1).trans SameB.upd1) ae (by rw [ap nbt.symm];exact s1 _ _ hT)
end
structure DrN(K:PySem.W.Frag)(H:Hp)(q:Addr)(wd:Int)(ins oth:List Str)(pr:Addr):Prop where
 ex:∃pi po,SqT K H q [.int wd,.ref pi,.ref po,.ref pr]/\H pi=some (.lst (ins.map V.str))/\H po=some (.lst (oth.map V.str))
 few:(ins ++ oth).length<=8
 w1:1<=wd
 w8:wd<=8
theorem DrN.same{K:PySem.W.Frag}{H H':Hp}{q pr:Addr}{wd:Int}{ins oth:List Str}(h:DrN K H q wd ins oth pr)(s:Same H H'):DrN K H' q wd ins oth pr:=
 ⟨let ⟨pi,po,h1,h2,h3⟩:=h.ex;⟨pi,po,s.seqT h1,s _ _ h2,s _ _ h3⟩,h.few,h.w1,h.w8⟩
end K51
variable {H:Hp} {c:Addr} {ws:Bx}
namespace K51
open PySem L2 PyProof.Rows FD FB FS FO FR FG
structure WdsV(H:Hp)(c:Addr)(ws:Bx)(ins:List Str)(w:Int):Prop where
 hd:H c=some (.dK ws)
 isI:IntD ws
 has:∀n∈ins,∃x,dt ws n=some x/\0<=x/\x < 2 ^ w.toNat
 no:∀n,n∉ins->dt ws n=none
theorem WdsV.same{H H':Hp}{c:Addr}{ws:Bx}{ins:List Str}{w:Int}(h:WdsV H c ws ins w)(s:Same H H'):WdsV H' c ws ins w:=⟨s _ _ h.hd,h.isI,h.has,h.no⟩
theorem WdsV.get{H:Hp}{c:Addr}{ws:Bx}{ins:List Str}{w:Int}(h:WdsV H c ws ins w):∀n∈ins,0<=aN ws n/\aN ws n < 2 ^ w.toNat:=fun n hn=>by
 obtain ⟨x,e,h0,h1⟩:=h.has n hn
 unfold aN;rw [e];exact ⟨h0,h1⟩
theorem WdsV.first{H:Hp}{c:Addr}{ws:Bx}{ins:List Str}{w:Int}(h:WdsV H c ws ins w){ns:List Str}(hl:ns.length<=1000):BxG ns w (aF ins ws ns):=by
 obtain ⟨h1,h2,h3⟩:=cB h.get _ ns rfl
 exact ⟨h1,by omega,h3⟩
theorem IntD.getD{kvs:List (Key×V)}(h:IntD kvs){n:Str}:(aY kvs (.inr n)).getD (.int 0)=.int (aN kvs n):=by
 unfold aN dt
 cases e:aY kvs (.inr n) with
 | none=>rfl
 | some v=>
  have e':=e
  unfold aY at e'
  obtain ⟨kv,h1,rfl⟩:=Option.map_eq_some_iff.mp e'
  obtain ⟨i,hi⟩:=h.nums kv (List.mem_of_find?_eq_some h1)
  rw [hi];rfl
def eJ(K:PySem.W.Frag)(q c:Addr)(H:Hp)(Q:VK):Prop:=∃(wd:Int)(ins oth:List Str)(pr:Addr)(ws:Bx),DrN K H q wd ins oth pr/\WdsV H c ws ins wd/\
 ∀l H',Same H H'->H l=none->H' l=some (.dK (aF ins ws (ins ++ oth)))->Q (.ref l) H'
theorem mw{K:PySem.W.Frag}{q c:Addr}{H:Hp}{Q:VK}(wd:Int)(ins oth:List Str)(pr:Addr)(ws:Bx)(h_0:DrN K H q wd ins oth pr)(h_1:WdsV H c ws ins wd)(h_2:∀l H',Same H H'->H l=none->H' l=some (.dK (aF ins ws (ins ++ oth)))->Q (.ref l) H'):eJ K q c H Q:=⟨wd,ins,oth,pr,ws,h_0,h_1,h_2⟩
def iq(K:PySem.W.Frag):Sp:=fun vs H Q _=>∃q c:Addr,vs=[.ref q,.ref c]/\eJ K q c H Q
section
variable {P:Program} {w:World} {K:PySem.W.Frag} {mg:Str->Option Value} {base:Heap} {t:Ad}
theorem qz{q:Addr}{Q:VK}{E:XK}:iq K [.ref q,.ref c] H Q E=eJ K q c H Q:=propext ⟨by rintro ⟨_,_,e,q⟩;cases e;exact q,fun q=>⟨_,_,rfl,q⟩⟩
theorem mF(T:Txt K mg t):FnOk P w K mg base CX0 1 t.f__law_begun t.e__law_begun ["_law_drawn_here","_law_words_here"] (iq K):=by
 refine T.d__law_begun.F.ok sc__law_begun (fun vs H Q E h=>by obtain ⟨_,_,rfl,_⟩:=h;rfl) (fun cdv A outer s H vs Q E hr h=>?_)
 obtain ⟨p,c,rfl,wd,ins,oth,pr,ws,hD,hW,q⟩:=h
 have hu:=cj hr
 refine ⟨_,
   (XSs.h
   (ac
    (ar (i:=2) sc__law_begun.nd rfl ll dF)
   (ac
    (ba PassesOwn.never rfl (bj (ai j0 (al ax (yqv 0 vl) ab (fun _ _=>rfl)) (al ax (yqv 0 vl) ab (fun _ _=>rfl)))) (aI (i:=3) sc__law_begun.nd rfl ll)
     (ag
      (ce hu (yqv 2 vl) (yqv 3 vl) (lu hu (yqv 1 vl) (yqv 3 vl) ab ⟨rfl,rfl,rfl,rfl⟩) rfl)))
   (ag
    (am (yqv 2 vl)))))),?_⟩
 rw [show aL _ [V.ref p,V.ref c]=[some (.ref p),some (.ref c),none,none] from rfl]
 simp_arith []
 intro l hl0
 have s1:Same H (upd H l (.dK [])):=Same.upd hl0
 obtain ⟨pi,po,hq,hi,ho⟩:=hD.ex
 have hfew:=hD.few
 rw [List.length_append] at hfew
 refine ⟨_,_,s1.seqT hq,rfl,_,_,s1.seqT hq,rfl,pi,po,_,_,rfl,rfl,s1 _ _ hi,s1 _ _ ho,by rw [List.length_map,List.length_map,sizeLine_eq];omega,fun pn hpn=>?_⟩
 have t1:=Same.upd (o:=.lst (ins.map V.str ++ oth.map V.str)) hpn
 have en:upd (upd H l (.dK [])) pn (.lst (ins.map V.str ++ oth.map V.str)) pn=some (.lst ((ins ++ oth).map V.str)):=by rw [ae,List.map_append]
 have el:upd (upd H l (.dK [])) pn (.lst (ins.map V.str ++ oth.map V.str)) l=some (.dK []):=t1 _ _ ae
 have npl:pn≠l:=fun z=>by rw [z,ae] at hpn;cases hpn
 generalize upd (upd H l (.dK [])) pn _=H1 at t1 en el ⊢
 have s01:=s1.trans t1
 refine ⟨pn,rfl,⟨_,SqL.of en⟩,?_⟩
 refine d5 (xs:=(ins ++ oth).map V.str) (fun i σ H'=>Same H H'/\H' pn=some (.lst ((ins ++ oth).map V.str))/\H' l=some (.dK (aF ins ws ((ins ++ oth).take i)))/\∃o,σ=[some (.ref p),some (.ref c),some (.ref l),o])
  ⟨s01,en,el,_,rfl⟩ (fun i σ H' _ h=>SqL.of h.2.1) ?_ ?_
 ·rintro i x σ H' hx ⟨sm,en',hd,o,rfl⟩
  rw [List.getElem?_map] at hx
  obtain ⟨n,hn,rfl⟩:=Option.map_eq_some_iff.mp hx
  obtain ⟨hi,hne⟩:=List.getElem?_eq_some_iff.mp hn
  simp_arith []
  have en:aF ins ws ((ins ++ oth).take (i+1))=bi (aF ins ws ((ins ++ oth).take i)) (.inr n) (.int (if n∈ins then aN ws n else 0)):=by
   rw [List.take_succ_eq_append_getElem hi,hne,bU]
  have eb:(if n∈ins then aN ws n else 0)=aN ws n:=by
   split
   ·rfl
   ·next h=>unfold aN;rw [hW.no n h];rfl
  rw [eb] at en
  have lb:(aF ins ws ((ins ++ oth).take i)).length < sizeLine:=by
   have:=(cB hW.get _ ((ins ++ oth).take i) rfl).2.1
   rw [List.length_take,List.length_append] at this
   rw [sizeLine_eq];omega
  have hW2:Rd H' c (.dK ws):=.inl (sm _ _ hW.hd)
  refine ⟨.inl ⟨ws,hW2⟩,_,.inl ⟨ws,.inr n,hW2,rfl,rfl⟩,?_⟩
  rw [IntD.getD hW.isI]
  refine ⟨_,DPut.k (k:=.inr n) hd lb,sm.updM hl0,by rw [ap npl];exact en',?_,_,rfl⟩
  rw [ae,en]
 ·rintro σ H' ⟨sm,_,hd,o,rfl⟩
  rw [List.length_map,List.take_length] at hd
  simp_arith []
  exact q l H' sm hl0 hd
end
def fB(K:PySem.W.Frag)(pi:Addr)(n w:Int)(H:Hp)(Q:VK):Prop:=∃(ins:List Str),H pi=some (.lst (ins.map V.str))/\ins.length<=8/\Builtin.Int.intBits n<=2 ^ 20/\1<=w/\w<=8/\
 ∀c ws H',Same H H'->H c=none->WdsV H' c ws ins w->Q (.ref c) H'
def g8(K:PySem.W.Frag):Sp:=fun vs H Q _=>∃(pi:Addr)(n w:Int),vs=[.ref pi,.int n,.int w]/\fB K pi n w H Q
section
variable {P:Program} {w:World} {K:PySem.W.Frag} {mg:Str->Option Value} {base:Heap} {t:Ad}
theorem om{pi:Addr}{n w:Int}{H:Hp}{Q:VK}{E:XK}:g8 K [.ref pi,.int n,.int w] H Q E=fB K pi n w H Q:=propext ⟨by rintro ⟨_,_,_,e,q⟩;cases e;exact q,fun q=>⟨_,_,_,rfl,q⟩⟩
theorem kU(T:Txt K mg t):FnOk P w K mg base CX0 2 t.f__law_words t.e__law_words ["_law_ins","_law_number","_law_width"] (g8 K):=by
 have G__law_mixed:=eY (P:=P) (w:=w) (base:=base) T
 refine T.d__law_words.F.ok sc__law_words (fun vs H Q E h=>by obtain ⟨_,_,_,rfl,_⟩:=h;rfl) (fun cdv A outer s H vs Q E hr h=>?_)
 obtain ⟨pi,nb,wd,rfl,ins,hi,hl,hb,w1,w8,q⟩:=h
 have hu:=cj hr
 refine ⟨_,
   (XSs.h
   (ac
    (ar (i:=3) sc__law_words.nd rfl ll dF)
   (ac
    (ba PassesOwn.never rfl (aV gl T.z_range (aa (az aC gl T.z_len PySem.boot_len (aa (yqv 0 vl) ad)) ad)) (aI (i:=4) sc__law_words.nd rfl ll)
     (ac
      (ar (i:=5) sc__law_words.nd rfl ll (aj T.d__law_mixed G__law_mixed (hr.mono (by first | decide | omega)) (aa (yqv 1 vl) (aa (yqv 4 vl) ad)) gl))
     (ag
      (ce hu (yqv 3 vl) (al aJ (yqv 0 vl) (yqv 4 vl) (fun _ _=>rfl)) (ai aA (al aJ (aW (aa (ai aH (yqv 5 vl) ab) (aa ab (aa ab (aa (pj ko ab) ad))))) (ai aA (ai aA (yqv 5 vl) ab) ab) (fun _ _=>rfl)) (ai cG ab (yqv 2 vl))) rfl))))
   (ag
    (am (yqv 3 vl)))))),?_⟩
 rw [show aL _ [V.ref pi,V.int nb,V.int wd]=[some (.ref pi),some (.int nb),some (.int wd),none,none,none] from rfl]
 simp_arith [bW]
 intro pw hpw
 have hp2:(0:Int) < 1 * 2 ^ wd.toNat:=by rw [Int.one_mul];exact Int.pow_pos (by decide)
 have t1:=Same.upd (o:=.dK []) hpw
 refine ⟨_,.inl (SqL.of (t1 _ _ hi)),by rw [List.length_map];omega,by rw [List.length_map];omega,?_⟩
 rw [Int.toNat_natCast,List.length_map]
 refine bv (n:=ins.length) (fun i σ H'=>Same H H'/\(∃ws:Bx,H' pw=some (.dK ws)/\ws.length<=i/\IntD ws/\(∀n∈ins.take i,∃x,dt ws n=some x/\0<=x/\x < 2 ^ wd.toNat)/\∀n,n∉ins.take i->dt ws n=none)/\∃o4 o5,σ=[some (.ref pi),some (.int nb),some (.int wd),some (.ref pw),o4,o5])
  ⟨t1,⟨[],ae,Nat.le_refl _,IntD.nil,fun n hn=>by simp at hn,fun n _=>rfl⟩,_,_,rfl⟩ ?_ ?_
 ·rintro i σ H' hil ⟨sm,⟨ws,hws,lws,hI,hin,hout⟩,o4,o5,rfl⟩
  obtain ⟨n,hn⟩:∃n,ins[i]?=some n:=⟨_,List.getElem?_eq_getElem hil⟩
  have hne:=(List.getElem?_eq_some_iff.mp hn).2
  simp_arith [bW]
  refine ⟨hb,by omega,by omega,?_⟩
  generalize eV nb i=mx
  refine ⟨CDivB.small (by decide) (by decide),fun p1 hp1=>?_⟩
  have sq:=Same.upd (o:=.lst [V.int (mx / 8),V.int 0,V.int 1,V.int (-1)]) hp1
  obtain ⟨y,hy⟩:∃y:Int,atI [V.int (mx / 8),V.int 0,V.int 1,V.int (-1)] (mx % 8 % 4)=some (.int y):=by
   have h4:mx % 8 % 4=0\/mx % 8 % 4=1\/mx % 8 % 4=2\/mx % 8 % 4=3:=by omega
   rcases h4 with h | h | h | h <;> rw [h] <;> exact ⟨_,rfl⟩
  refine ⟨_,_,SqL.of ae,hy,⟨by omega,by omega,by decide⟩,?_⟩
  refine ⟨hp2,_,_,SqL.of (sq _ _ (sm _ _ hi)),b8 (by rw [List.getElem?_map,hn];rfl),_,DPut.k (k:=.inr n) (sq _ _ hws) (by rw [sizeLine_eq];omega),(sm.trans sq).updM hpw,⟨_,ae,?_,hI.put _ _,fun n' hn'=>?_,fun n' hn'=>?_⟩,_,_,rfl⟩
  ·exact Nat.le_trans (bV ws (.inr n) (.int (y % (1 * 2 ^ wd.toNat)))) (by omega)
  ·rw [du]
   by_cases e:n'=n
   ·rw [if_pos e]
    refine ⟨_,rfl,Int.emod_nonneg _ (by omega),?_⟩
    have:=Int.emod_lt_of_pos y hp2
    rw [Int.one_mul] at this ⊢
    exact this
   ·rw [if_neg e]
    refine hin n' ?_
    rw [List.take_succ_eq_append_getElem hil,hne] at hn'
    rcases List.mem_append.mp hn' with z | z
    ·exact z
    ·exact absurd (List.mem_singleton.mp z) e
  ·rw [List.take_succ_eq_append_getElem hil,hne] at hn'
   rw [du,if_neg (fun z=>hn' (by rw [z];simp))]
   exact hout n' (fun z=>hn' (List.mem_append_left _ z))
 ·rintro σ H' ⟨sm,⟨ws,hws,lws,hI,hin,hout⟩,o4,o5,rfl⟩
  rw [List.take_length] at hin hout
  simp_arith []
  exact q pw ws H' sm hpw ⟨hws,hI,hin,hout⟩
end
end K51
variable {H:Hp}
namespace K51
open PySem L2 PyProof.Rows FD FB FS FO FR FG
theorem SameB.out{H H1 H2:Hp}{bx td:Addr}(s:Same H H1)(sb:SameB bx td H1 H2)(hb:H bx=none)(ht:H td=none):Same H H2:=fun c o e=>sb c o (s _ _ e) (au e hb) (au e ht)
def kR(b:Bx)(e:FZ.Ed):Int:=match GA.nxt b e with
 | none=>-1
 | some j=>(j:Int)
def eK(K:PySem.W.Frag)(e bx:Addr)(H:Hp)(Q:VK):Prop:=∃(ed:FZ.Ed)(b:Bx)(ns:List Str)(w:Int),SqT K H e (h9 ed)/\H bx=some (.dK b)/\BxG ns w b/\(∀n i j,ed=.choose n i j->n∈ns)/\Q (.int (kR b ed)) H
theorem my{K:PySem.W.Frag}{e bx:Addr}{H:Hp}{Q:VK}(ed:FZ.Ed)(b:Bx)(ns:List Str)(w:Int)(h_0:SqT K H e (h9 ed))(h_1:H bx=some (.dK b))(h_2:BxG ns w b)(h_3:(∀n i j,ed=.choose n i j->n∈ns))(h_4:Q (.int (kR b ed)) H):eK K e bx H Q:=⟨ed,b,ns,w,h_0,h_1,h_2,h_3,h_4⟩
def iz(K:PySem.W.Frag):Sp:=fun vs H Q _=>∃e bx:Addr,vs=[.ref e,.ref bx]/\eK K e bx H Q
section
variable {P:Program} {w:World} {K:PySem.W.Frag} {mg:Str->Option Value} {base:Heap} {t:Ad}
theorem eD{e bx:Addr}{Q:VK}{E:XK}:iz K [.ref e,.ref bx] H Q E=eK K e bx H Q:=propext ⟨by rintro ⟨_,_,e,q⟩;cases e;exact q,fun q=>⟨_,_,rfl,q⟩⟩
theorem mL(T:Txt K mg t):FnOk P w K mg base CX0 1 t.f__law_next t.e__law_next ["_law_ending","_law_boxes"] (iz K):=by
 refine T.d__law_next.F.ok gF (fun vs H Q E h=>by obtain ⟨_,_,rfl,_⟩:=h;rfl) (fun cdv A outer s H vs Q E hr h=>?_)
 obtain ⟨e,bx,rfl,ed,b,ns,w,hq,hb,hG,hn,q⟩:=h
 have hu:=cj hr
 refine ⟨_,
   (XSs.h
   (ac
    (aE (ao aU (al ax (yqv 0 vl) ab (fun _ _=>rfl)) aG (ay _))
     (ag
      (am (al ax (yqv 0 vl) ab (fun _ _=>rfl))))
     av)
   (ac
    (aE (ao aU (al ax (yqv 0 vl) ab (fun _ _=>rfl)) aG (ay _))
     (ag
      (am (al ax (yqv 0 vl) (ai aQ ab (aO bM gl T.z_int boot_int (aa (br aU (bD hu (yqv 1 vl) (al ax (yqv 0 vl) ab (fun _ _=>rfl)) (fun _ _=>rfl)) ab (ay _)) ad))) (fun _ _=>rfl))))
     av)
   (ag
    (am (pj ko ab)))))),?_⟩
 rw [show aL _ [V.ref e,V.ref bx]=[some (.ref e),some (.ref bx)] from rfl]
 simp_arith []
 cases ed with
 | stop=>
  refine ⟨_,_,hq,rfl,?_⟩
  simp_arith []
  refine aw (fun z=>absurd z (by decide +kernel)) (fun _=>⟨_,_,hq,rfl,rfl,_,rfl,?_⟩)
  refine aw (fun z=>absurd z (by decide +kernel)) (fun _=>q)
 | go i=>
  refine ⟨_,_,hq,rfl,?_⟩
  simp_arith []
  exact aw (fun _=>⟨_,_,hq,rfl,q⟩) (fun z=>absurd trivial z)
 | choose n i j=>
  refine ⟨_,_,hq,rfl,?_⟩
  simp_arith []
  refine aw (fun z=>absurd z (by decide +kernel)) (fun _=>⟨_,_,hq,rfl,rfl,_,rfl,?_⟩)
  refine aw (fun _=>⟨_,_,hq,rfl,bx,_,rfl,.inl ⟨b,.inr n,.inl hb,rfl,(hG.val (hn n i j rfl)).symm⟩,rfl,.inr ⟨_,rfl,?_⟩⟩) (fun z=>absurd rfl z)
  have e:kR b (.choose n i j)=if aN b n=0 then (j:Int) else i:=by
   unfold kR GA.nxt
   dsimp only
   by_cases h:aN b n=0
   ·rw [if_pos h,if_neg (fun z=>z h)]
   ·rw [if_neg h,if_pos h]
  rw [e] at q
  by_cases h:aN b n=0
  ·rw [if_pos h] at q
   exact ⟨_,.int j,hq,by rw [decide_eq_true (by rw [h])];rfl,q⟩
  ·rw [if_neg h] at q
   exact ⟨_,.int i,hq,by rw [decide_eq_false (fun z=>h (V.int.inj z))];rfl,q⟩
end
def lI(K:PySem.W.Frag)(tb q c:Addr)(m:Int)(H:Hp)(Q:VK):Prop:=∃(wd:Int)(ins oth:List Str)(pr:Addr)(ws:Bx)(F:List FZ.Blk)(n:Nat),m=n/\n<=2100/\TabV K H tb F/\pB (ins ++ oth) wd F/\DrN K H q wd ins oth pr/\WdsV H c ws ins wd/\
 ∀p td bx H',Same H H'->H td=none->H bx=none->H' p=some (.tup [.ref td,.ref bx,.bl (GO.cb F wd n 0 (aF ins ws (ins ++ oth),[])).2])->H' td=some (.lst ((GO.cb F wd n 0 (aF ins ws (ins ++ oth),[])).1.2.map V.int))->H' bx=some (.dK (GO.cb F wd n 0 (aF ins ws (ins ++ oth),[])).1.1)->Q (.ref p) H'
def oN(K:PySem.W.Frag):Sp:=fun vs H Q _=>∃(tb q c:Addr)(m:Int),vs=[.ref tb,.ref q,.ref c,.int m]/\lI K tb q c m H Q
section
variable {P:Program} {w:World} {K:PySem.W.Frag} {mg:Str->Option Value} {base:Heap} {t:Ad}
theorem ol{tb q c:Addr}{m:Int}{H:Hp}{Q:VK}{E:XK}:oN K [.ref tb,.ref q,.ref c,.int m] H Q E=lI K tb q c m H Q:=propext ⟨by rintro ⟨_,_,_,_,e,q⟩;cases e;exact q,fun q=>⟨_,_,_,_,rfl,q⟩⟩
theorem sQ(T:Txt K mg t):FnOk P w K mg base CX0 3 t.f__law_table_run t.e__law_table_run ["_law_table","_law_drawn_here","_law_words_here","_law_most"] (oN K):=by
 have G__law_begun:=mF (P:=P) (w:=w) (base:=base) T
 have G__law_do:=sO (P:=P) (w:=w) (base:=base) T
 have G__law_next:=mL (P:=P) (w:=w) (base:=base) T
 refine T.d__law_table_run.F.ok sc__law_table_run (fun vs H Q E h=>by obtain ⟨_,_,_,_,rfl,_⟩:=h;rfl) (fun cdv A outer s H vs Q E hr h=>?_)
 obtain ⟨tb,p,c,m,rfl,wd,ins,oth,pr,ws,F,n,rfl,hn,hT,hF,hD,hW,q⟩:=h
 have hu:=cj hr
 refine ⟨_,
   (XSs.h
   (ac
    (ar (i:=4) sc__law_table_run.nd rfl ll (aj T.d__law_begun G__law_begun (hr.mono (by first | decide | omega)) (aa (yqv 1 vl) (aa (yqv 2 vl) ad)) gl))
   (ac
    (ar (i:=5) sc__law_table_run.nd rfl ll (aW ad))
   (ac
    (ar (i:=6) sc__law_table_run.nd rfl ll ab)
   (ac
    (ba PassesOwn.never rfl (aV gl T.z_range (aa (yqv 3 vl) ad)) (aI (i:=7) sc__law_table_run.nd rfl ll)
     (ac
      (ar (i:=8) sc__law_table_run.nd rfl ll (kh PySem.F.plainAttrs_dict PySem.F.slot_dict_copy PySem.F.type_dict_copy mz (yqv 4 vl)))
     (bd
      (ba PassesOwn.never rfl (bj (al ax (al aJ (yqv 0 vl) (yqv 6 vl) (fun _ _=>rfl)) ab (fun _ _=>rfl))) (aI (i:=9) sc__law_table_run.nd rfl ll)
       (ag
        (bF (aj T.d__law_do G__law_do (hr.mono (by first | decide | omega)) (aa (yqv 9 vl) (aa (yqv 8 vl) (aa (yqv 4 vl) (aa (yqv 5 vl) (aa (al ax (yqv 1 vl) ab (fun _ _=>rfl)) ad))))) gl))))
     (ac
      (ar (i:=6) sc__law_table_run.nd rfl ll (aj T.d__law_next G__law_next (hr.mono (by first | decide | omega)) (aa (al ax (al aJ (yqv 0 vl) (yqv 6 vl) (fun _ _=>rfl)) ab (fun _ _=>rfl)) (aa (yqv 8 vl) ad)) gl))
     (ag
      (aE (ao cV (yqv 6 vl) ab (ay _))
       (ag
        (am (b7 (aa (yqv 5 vl) (aa (yqv 4 vl) (aa bq ad))))))
       av))))))
   (ag
    (am (b7 (aa (yqv 5 vl) (aa (yqv 4 vl) (aa bq ad))))))))))),?_⟩
 rw [show aL _ [V.ref tb,V.ref p,V.ref c,V.int n]=[some (.ref tb),some (.ref p),some (.ref c),some (.int n),none,none,none,none,none,none] from rfl]
 simp_arith [qz,jV,eD]
 refine (mw (wd) (ins) (oth) (pr) (ws) (hD) (hW) (fun bx H1 s1 hbx0 hbx td htd=>?_))
 have t1:=Same.upd (o:=.lst []) htd
 have s2:=s1.trans t1
 have htd0:=s1.free htd
 have hfew:=hD.few
 have w1:=hD.w1
 have w8:=hD.w8
 obtain ⟨pi,po,hq,_,_⟩:=hD.ex
 generalize hR:GO.cb F wd n 0 (aF ins ws (ins ++ oth),[])=R at q
 refine ⟨by omega,by omega,?_⟩
 rw [Int.toNat_natCast]
 refine bv (n:=n) (fun k σ H'=>Same H H'/\∃(st:GA.BT)(i:Nat)(o7 o8 o9:Option V),H' bx=some (.dK st.1)/\H' td=some (.lst (st.2.map V.int))/\BxG (ins ++ oth) wd st.1/\st.2.length<=60 * k/\i < F.length/\R=GO.cb F wd (n - k) i st/\σ=[some (.ref tb),some (.ref p),some (.ref c),some (.int n),some (.ref bx),some (.ref td),some (.int i),o7,o8,o9])
  ⟨s2,(aF ins ws (ins ++ oth),[]),0,_,_,_,t1 _ _ hbx,ae,hW.first (by omega),Nat.zero_le _,hF.pos,by rw [Nat.sub_zero];exact hR.symm,rfl⟩ ?_ ?_
 ·rintro k σ H2 hk ⟨s2,st,i,o7,o8,o9,hb2,ht2,hG,hl,hi,eR,rfl⟩
  obtain ⟨blk,hblk⟩:∃blk,F[i]?=some blk:=⟨_,List.getElem?_eq_getElem hi⟩
  have hmem:=List.mem_of_getElem? hblk
  have hg:=hF.st blk hmem
  obtain ⟨xs,x,hxs,hx,qs,da,ea,vs,rfl,v1,v2,v3,v4⟩:=hT.at hblk
  rw [show n - k=n - (k+1)+1 by omega,GO.dC hblk] at eR
  have hlen:=GO.c6 (w:=wd) (b0:=st.1) (ds:=blk.ds) (s:=st)
  have h60:=hg.len
  simp_arith [jV,eD]
  refine ⟨.inr (.inr (.inl ⟨rfl,.inl ⟨_,hb2⟩⟩)),_,_,rfl,rfl,.inl hb2,fun bf hbf=>?_⟩
  have t3:=Same.upd (o:=.dK st.1) hbf
  have nbf:bx≠bf:=au hb2 hbf
  have ntf:td≠bf:=au ht2 hbf
  have hb3:=t3 _ _ hb2
  have ht3:=t3 _ _ ht2
  have s3:=s2.trans t3
  have ef:upd H2 bf (.dK st.1) bf=some (.dK st.1):=ae
  generalize upd H2 bf (.dK st.1)=H3 at t3 hb3 ht3 s3 ef ⊢
  refine ⟨fun σ H'=>Same H H'/\H' bf=some (.dK st.1)/\H' bx=some (.dK (GO.beat wd st.1 blk.ds st).1)/\H' td=some (.lst ((GO.beat wd st.1 blk.ds st).2.map V.int))/\∃o9,σ=[some (.ref tb),some (.ref p),some (.ref c),some (.int n),some (.ref bx),some (.ref td),some (.int i),some (.int k),some (.ref bf),o9],?_,?_⟩
  ·refine ⟨_,_,SqL.of (s3 _ _ hxs),b8 hx,?_⟩
   simp_arith []
   refine ⟨_,_,s3.seqT v1,rfl,_,rfl,⟨_,SqL.of (s3 _ _ v2)⟩,?_⟩
   refine d5 (xs:=vs) (fun j σ H'=>Same H H'/\H' bf=some (.dK st.1)/\BxG (ins ++ oth) wd (GO.beat wd st.1 (blk.ds.take j) st).1/\H' bx=some (.dK (GO.beat wd st.1 (blk.ds.take j) st).1)/\H' td=some (.lst ((GO.beat wd st.1 (blk.ds.take j) st).2.map V.int))/\∃o9,σ=[some (.ref tb),some (.ref p),some (.ref c),some (.int n),some (.ref bx),some (.ref td),some (.int i),some (.int k),some (.ref bf),o9])
    ⟨s3,ef,hG,hb3,ht3,_,rfl⟩ (fun j σ H' _ h=>SqL.of (h.1 _ _ v2)) ?_ ?_
   ·rintro j y σ H4 hy ⟨s4,ef4,gb,eb,et,o9,rfl⟩
    obtain ⟨d,hd,q0,rfl,hq0,hf⟩:=Paired.get v3 hy
    have hgd:=hg.gd d (List.mem_of_getElem? hd)
    have hl4:=GO.c6 (w:=wd) (b0:=st.1) (ds:=blk.ds.take j) (s:=st)
    have lt:(blk.ds.take j).length<=blk.ds.length:=by rw [List.length_take];exact Nat.min_le_right ..
    simp_arith [jV]
    refine ⟨_,_,s4.seqT hq,rfl,?_⟩
    rw [jV]
    refine (sM (d) (st.1) (_) (ins ++ oth) (_) (s4.seqT hq0) (hf) (hgd) (ef4) (hG) (eb) (gb) (et) (by omega) (w1) (w8) (fun H5 s5 e1 e2=>⟨SameB.out s4 s5 hbx0 htd0,s5 _ _ ef4 nbf.symm ntf.symm,?_,?_,?_,_,rfl⟩))
    ·rw [GO.c7 hd];exact GO.BxG.atB hG gb hgd w1
    ·rw [GO.c7 hd];exact e1
    ·rw [GO.c7 hd];exact e2
   ·rintro σ H4 ⟨s4,ef4,gb,eb,et,o9,rfl⟩
    rw [v3.length,List.take_length] at eb et
    exact ⟨s4,ef4,eb,et,_,rfl⟩
  rintro σ H4 ⟨s4,ef4,eb,et,o9,rfl⟩
  simp_arith [eD]
  refine ⟨_,_,SqL.of (s4 _ _ hxs),b8 hx,?_⟩
  simp_arith []
  refine ⟨_,_,s4.seqT v1,rfl,?_⟩
  rw [eD]
  refine (my (blk.ed) (st.1) (ins ++ oth) (wd) (s4.seqT v4) (ef4) (hG) (hg.nm) (?_))
  obtain ⟨hG3,_⟩:=GO.BxG.beat hG w1 hG hg.gd
  unfold GO.tR at eR
  cases e:GA.nxt st.1 blk.ed with
  | none=>
   rw [e] at eR
   simp_arith [kR,e]
   rw [if_pos (by decide)]
   intro pt hpt
   subst eR
   have t4:=Same.upd (o:=.tup [V.ref td,V.ref bx,V.bl true]) hpt
   exact q pt td bx _ (s4.trans t4) htd0 hbx0 ae (t4 _ _ et) (t4 _ _ eb)
  | some j=>
   rw [e] at eR
   simp_arith [kR,e]
   rw [if_neg (by simp)]
   exact ⟨s4,_,j,_,_,_,eb,et,hG3,by omega,hF.tg blk hmem j (qU e),eR,rfl⟩
 ·rintro σ H2 ⟨s2,st,i,o7,o8,o9,hb2,ht2,hG,hl,hi,eR,rfl⟩
  rw [Nat.sub_self] at eR
  have eR:R=(st,false):=eR
  subst eR
  simp_arith []
  intro pt hpt
  have t4:=Same.upd (o:=.tup [V.ref td,V.ref bx,V.bl false]) hpt
  exact q pt td bx _ (s2.trans t4) htd0 hbx0 ae (t4 _ _ ht2) (t4 _ _ hb2)
end
end K51
variable {H:Hp} {Q:VK}
namespace K51
open PySem L2 PyProof.Rows FD FB FS FO FR FG
def k7(K:PySem.W.Frag):Sp:=fun vs H Q _=>∃(a b:Addr)(ns:List Int),vs=[.ref a,.ref b]/\SqL K H a (ns.map V.int)/\SqL K H b (ns.map V.int)/\ns.length<=100000/\Q (.bl true) H
section
variable {P:Program} {w:World} {K:PySem.W.Frag} {mg:Str->Option Value} {base:Heap} {t:Ad}
theorem oj{a b:Addr}{E:XK}:k7 K [.ref a,.ref b] H Q E=∃ns:List Int,SqL K H a (ns.map V.int)/\SqL K H b (ns.map V.int)/\ns.length<=100000/\Q (.bl true) H:=propext ⟨by rintro ⟨_,_,ns,e,q⟩;cases e;exact ⟨ns,q⟩,by rintro ⟨ns,q⟩;exact ⟨a,b,ns,rfl,q⟩⟩
theorem ma{H:Hp}{a:Addr}{xs:List V}{Q:VK}(h:SqL K H a xs)(q:Q (.bl true) H):j4 K [.ref a,.ty "list"] H Q:=⟨_,_,_,rfl,by decide +kernel,.lst h,q⟩
theorem pN{H:Hp}{a:Addr}{xs:List V}{Q:VK}(h:SqT K H a xs)(q:Q (.bl true) H):j4 K [.ref a,.ty "tuple"] H Q:=⟨_,_,_,rfl,by decide +kernel,.tup h,q⟩
theorem pU(T:Txt K mg t):FnOk P w K mg base CX0 2 t.f__law_list t.e__law_list ["_law_found","_law_due"] (k7 K):=by
 have G__law_whole:=i8 (P:=P) (w:=w) (base:=base) T
 refine T.d__law_list.F.ok sc__law_list (fun vs H Q E h=>by obtain ⟨_,_,_,rfl,_⟩:=h;rfl) (fun cdv A outer s H vs Q E hr h=>?_)
 obtain ⟨a,b,ns,rfl,hA,hB,hl,q⟩:=h
 refine ⟨_,
   (XSs.h
   (ac
    (aE (cU (cz (c1 (bu (az bC gl T.z_isinstance boot_isinstance (aa (yqv 0 vl) (aa (bG (v:=.ty "list") gl T.z_list boot_list rfl) ad))))) (cF (ao dM (az aC gl T.z_len PySem.boot_len (aa (yqv 0 vl) ad)) (az aC gl T.z_len PySem.boot_len (aa (yqv 1 vl) ad)) (ay _)))))
     (ag
      (am bq))
     av)
   (ac
    (ba PassesOwn.never rfl (aV gl T.z_range (aa (az aC gl T.z_len PySem.boot_len (aa (yqv 1 vl) ad)) ad)) (aI (i:=2) sc__law_list.nd rfl ll)
     (ag
      (aE (cU (cz (c1 (bu (aj T.d__law_whole G__law_whole (hr.mono (by first | decide | omega)) (aa (al aJ (yqv 0 vl) (yqv 2 vl) (fun _ _=>rfl)) ad) gl))) (cF (ao dM (al aJ (yqv 0 vl) (yqv 2 vl) (fun _ _=>rfl)) (al aJ (yqv 1 vl) (yqv 2 vl) (fun _ _=>rfl)) (ay _)))))
       (ag
        (am bq))
       av)))
   (ag
    (am bq))))),?_⟩
 rw [show aL _ [V.ref a,V.ref b]=[some (.ref a),some (.ref b),none] from rfl]
 simp_arith []
 refine ma hA ⟨_,rfl,?_⟩
 simp_arith []
 refine ⟨_,.inl hA,_,.inl hB,eP rfl ⟨_,.inl hB,?_,?_,?_⟩⟩
 ·rw [List.length_map];omega
 ·rw [List.length_map];omega
 rw [Int.toNat_natCast,List.length_map]
 refine bv (fun i σ H'=>H'=H/\∃o,σ=[some (.ref a),some (.ref b),o]) ⟨rfl,_,rfl⟩ ?_ ?_
 ·rintro i σ H' hi ⟨rfl,o,rfl⟩
  simp_arith []
  have hx:(ns.map V.int)[i]?=some (.int ns[i]):=by rw [List.getElem?_map,List.getElem?_eq_getElem hi];rfl
  refine ⟨_,_,hA,b8 hx,?_⟩
  simp_arith [fV]
  refine ⟨_,_,hA,b8 hx,_,_,hB,b8 hx,?_⟩
  simp_arith []
  exact eP trivial ⟨_,rfl⟩
 ·rintro σ H' ⟨rfl,o,rfl⟩
  simp_arith []
  exact q
end
theorem fk{ns:List Str}{wd:Int}{F:List FZ.Blk}{L:Nat}(hF:pB ns wd F)(w1:1<=wd)(hL:∀b∈F,b.ds.length<=L):∀{n i:Nat} {s:GA.BT},BxG ns wd s.1->BxG ns wd (GO.cb F wd n i s).1.1/\(GO.cb F wd n i s).1.1.map (·.1)=s.1.map (·.1)/\(GO.cb F wd n i s).1.2.length<=s.2.length+L * n
 | 0,i,s,h=>⟨h,rfl,Nat.le_add_right _ _⟩
 | n+1,i,s,h=>by
  cases hb:F[i]? with
  | none=>
   rw [GO.cb,hb]
   exact ⟨h,rfl,Nat.le_add_right _ _⟩
  | some b=>
   rw [GO.dC hb]
   have hm:=List.mem_of_getElem? hb
   obtain ⟨h1,h2⟩:=GO.BxG.beat h w1 h (hF.st b hm).gd
   have h3:=GO.c6 (w:=wd) (b0:=s.1) (ds:=b.ds) (s:=s)
   have h4:=hL b hm
   have h5:L * (n+1)=L * n+L:=Nat.mul_succ ..
   unfold GO.tR
   cases e:GA.nxt s.1 b.ed with
   | none=>exact ⟨h1,h2,by dsimp only;omega⟩
   | some j=>
    obtain ⟨k1,k2,k3⟩:=fk hF w1 hL (n:=n) (i:=j) h1
    exact ⟨k1,k2.trans h2,by dsimp only;omega⟩
theorem IntD.at{b:Bx}(h:IntD b){i:Nat}{k:Key}{v:V}(hk:b[i]?=some (k,v)):∃j:Int,aY b k=some (.int j):=by
 have hm:=List.mem_of_getElem? hk
 have ha:=bc k b
 rw [List.any_eq_true.mpr ⟨(k,v),hm,decide_eq_true rfl⟩] at ha
 cases e:aY b k with
 | none=>rw [e] at ha;cases ha
 | some u=>
  have e':=e
  unfold aY at e'
  obtain ⟨kv,h1,rfl⟩:=Option.map_eq_some_iff.mp e'
  obtain ⟨j,hj⟩:=h.nums kv (List.mem_of_find?_eq_some h1)
  exact ⟨j,by rw [hj]⟩
def gR(K:PySem.W.Frag)(p q:Addr)(H:Hp)(Q:VK):Prop:=∃(td bx td2 bx2:Addr)(b:Bx)(tl:List Int)(ov:Bool)(ks:List Str),SqT K H p [.ref td,.ref bx,.bl ov]/\SqT K H q [.ref td2,.ref bx2,.bl ov]/\H td=some (.lst (tl.map V.int))/\H td2=some (.lst (tl.map V.int))/\H bx=some (.dK b)/\H bx2=some (.dK b)/\bx≠bx2/\b.map (·.1)=ks.map Sum.inr/\IntD b/\ks.length < 64/\tl.length<=100000/\
 ∀H',SameX bx2 H H'->Q (.bl true) H'
def iA(K:PySem.W.Frag):Sp:=fun vs H Q _=>∃(p q:Addr),vs=[.ref p,.ref q]/\gR K p q H Q
section
variable {P:Program} {w:World} {K:PySem.W.Frag} {mg:Str->Option Value} {base:Heap} {t:Ad}
theorem eE{p q:Addr}{H:Hp}{Q:VK}{E:XK}:iA K [.ref p,.ref q] H Q E=gR K p q H Q:=propext ⟨by rintro ⟨_,_,e,q⟩;cases e;exact q,fun q=>⟨_,_,rfl,q⟩⟩
theorem mM(T:Txt K mg t):FnOk P w K mg base CX0 3 t.f__law_told t.e__law_told ["_law_found","_law_due"] (iA K):=by
 have G__law_list:=pU (P:=P) (w:=w) (base:=base) T
 have G__law_whole:=i8 (P:=P) (w:=w) (base:=base) T
 refine T.d__law_told.F.ok sc__law_told (fun vs H Q E h=>by obtain ⟨_,_,rfl,_⟩:=h;rfl) (fun cdv A outer s H vs Q E hr h=>?_)
 obtain ⟨p,u,rfl,td,bx,td2,bx2,b,tl,ov,ks,hp,hu2,ht,ht2,hb,hb2,nb,hks,hI,h64,hl,q⟩:=h
 have hu:=cj hr
 refine ⟨_,
   (XSs.h
   (bd
    (aE (cU (cz (c1 (bu (az bC gl T.z_isinstance boot_isinstance (aa (yqv 0 vl) (aa (bG (v:=.ty "tuple") gl T.z_tuple boot_tuple rfl) ad))))) (cz (ao dM (az aC gl T.z_len PySem.boot_len (aa (yqv 0 vl) ad)) ab (ay _)) (cF (c1 (bu (az bC gl T.z_isinstance boot_isinstance (aa (al ax (yqv 0 vl) ab (fun _ _=>rfl)) (aa (bG (v:=.ty "dict") gl T.z_dict boot_dict rfl) ad)))))))))
     (ag
      (am bq))
     av)
   (bd
    (aE (cU (cz (c1 (bu (aj T.d__law_list G__law_list (hr.mono (by first | decide | omega)) (aa (al ax (yqv 0 vl) ab (fun _ _=>rfl)) (aa (al ax (yqv 1 vl) ab (fun _ _=>rfl)) ad)) gl))) (cz (c1 (bu (az bC gl T.z_isinstance boot_isinstance (aa (al ax (yqv 0 vl) ab (fun _ _=>rfl)) (aa (bG (v:=.ty "bool") gl T.z_bool boot_bool rfl) ad))))) (cF (ao dM (al ax (yqv 0 vl) ab (fun _ _=>rfl)) (al ax (yqv 1 vl) ab (fun _ _=>rfl)) (ay _))))))
     (ag
      (am bq))
     av)
   (bd
    (aE (ao (sX (n:=0) (ut (by decide) hr)) (az (cX rfl) gl T.z_sorted boot_sorted (aa (al ax (yqv 0 vl) ab (fun _ _=>rfl)) ad)) (az (cX rfl) gl T.z_sorted boot_sorted (aa (al ax (yqv 1 vl) ab (fun _ _=>rfl)) ad)) (ay _))
     (ag
      (am bq))
     av)
   (ac
    (ba PassesOwn.never rfl (pq (al ax (yqv 1 vl) ab (fun _ _=>rfl))) (aI (i:=2) sc__law_told.nd rfl ll)
     (ag
      (aE (cU (cz (c1 (bu (aj T.d__law_whole G__law_whole (hr.mono (by first | decide | omega)) (aa (bD hu (al ax (yqv 0 vl) ab (fun _ _=>rfl)) (yqv 2 vl) (fun _ _=>rfl)) ad) gl))) (cF (ao dM (bD hu (al ax (yqv 0 vl) ab (fun _ _=>rfl)) (yqv 2 vl) (fun _ _=>rfl)) (bD hu (al ax (yqv 1 vl) ab (fun _ _=>rfl)) (yqv 2 vl) (fun _ _=>rfl)) (ay _)))))
       (ag
        (am bq))
       av)))
   (ag
    (am bq))))))),?_⟩
 rw [show aL _ [V.ref p,V.ref u]=[some (.ref p),some (.ref u),none] from rfl]
 simp_arith! []
 refine ⟨fun σ H'=>H'=H/\σ=[some (.ref p),some (.ref u),none],?_,?_⟩
 ·refine pN hp ⟨_,rfl,?_⟩
  simp_arith []
  refine ⟨_,.inr hp,?_⟩
  refine eP rfl ⟨_,_,hp,rfl,_,_,_,rfl,by decide +kernel,.dic (.inl ⟨_,.inl hb⟩),_,rfl,?_⟩
  exact eP trivial rfl
 rintro σ H1 ⟨rfl,rfl⟩
 refine aM ?_
 simp_arith! [oj]
 refine ⟨fun σ H'=>H'=H1/\σ=[some (.ref p),some (.ref u),none],?_,?_⟩
 ·refine ⟨_,_,hp,rfl,_,_,hu2,rfl,?_⟩
  rw [oj]
  refine ⟨tl,SqL.of ht,SqL.of ht2,hl,_,rfl,eP trivial ⟨_,_,hp,rfl,_,_,_,rfl,by decide +kernel,.bl,_,rfl,eP trivial ⟨_,_,hp,rfl,_,_,hu2,rfl,?_⟩⟩⟩
  refine ⟨by cases ov <;> rfl,_,rfl,?_⟩
  rw [decide_eq_true rfl,if_neg (by decide)]
  exact ⟨rfl,rfl⟩
 rintro σ H1 ⟨rfl,rfl⟩
 refine aM ?_
 simp_arith! []
 refine ⟨fun σ H'=>Same H1 H'/\σ=[some (.ref p),some (.ref u),none],?_,?_⟩
 ·refine ⟨_,_,hp,rfl,_,b,ks,rfl,hb,hks,h64,fun l1 h1=>?_⟩
  have t1:=Same.upd (o:=.lst ((FX.srt ks).map V.str)) h1
  refine ⟨_,_,t1.seqT hu2,rfl,_,b,ks,rfl,t1 _ _ hb2,hks,h64,fun l2 h2=>?_⟩
  have t2:=Same.upd (o:=.lst ((FX.srt ks).map V.str)) h2
  refine ⟨true,Rq.listSelf (SqL.of (t2 _ _ ae)) (SqL.of ae) (by simp [bb]),_,rfl,?_⟩
  rw [if_neg (by decide)]
  exact ⟨t1.trans t2,rfl⟩
 rintro σ H2 ⟨s2,rfl⟩
 refine aM ?_
 simp_arith! []
 refine ⟨_,_,s2.seqT hu2,rfl,bx2,b,rfl,s2 _ _ hb2,fun o=>?_⟩
 have sx:SameX bx2 H1 (upd H2 bx2 (.frz o (.dK b))):=fun c u e n=>by rw [ap n];exact s2 _ _ e
 have ex:upd H2 bx2 (.frz o (.dK b)) bx2=some (.frz o (.dK b)):=ae
 generalize upd H2 bx2 (.frz o (.dK b))=H3 at sx ex ⊢
 have np:SqT K H3 p [.ref td,.ref bx,.bl ov]/\SqT K H3 u [.ref td2,.ref bx2,.bl ov]:=by
  have ts:=SameX.tsD sx hb2
  exact ⟨ts.seqT hp,ts.seqT hu2⟩
 have eb3:=sx _ _ hb nb
 refine pL (fun i σ H'=>H'=H3/\∃o2,σ=[some (.ref p),some (.ref u),o2]) ⟨rfl,_,rfl⟩ (fun i σ H' _ h=>by rw [h.1];exact ex) ?_ ?_
 ·rintro i k v σ H4 hk ⟨rfl,o2,rfl⟩
  simp_arith []
  obtain ⟨j,hj⟩:=IntD.at hI hk
  refine ⟨_,_,np.1,rfl,bx,.int j,rfl,.inl ⟨b,k,.inl eb3,rfl,hj.symm⟩,?_⟩
  rw [fV]
  refine ⟨_,rfl,eP trivial ⟨_,_,np.1,rfl,bx,.int j,rfl,.inl ⟨b,k,.inl eb3,rfl,hj.symm⟩,_,_,np.2,rfl,bx2,.int j,rfl,.inl ⟨b,k,.inr ⟨o,ex⟩,rfl,hj.symm⟩,?_⟩⟩
  rw [ou]
  refine ⟨_,rfl,?_⟩
  rw [decide_eq_true rfl,if_neg (by decide)]
  exact ⟨rfl,_,rfl⟩
 ·rintro σ H4 ⟨rfl,o2,rfl⟩
  refine aM ?_
  simp_arith []
  exact q _ sx
end
theorem ib{α β:Type}{R:α->β->Prop}{xs:List α}{ys:List β}{x:α}{y:β}(h:Paired R xs ys)(hx:R x y):Paired R (xs ++ [x]) (ys ++ [y]):=by
 induction h with
 | nil=>exact .cons hx .nil
 | cons h1 _ ih=>exact .cons h1 ih
def gS(K:PySem.W.Frag)(a b:Addr)(top m:Int)(H:Hp)(Q:VK):Prop:=∃(fs:List Int)(ns:List Str)(wd:Int)(many:Nat),m=many/\0 < many/\top=1 * 2 ^ wd.toNat/\H a=some (.lst (fs.map V.int))/\fs.length=4/\NmsV K H b ns wd/\
 ∀q (blk:FZ.Blk) (dl:Addr) H',Same H H'->H dl=none->StA K H' (.ref q) blk dl->StG ns wd blk->blk.ds.length<=3->(∀j∈blk.ed.tg,j < many)->Q (.ref q) H'
def iD(K:PySem.W.Frag):Sp:=fun vs H Q _=>∃(a b:Addr)(top m:Int),vs=[.ref a,.ref b,.int top,.int m]/\gS K a b top m H Q
section
variable {P:Program} {w:World} {K:PySem.W.Frag} {mg:Str->Option Value} {base:Heap} {t:Ad}
theorem jW{a b:Addr}{top m:Int}{H:Hp}{Q:VK}{E:XK}:iD K [.ref a,.ref b,.int top,.int m] H Q E=gS K a b top m H Q:=propext ⟨by rintro ⟨_,_,_,_,e,q⟩;cases e;exact q,fun q=>⟨_,_,_,_,rfl,q⟩⟩
theorem mP(T:Txt K mg t):FnOk P w K mg base CX0 4 t.f__law_state t.e__law_state ["_law_numbers","_law_names_here","_law_top","_law_many"] (iD K):=by
 have G__law_deed:=mH (P:=P) (w:=w) (base:=base) T
 have G__law_beat_fine:=mG (P:=P) (w:=w) (base:=base) T
 refine T.d__law_state.F.ok sc__law_state (fun vs H Q E h=>by obtain ⟨_,_,_,_,rfl,_⟩:=h;rfl) (fun cdv A outer s H vs Q E hr h=>?_)
 obtain ⟨a,b,top,m,rfl,fs,ns,wd,many,rfl,hm,htop,ha,h4,hN,q⟩:=h
 refine ⟨_,
   (XSs.h
   (ac
    (ar (i:=4) sc__law_state.nd rfl ll (aW ad))
   (bd
    (ba PassesOwn.never rfl (aV gl T.z_range (aa (ai aA (al aJ (yqv 0 vl) ab (fun _ _=>rfl)) ab) ad)) (aI (i:=5) sc__law_state.nd rfl ll)
     (ac
      (ar (i:=6) sc__law_state.nd rfl ll (aj T.d__law_deed G__law_deed (hr.mono (by first | decide | omega)) (aa (ai aH (al aJ (yqv 0 vl) (ai aQ ab (yqv 5 vl)) (fun _ _=>rfl)) ab) (aa (yqv 1 vl) (aa (yqv 2 vl) ad))) gl))
     (ag
      (aE (bu (aj T.d__law_beat_fine G__law_beat_fine (hr.mono (by first | decide | omega)) (aa (ai j0 (yqv 4 vl) (aW (aa (yqv 6 vl) ad))) (aa (b7 (bw (by rfl))) ad)) gl))
       (ag
        (bF (dE PySem.F.plainAttrs_list PySem.F.slot_list_append PySem.F.type_list_append bN (yqv 4 vl) (aa (yqv 6 vl) ad))))
       av))))
   (ac
    (ar (i:=7) sc__law_state.nd rfl ll (ai aH (al aJ (yqv 0 vl) ab (fun _ _=>rfl)) ab))
   (ac
    (ar (i:=8) sc__law_state.nd rfl ll (b7 (aa aG (aa (ai aA (ai aH (yqv 7 vl) ab) (yqv 3 vl)) ad))))
   (bd
    (aE (ao cV (ai aA (yqv 7 vl) ab) ab (ay _))
     (ag
      (ar (i:=8) sc__law_state.nd rfl ll (b7 (aa aG (aa (al aJ (yqv 1 vl) (ai aA (ai aH (yqv 7 vl) ab) (az aC gl T.z_len PySem.boot_len (aa (yqv 1 vl) ad))) (fun _ _=>rfl)) (aa (ai aA (ai aH (yqv 7 vl) ab) (yqv 3 vl)) (aa (ai aA (ai aH (yqv 7 vl) ab) (yqv 3 vl)) ad)))))))
     av)
   (bd
    (aE (ao aU (ai aA (yqv 7 vl) ab) ab (ay _))
     (ag
      (ar (i:=8) sc__law_state.nd rfl ll (b7 (aa aG ad))))
     av)
   (ag
    (am (b7 (aa (yqv 4 vl) (aa (yqv 8 vl) ad)))))))))))),?_⟩
 rw [show aL _ [V.ref a,V.ref b,V.int top,V.int many]=[some (.ref a),some (.ref b),some (.int top),some (.int many),none,none,none,none,none] from rfl]
 simp_arith! [eC,eB]
 intro dl hdl
 have t1:=Same.upd (o:=.lst []) hdl
 have edl:upd H dl (.lst []) dl=some (.lst []):=ae
 generalize upd H dl (.lst [])=H1 at t1 edl ⊢
 obtain ⟨f0,f1,f2,f3,rfl⟩:∃f0 f1 f2 f3,fs=[f0,f1,f2,f3]:=by
  match fs,h4 with
  | [f0,f1,f2,f3],_=>exact ⟨_,_,_,_,rfl⟩
 refine aM ?_
 simp_arith! [eC,eB]
 refine ⟨fun σ H'=>Same H H'/\∃(vs:List V)(ds:List Deed),H' dl=some (.lst vs)/\Paired (DeedV1 K H') vs ds/\(∀d∈ds,Deed.good ns wd d)/\ds.length<=3/\∃o5 o6,σ=[some (.ref a),some (.ref b),some (.int top),some (.int many),some (.ref dl),o5,o6,none,none],?_,?_⟩
 ·refine ⟨_,_,SqL.of (t1 _ _ ha),rfl,show (0:Int) < 4 by decide,?_⟩
  have m0:0<=f0 % 4:=Int.emod_nonneg _ (by decide)
  have m1:f0 % 4 < 4:=Int.emod_lt_of_pos _ (by decide)
  refine ⟨_,rfl,by show -2 ^ 62<=f0 % 4;omega,by show f0 % 4 < 2 ^ 62;omega,?_⟩
  refine bv (n:=(f0 % 4).toNat) (fun i σ H'=>Same H H'/\∃(vs:List V)(ds:List Deed),H' dl=some (.lst vs)/\Paired (DeedV1 K H') vs ds/\(∀d∈ds,Deed.good ns wd d)/\ds.length<=i/\∃o5 o6,σ=[some (.ref a),some (.ref b),some (.int top),some (.int many),some (.ref dl),o5,o6,none,none])
   ⟨t1,[],[],edl,.nil,fun d hd=>(by cases hd),Nat.le_refl _,_,_,rfl⟩ ?_ ?_
  ·rintro i σ H2 hi ⟨s2,vs,ds,e2,p2,g2,l2,o5,o6,rfl⟩
   have hi3:i < 3:=by omega
   simp_arith [eC,eB]
   obtain ⟨y,hy⟩:∃y:Int,atI ([f0,f1,f2,f3].map V.int) (1+(i:Int))=some (.int y):=by
    match i,hi3 with
    | 0,_=>exact ⟨_,rfl⟩
    | 1,_=>exact ⟨_,rfl⟩
    | 2,_=>exact ⟨_,rfl⟩
   refine ⟨_,_,SqL.of (s2 _ _ ha),hy,?_⟩
   simp_arith [eC,eB]
   refine ⟨CDivB.small (by decide) (by decide),?_⟩
   refine ⟨ns,wd,htop,hN.same s2,fun d q0 H3 s3 e3 hf hg l1 hl1=>?_⟩
   have lv:=p2.length
   have t4:=Same.upd (o:=.lst [V.ref q0]) hl1
   have s34:=s3.trans t4
   have hd4:DeedV1 K (upd H3 l1 (.lst [V.ref q0])) (.ref q0) d:=⟨q0,rfl,SqT.of (t4 _ _ e3),hf⟩
   have p4:Paired (DeedV1 K (upd H3 l1 (.lst [V.ref q0]))) vs ds:=FL.Paired.imp p2 fun y _ d _ ⟨q,e,z,f⟩=>⟨q,e,s34.seqT z,f⟩
   refine ⟨_,_,s34 _ _ e2,ae,by rw [sizeLine_eq,List.length_singleton];omega,fun l2a h2a l3 h3=>?_⟩
   have t5:=Same.upd (o:=.lst (vs ++ [V.ref q0])) h2a
   have t6:=Same.upd (o:=.tup [V.int 3,V.int 3,V.int 3]) h3
   have s46:=t5.trans t6
   have s26:=s34.trans s46
   have p5:=ib p4 hd4
   refine ⟨_,ds ++ [d],[3,3,3],SqL.of (t6 _ _ ae),FL.Paired.imp p5 fun y _ d _ ⟨q,e,z,f⟩=>⟨q,e,s46.seqT z,f⟩,by rw [List.length_append,List.length_singleton];omega,SqT.of ae,rfl,fun H7 s7=>⟨_,rfl,?_⟩⟩
   have s27:=s26.trans s7
   have e7:=s27 _ _ e2
   have s07:=s2.trans s27
   refine i0 (fun _=>⟨.inl ⟨rfl,_,SqL.of e7⟩,_,e7,by rw [sizeLine_eq];omega,s07.updM hdl,_,ds ++ [d],ae,?_,?_,by rw [List.length_append,List.length_singleton];omega,_,_,rfl⟩) fun _=>⟨s07,vs,ds,e7,FL.Paired.imp p2 fun y _ d _ ⟨q,e,z,f⟩=>⟨q,e,s27.seqT z,f⟩,g2,by omega,_,_,rfl⟩
   ·exact FL.Paired.imp p5 fun y _ d _ z=>DeedV1.ts (TSame.updL e7) (let ⟨q,e,z,f⟩:=z;⟨q,e,(s46.trans s7).seqT z,f⟩)
   ·intro x hx
    rcases List.mem_append.mp hx with z | z
    ·exact g2 x z
    ·rw [List.mem_singleton.mp z];exact hg
  ·rintro σ H2 ⟨s2,vs,ds,e2,p2,g2,l2,o5,o6,rfl⟩
   exact ⟨s2,vs,ds,e2,p2,g2,by omega,_,_,rfl⟩
 rintro σ H2 ⟨s2,vs,ds,e2,p2,g2,l2,o5,o6,rfl⟩
 refine aM ?_
 simp_arith! []
 refine ⟨_,_,SqL.of (s2 _ _ ha),rfl,CDivB.small (by decide) (by decide),?_⟩
 refine aM ?_
 simp_arith! []
 have md:∀x:Int,∃k:Nat,x % (many:Int)=(k:Int)/\k < many:=fun x=>by
  have h0:=Int.emod_nonneg x (show (many:Int)≠0 by omega)
  have h1:=Int.emod_lt_of_pos x (show (0:Int) < many by omega)
  exact ⟨(x % (many:Int)).toNat,by omega,by omega⟩
 have hm':(0:Int) < many:=by omega
 obtain ⟨k0,hk0,lk0⟩:=md (f0 / 16 / 8)
 refine ⟨CDivB.small (by decide) (by decide),hm',fun e0 he0=>?_⟩
 rw [hk0]
 have t3:=Same.upd (o:=.tup [V.str "go",V.int k0]) he0
 refine aM ?_
 simp_arith! []
 refine ⟨fun σ H'=>Same H2 H'/\∃(e:Addr)(ed:FZ.Ed),H' e=some (.tup (h9 ed))/\(∀j∈ed.tg,j < many)/\(∀n i j,ed=.choose n i j->n∈ns)/\σ=[some (.ref a),some (.ref b),some (.int top),some (.int many),some (.ref dl),o5,o6,some (.int (f0 / 16)),some (.ref e)],?_,?_⟩
 ·refine aw (fun _=>?_) fun _=>⟨t3,e0,.go k0,ae,fun j hj=>by rw [List.mem_singleton.mp hj];exact lk0,fun n i j z=>(by cases z),rfl⟩
  obtain ⟨c,hc,he⟩:=gA (ns:=ns) (x:=f0 / 16 / 8) hN.pos
  obtain ⟨k1,hk1,lk1⟩:=md (f0 / 16 / 64)
  obtain ⟨k2,hk2,lk2⟩:=md (f0 / 16 / 512)
  have s3:=s2.trans t3
  refine ⟨CDivB.small (by decide) (by decide),_,.inl (s3.seq hN.at_),by rw [List.length_map];have:=hN.pos;omega,_,_,s3.seq hN.at_,he,CDivB.small (by decide) (by decide),hm',CDivB.small (by decide) (by decide),hm',fun e1 he1=>?_⟩
  rw [hk1,hk2]
  refine ⟨t3.updN he1,e1,.choose c k1 k2,ae,fun j hj=>?_,fun n i j z=>(by cases z;exact hc),rfl⟩
  rcases List.mem_cons.mp hj with z | z
  ·rw [z];exact lk1
  ·rw [List.mem_singleton.mp z];exact lk2
 rintro σ H3 ⟨s3,e3,ed3,h3,g3,n3,rfl⟩
 refine aM ?_
 simp_arith! []
 refine ⟨fun σ H'=>Same H2 H'/\∃(e:Addr)(ed:FZ.Ed),H' e=some (.tup (h9 ed))/\(∀j∈ed.tg,j < many)/\(∀n i j,ed=.choose n i j->n∈ns)/\σ=[some (.ref a),some (.ref b),some (.int top),some (.int many),some (.ref dl),o5,o6,some (.int (f0 / 16)),some (.ref e)],?_,?_⟩
 ·refine aw (fun _ e4 he4=>?_) fun _=>⟨s3,e3,ed3,h3,g3,n3,rfl⟩
  exact ⟨s3.updN he4,e4,.stop,ae,fun j hj=>(by cases hj),fun n i j z=>(by cases z),rfl⟩
 rintro σ H4 ⟨s4,e4,ed4,h4,g4,n4,rfl⟩
 refine aM ?_
 simp_arith []
 intro q0 hq0
 have t5:=Same.upd (o:=.tup [V.ref dl,V.ref e4]) hq0
 have s45:=s4.trans t5
 refine q q0 ⟨ds,ed4⟩ dl _ (s2.trans s45) hdl ⟨q0,e4,vs,rfl,SqT.of ae,s45 _ _ e2,FL.Paired.imp p2 fun y _ d _ ⟨q,e,z,f⟩=>⟨q,e,s45.seqT z,f⟩,SqT.of (t5 _ _ h4)⟩ ⟨g2,n4,by dsimp only;omega⟩ l2 g4
end
end K51
variable {H:Hp}
namespace K51
open PySem L2 PyProof.Rows FD FB FS FO FR FG
def Hd(K:PySem.W.Frag)(H:Hp)(acc:Addr)(x y:V)(b:FZ.Blk):Prop:=∃q a e vs q' a',x=.ref q/\y=.ref q'/\a≠acc/\a'≠acc/\SqT K H q [.ref a,.ref e]/\SqT K H q' [.ref a',.ref e]/\H a=some (.lst vs)/\H a'=some (.lst vs)/\Paired (DeedV1 K H) vs b.ds/\SqT K H e (h9 b.ed)
theorem Hd.ts{K:PySem.W.Frag}{H H':Hp}{acc:Addr}{x y:V}{b:FZ.Blk}(h:Hd K H acc x y b)(t:TSame H H')(s:∀c vs,c≠acc->H c=some (.lst vs)->H' c=some (.lst vs)):Hd K H' acc x y b:=by
 obtain ⟨q,a,e,vs,q',a',ex,ey,n3,n4,h1,h2,h3,h4,h5,h6⟩:=h
 exact ⟨q,a,e,vs,q',a',ex,ey,n3,n4,t.seqT h1,t.seqT h2,s _ _ n3 h3,s _ _ n4 h4,FL.Paired.imp h5 fun y _ d _ ⟨q,e,z,f⟩=>⟨q,e,t.seqT z,f⟩,t.seqT h6⟩
theorem Same.ts{H H':Hp}(s:Same H H'):TSame H H':=⟨fun c xs e=>s _ _ e,fun c o u e=>s _ _ e⟩
section
variable {P:Program} {w:World} {K:PySem.W.Frag} {mg:Str->Option Value} {base:Heap} {t:Ad}
theorem nV{C p a0 b0 r0:Addr}{d:Nat}{wd:Int}{Q:VK}{E:XK}:jZ K C d [.ref p,.int wd,.ref a0,.ref b0,.ref r0] H Q E=jq K C d p a0 b0 r0 wd H Q:=propext ⟨by rintro ⟨_,_,_,_,_,e,q⟩;cases e;exact q,fun q=>⟨_,_,_,_,_,rfl,q⟩⟩
theorem sN(T:Txt K mg t):FnOk P w K mg base CX0 41 t.f_law t.e_law ["_law_script"] (sp_law K):=by
 have G__law_mixed:=eY (P:=P) (w:=w) (base:=base) T
 have G__law_at:=uw (P:=P) (w:=w) (base:=base) T
 have G__law_names:=mO (P:=P) (w:=w) (base:=base) T
 have G__law_folds:=mJ (P:=P) (w:=w) (base:=base) T
 have G__law_state:=mP (P:=P) (w:=w) (base:=base) T
 have G__law_words:=kU (P:=P) (w:=w) (base:=base) T
 have G__law_table_run:=sQ (P:=P) (w:=w) (base:=base) T
 have G__law_told:=mM (P:=P) (w:=w) (base:=base) T
 have G_Program___init__:=pT (P:=P) (w:=w) (base:=base) T 4
 have G_run_table:=kW (P:=P) (w:=w) (base:=base) T
 refine T.d_law.F.ok sc_law (fun vs H Q E h=>by obtain ⟨_,_,rfl,_⟩:=h;rfl) (fun cdv A outer s H vs Q E hr h=>?_)
 obtain ⟨a,ns,rfl,hS,hlen,hbits,q⟩:=h
 have hu:=cj hr
 refine ⟨_,
   (XSs.h
   (ac
    (ar (i:=1) sc_law.nd rfl ll (aj T.d__law_mixed G__law_mixed (hr.mono (by first | decide | omega)) (aa (aj T.d__law_at G__law_at (hr.mono (by first | decide | omega)) (aa (yqv 0 vl) (aa ab ad)) gl) (aa ab ad)) gl))
   (ac
    (ar (i:=2) sc_law.nd rfl lc (aj T.d__law_names G__law_names (hr.mono (by first | decide | omega)) (aa (ai aH (yqv 1 vl) ab) (aa (ai aQ ab (ai aA (ai aH (yqv 1 vl) ab) ab)) ad)) gl))
   (ac
    (ar (i:=3) sc_law.nd rfl lc (ai aQ ab (ai aA (yqv 1 vl) ab)))
   (ac
    (ar (i:=4) sc_law.nd rfl ll (bA dq (yqv 2 vc) cc (bE (ai aA (ai aH (yqv 1 vl) ab) ab))))
   (ac
    (ar (i:=5) sc_law.nd rfl ll (b7 (aa (yqv 3 vc) (aa (yqv 4 vl) (aa (bA dq (yqv 2 vc) (bE (az aC gl T.z_len PySem.boot_len (aa (yqv 4 vl) ad))) cc) (aa (aW ad) ad))))))
   (ac
    (ar (i:=6) sc_law.nd rfl ll (gj T.c_Program T.d_Program___init__ G_Program___init__ (hr.mono (by first | decide | omega)) (aa (yqv 3 vc) (aa (yqv 4 vl) (aa (al ax (yqv 5 vl) ab (fun _ _=>rfl)) (aa (aW ad) ad)))) gl))
   (ac
    (ar (i:=7) sc_law.nd rfl lc (ai aQ ab (ai aA (aj T.d__law_at G__law_at (hr.mono (by first | decide | omega)) (aa (yqv 0 vl) (aa ab ad)) gl) ab)))
   (ac
    (ar (i:=8) sc_law.nd rfl lc (aj T.d__law_folds G__law_folds (hr.mono (by first | decide | omega)) (aa (yqv 0 vl) (aa ab (aa (ai aZ ab (yqv 7 vc)) ad))) gl))
   (ac
    (bo (i:=9) sc_law.nd rfl ll rfl (by kernel_rfl) (tns:=["_law_k"]) (cns:=["_law_names_here","_law_width","_law_many","_law_numbers"]) (ci:=[2,3,7,8]) rfl (CompSc.of (by kernel_rfl)) (aV gl T.z_range (aa (yqv 7 vc) ad)) (fun _=>(aI (i:=1) (show List.Nodup [(".0":Str),("_law_k":Str),("_law_names_here":Str),("_law_width":Str),("_law_many":Str),("_law_numbers":Str)] by decide +kernel) rfl ll (Or.inr (by kernel_rfl)))) (fun _=>bZ) (fun _=>(aj T.d__law_state G__law_state (hr.mono (by first | decide | omega)) (aa (bA dq (yqv 5 vc) (bE (ai aZ ab (yqv 1 vl))) (bE (ai aQ (ai aZ ab (yqv 1 vl)) ab))) (aa (yqv 2 vc) (aa (ai cG ab (yqv 3 vc)) (aa (yqv 4 vc) ad)))) gl)))
   (ac
    (bo (i:=10) sc_law.nd rfl ll rfl (by kernel_rfl) (tns:=["_law_deeds","_law_ending"]) (cns:=[]) (ci:=[]) rfl (CompSc.of (by kernel_rfl)) (bj (yqv 9 vl)) (fun _=>(qN rfl (gi (aI (i:=1) (show List.Nodup [(".0":Str),("_law_deeds":Str),("_law_ending":Str)] by decide +kernel) rfl ll (Or.inr (by kernel_rfl))) (gi (aI (i:=2) (show List.Nodup [(".0":Str),("_law_deeds":Str),("_law_ending":Str)] by decide +kernel) rfl ll (Or.inr (by kernel_rfl))) pk)))) (fun _=>bZ) (fun _=>(b7 (aa (aO bJ gl T.z_list boot_list (aa (yqv 1 vl) ad)) (aa (yqv 2 vl) ad)))))
   (ac
    (ar (i:=11) sc_law.nd rfl ll (aj T.d__law_words G__law_words (hr.mono (by first | decide | omega)) (aa (yqv 4 vl) (aa (aj T.d__law_at G__law_at (hr.mono (by first | decide | omega)) (aa (yqv 0 vl) (aa ab ad)) gl) (aa (yqv 3 vc) ad))) gl))
   (ac
    (ar (i:=12) sc_law.nd rfl ll (aO cW gl T.z_dict boot_dict (aa (yqv 11 vl) ad)))
   (ac
    (ar (i:=13) sc_law.nd rfl ll (ai aA (aj T.d__law_at G__law_at (hr.mono (by first | decide | omega)) (aa (yqv 0 vl) (aa ab ad)) gl) ab))
   (ac
    (ar (i:=14) sc_law.nd rfl ll (aW (aa (yqv 13 vl) (aa ab (aa ab (aa (ai aQ (yqv 13 vl) ab) ad))))))
   (bd
    (aE (ao aU (ai aA (ai aH (aj T.d__law_at G__law_at (hr.mono (by first | decide | omega)) (aa (yqv 0 vl) (aa ab ad)) gl) ab) ab) ab (ay _))
     (ag
      (ar (i:=14) sc_law.nd rfl ll (aW (aa (ai aQ ab (ai aA (ai aH (aj T.d__law_at G__law_at (hr.mono (by first | decide | omega)) (aa (yqv 0 vl) (aa ab ad)) gl) ab) ab)) ad))))
     av)
   (bd
    (ba PassesOwn.never rfl (bj (yqv 14 vl)) (aI (i:=15) sc_law.nd rfl ll)
     (ac
      (ar (i:=16) sc_law.nd rfl ll (aj T.d__law_table_run G__law_table_run (hr.mono (by first | decide | omega)) (aa (yqv 9 vl) (aa (yqv 5 vl) (aa (yqv 11 vl) (aa (yqv 15 vl) ad)))) gl))
     (ac
      (ar (i:=17) sc_law.nd rfl ll (aj T.d_run_table G_run_table (hr.mono (by first | decide | omega)) (aa (yqv 6 vl) (aa (yqv 10 vl) (aa (yqv 11 vl) (aa (yqv 15 vl) ad)))) gl))
     (ac
      (aE (c1 (bu (aj T.d__law_told G__law_told (hr.mono (by first | decide | omega)) (aa (yqv 17 vl) (aa (yqv 16 vl) ad)) gl)))
       (ag
        (am bq))
       av)
     (ac
      (bF (dE PySem.F.plainAttrs_list PySem.F.slot_list_append PySem.F.type_list_append bN (al ax (yqv 17 vl) ab (fun _ _=>rfl)) (aa ab ad)))
     (ag
      (bF (kh PySem.F.plainAttrs_dict PySem.F.slot_dict_clear PySem.F.type_dict_clear kQ (al ax (yqv 17 vl) ab (fun _ _=>rfl))))))))))
   (ac
    (ar (i:=16) sc_law.nd rfl ll (aj T.d__law_table_run G__law_table_run (hr.mono (by first | decide | omega)) (aa (yqv 9 vl) (aa (yqv 5 vl) (aa (yqv 11 vl) (aa (yqv 13 vl) ad)))) gl))
   (ag
    (am (gM (br (sU (n:=3) (ut (by decide) hr)) (yqv 10 vl) (yqv 9 vl) (ay _)) (gM (br (kX hr.units0) (yqv 11 vl) (yqv 12 vl) (ay _)) (ki (aj T.d__law_told G__law_told (hr.mono (by first | decide | omega)) (aa (aj T.d_run_table G_run_table (hr.mono (by first | decide | omega)) (aa (yqv 6 vl) (aa (yqv 10 vl) (aa (yqv 11 vl) (aa (yqv 13 vl) ad)))) gl) (aa (yqv 16 vl) ad)) gl)))))))))))))))))))))))),?_⟩
 rw [show aL _ [V.ref a]=[some (.ref a),none,none,none,none,none,none,none,none,none,none,none,none,none,none,none,none,none] from rfl]
 simp_arith! [bW,nC]
 have hn0:=mt (atF ns 0) 2
 have hbb:∀k,Builtin.Int.intBits (atF ns k)<=2 ^ 20:=fun k=>lE hbits
 refine ⟨ns,hS,by decide,hbb 0,by decide,by decide,?_⟩
 generalize eV (atF ns 0) 2=nb at hn0 ⊢
 have w0:0<=nb % 8:=Int.emod_nonneg _ (by decide)
 have w7:nb % 8 < 8:=Int.emod_lt_of_pos _ (by decide)
 have u0:0<=nb / 64 % 8:=Int.emod_nonneg _ (by decide)
 have u7:nb / 64 % 8 < 8:=Int.emod_lt_of_pos _ (by decide)
 have k0:0<=nb / 1024 % 5:=Int.emod_nonneg _ (by decide)
 refine aM ?_
 simp_arith! [qC]
 refine ⟨CDivB.small (by decide) (by decide),CDivB.small (by decide) (by decide),Int.ediv_nonneg hn0 (by decide),by omega,by omega,fun pn H1 s1 hpn en=>?_⟩
 have lnm:(cS (nb / 8) (1+nb / 64 % 8).toNat).length=(1+nb / 64 % 8).toNat:=fm (by omega)
 generalize cS (nb / 8) (1+nb / 64 % 8).toNat=nms at en lnm
 refine aM ?_
 simp_arith! []
 refine aM ?_
 simp_arith! []
 refine ⟨CDivB.small (by decide) (by decide),_,SqL.of en,fun pi hpi=>?_⟩
 rw [gr k0,<- List.map_take]
 generalize hki:nms.take (nb / 1024 % 5).toNat=ins
 have ti:=Same.upd (o:=.lst (ins.map V.str)) hpi
 have ei:upd H1 pi (.lst (ins.map V.str)) pi=some (.lst (ins.map V.str)):=ae
 have s2:=s1.trans ti
 have en2:=ti _ _ en
 generalize upd H1 pi (.lst (ins.map V.str))=H2 at ti ei s2 en2 ⊢
 refine aM ?_
 simp_arith! []
 refine ⟨_,.inl (SqL.of ei),_,SqL.of en2,fun po hpo pr0 hpr q0 hq0=>?_⟩
 have eo:cH (nms.map V.str) (some (((ins.map V.str).length:Nat):Int)) none=(nms.drop ins.length).map V.str:=by
  rw [kB (by omega),Int.toNat_natCast,List.length_map,List.map_drop]
 rw [eo] at hpr hq0 ⊢
 have sall:ins ++ nms.drop ins.length=nms:=by
  rw [<- hki,List.length_take]
  by_cases h:(nb / 1024 % 5).toNat<=nms.length
  ·rw [Nat.min_eq_left h,List.take_append_drop]
  ·rw [Nat.min_eq_right (by omega),List.take_of_length_le (by omega),List.drop_length,List.append_nil]
 generalize hoth:nms.drop ins.length=oth at hpr hq0 sall ⊢
 have t1:=Same.upd (o:=.lst (oth.map V.str)) hpo
 have t2:=Same.upd (o:=.lst []) hpr
 have t3:=Same.upd (o:=.tup [V.int (1+nb % 8),V.ref pi,V.ref po,V.ref pr0]) hq0
 have t123:=(t1.trans t2).trans t3
 generalize hwd:1+nb % 8=wd at t3 t123 hq0 ⊢
 have w1:1<=wd:=by omega
 have w8:wd<=8:=by omega
 have hfew:(ins ++ oth).length<=8:=by rw [sall];omega
 have hD:DrN K (upd (upd (upd H2 po (.lst (oth.map V.str))) pr0 (.lst [])) q0 (.tup [V.int wd,V.ref pi,V.ref po,V.ref pr0])) q0 wd ins oth pr0:=⟨⟨pi,po,SqT.of ae,t123 _ _ ei,t3 _ _ (t2 _ _ ae)⟩,hfew,w1,w8⟩
 have eo3:upd (upd (upd H2 po (.lst (oth.map V.str))) pr0 (.lst [])) q0 (.tup [V.int wd,V.ref pi,V.ref po,V.ref pr0]) po=some (.lst (oth.map V.str)):=t3 _ _ (t2 _ _ ae)
 have ei3:=t123 _ _ ei
 have en3:=t123 _ _ en2
 have eq3:upd (upd (upd H2 po (.lst (oth.map V.str))) pr0 (.lst [])) q0 (.tup [V.int wd,V.ref pi,V.ref po,V.ref pr0]) q0=some (.tup [V.int wd,V.ref pi,V.ref po,V.ref pr0]):=ae
 have s3:=s2.trans t123
 generalize upd (upd (upd H2 po (.lst (oth.map V.str))) pr0 (.lst [])) q0 (.tup [V.int wd,V.ref pi,V.ref po,V.ref pr0])=H3 at hD eo3 ei3 en3 eq3 s3 ⊢
 clear t123 t1 t2 t3 ti
 refine aM ?_
 simp_arith! [nV]
 refine ⟨_,_,SqT.of eq3,rfl,fun pe hpe pp dx hpp hdx hne=>?_⟩
 have te:=Same.upd (o:=.lst []) hpe
 simp_arith! [nV]
 have s6:Same (upd H3 pe (.lst [])) (upd (upd (upd H3 pe (.lst [])) dx (.own pp)) pp (.ins t.C_Program dx [])):=(Same.upd hdx).updM hpp
 refine ⟨dx,ins,oth,[],[],[],ae,s6 _ _ (te _ _ ei3),s6 _ _ (te _ _ eo3),s6 _ _ ae,.nil,by decide,by decide,by rw [List.length_append] at hfew;omega,by rw [List.length_append] at hfew;omega,fun a' b' r' ys gg H7 sx hP _ _=>?_⟩
 have s7:Same H3 H7:=fun c' o' e=>sx c' o' (s6 _ _ (te _ _ e)) (au (te _ _ e) hpp)
 have hD7:=hD.same s7
 have en7:=s7 _ _ en3
 have s07:=s3.trans s7
 have ei7:=s7 _ _ ei3
 clear s7 sx s6 te hpe hpp hdx hD en3 eo3 ei3 eq3 s3
 refine ⟨rfl,?_⟩
 refine aM ?_
 simp_arith! [nC]
 refine ⟨ns,s07.seq hS,by decide,?_⟩
 have m0:0<=atF ns 1 % 7:=Int.emod_nonneg _ (by decide)
 have m7:atF ns 1 % 7 < 7:=Int.emod_lt_of_pos _ (by decide)
 obtain ⟨many,hmany⟩:∃many:Nat,1+atF ns 1 % 7=(many:Int):=⟨(1+atF ns 1 % 7).toNat,by omega⟩
 rw [hmany]
 have mp:0 < many:=by omega
 have ml:many<=7:=by omega
 refine aM ?_
 simp_arith! [qA]
 refine ⟨.inl ⟨by omega,by omega⟩,?_⟩
 refine ⟨ns,4 * many,by omega,by omega,by omega,by decide,by decide,s07.seq hS,hbits,fun pf fs H8 s8 hpf ef lf=>?_⟩
 have s08:=s07.trans s8
 have hD8:=hD7.same s8
 have en8:=s8 _ _ en7
 have ei8:=s8 _ _ ei7
 have hP8:=hP.same s8
 clear s8 hD7 en7 ei7 hP s07
 refine aM ?_
 simp_arith! [jW]
 refine ⟨by omega,by omega,fun tb htb bk=>?_⟩
 rw [Int.toNat_natCast]
 have s9:Same H8 (upd H8 tb (.lst [])):=Same.upd htb
 refine eL (n:=many) (fun i ys H'=>Same H8 H'/\H' tb=some (.lst ys)/\ys.length=i/\∃F:List FZ.Blk,Paired (fun x b=>∃a,a≠tb/\StA K H' x b a) ys F/\∀b∈F,StG nms wd b/\b.ds.length<=3/\∀j∈b.ed.tg,j < many)
  ⟨s9,ae,rfl,[],.nil,fun b hb=>(by cases hb)⟩ ?_ ?_
 ·rintro i ys H9 os hi ho ⟨s9,e9,l9,F,p9,g9⟩
  obtain ⟨o,rfl⟩:∃o,os=[o]:=by
   match os,ho with
   | [o],_=>exact ⟨o,rfl⟩
  simp_arith [jW]
  rw [if_pos trivial]
  have ez:(0:Int)+(i:Int)=(i:Int):=by omega
  rw [ez]
  refine ⟨⟨[some (.int i)],rfl,rfl⟩,.inl ⟨by omega,by omega⟩,.inl ⟨by omega,by omega⟩,_,SqL.of (s9 _ _ ef),fun pc hpc=>⟨⟨by omega,by omega,by decide⟩,?_⟩⟩
  have ec:cH (fs.map V.int) (some (4 * (i:Int))) (some (4 * (i:Int)+4))=((fs.take (4 * i+4)).drop (4 * i)).map V.int:=by
   rw [lN (by omega) (by omega),<- List.map_take,<- List.map_drop,show (4 * (i:Int)+4).toNat=4 * i+4 by omega,show (4 * (i:Int)).toNat=4 * i by omega]
  rw [ec]
  have lc:((fs.take (4 * i+4)).drop (4 * i)).length=4:=by rw [List.length_drop,List.length_take,lf];omega
  generalize (fs.take (4 * i+4)).drop (4 * i)=cs at lc ⊢
  have tc:=Same.upd (o:=.lst (cs.map V.int)) hpc
  have s9c:=s9.trans tc
  refine ⟨cs,nms,wd,many,rfl,mp,rfl,ae,lc,⟨SqL.of (s9c _ _ en8),by omega,by omega,w1,w8⟩,fun q1 blk dl H10 s10 hdl hst hsg hl3 htg=>?_⟩
  have e10:=s10 _ _ (tc _ _ e9)
  have ndl:dl≠tb:=fun z=>by rw [z,tc _ _ e9] at hdl;cases hdl
  refine ⟨e10,by rw [sizeLine_eq];omega,((s9c.trans s10).updM htb),ae,by rw [List.length_append,l9];rfl,F ++ [blk],?_,?_⟩
  ·refine FL.Paired.snoc ⟨dl,ndl,hst.upd e10 ndl⟩ (FL.Paired.imp p9 fun x _ b _ ⟨a,na,z⟩=>⟨a,na,((z.same tc).same s10).upd e10 na⟩)
  ·intro b hb
   rcases List.mem_append.mp hb with z | z
   ·exact g9 b z
   ·rw [List.mem_singleton.mp z];exact ⟨hsg,hl3,htg⟩
 rintro tys H9 ⟨s9,e9,l9,F,p9,g9⟩
 have s09:=s08.trans s9
 have hD9:=hD8.same s9
 have ei9:=s9 _ _ ei8
 have hP9:=hP8.same s9
 clear ef lf en8 ei8 hP8 hD8 s08
 have lF:F.length=many:=by rw [<- p9.length];exact l9
 refine aM ?_
 simp_arith! []
 refine ⟨⟨_,SqL.of e9⟩,fun hd hhd bk=>?_⟩
 have nth:tb≠hd:=au e9 hhd
 refine cY (xs:=tys) (fun i ys H'=>Same H9 H'/\H' hd=some (.lst ys)/\ys.length=i/\∀(j:Nat)y,ys[j]?=some y->∃x b,tys[j]?=some x/\F[j]?=some b/\Hd K H' hd x y b)
  ⟨Same.upd hhd,ae,rfl,fun j y hy=>(by simp at hy)⟩ (fun i ys H' _ h=>SqL.of (h.1 _ _ e9)) ?_ ?_
 ·rintro i x ys H10 os hx ho ⟨s10,e10,l10,h10⟩
  obtain ⟨o,o',rfl⟩:∃o o',os=[o,o']:=by
   match os,ho with
   | [o,o'],_=>exact ⟨o,o',rfl⟩
  obtain ⟨b,hb,da,nda,q1,e1,vs,rfl,v1,v2,v3,v4⟩:=Paired.get p9 hx
  simp_arith []
  refine ⟨_,s10.seqT v1,rfl,?_⟩
  simp_arith []
  rw [if_pos trivial]
  refine ⟨⟨[some (.ref da),some (.ref e1)],rfl,rfl⟩,vs,.inl (SqL.of (s10 _ _ v2)),fun l1 hl1 p1 hp1=>?_⟩
  have tl:=Same.upd (o:=.lst vs) hl1
  have tp:=Same.upd (o:=.tup [V.ref l1,V.ref e1]) hp1
  have tlp:=tl.trans tp
  have s11:=s10.trans tlp
  have e11:=tlp _ _ e10
  have el1:upd (upd H10 l1 (.lst vs)) p1 (.tup [V.ref l1,V.ref e1]) l1=some (.lst vs):=tp _ _ ae
  have ep1:upd (upd H10 l1 (.lst vs)) p1 (.tup [V.ref l1,V.ref e1]) p1=some (.tup [V.ref l1,V.ref e1]):=ae
  have nl1:l1≠hd:=(au e10 hl1).symm
  have nda2:da≠hd:=fun z=>by rw [z,hhd] at v2;cases v2
  generalize upd (upd H10 l1 (.lst vs)) p1 (.tup [V.ref l1,V.ref e1])=H11 at tp tlp s11 e11 el1 ep1 ⊢
  have tu:=TSame.updL (o:=.lst (ys ++ [V.ref p1])) e11
  have su:∀c vs,c≠hd->H11 c=some (.lst vs)->upd H11 hd (.lst (ys ++ [V.ref p1])) c=some (.lst vs):=fun c vs n e=>by rw [ap n];exact e
  refine ⟨e11,by have:=p9.length;have:=(List.getElem?_eq_some_iff.mp hx).1;rw [sizeLine_eq];omega,s11.updM hhd,ae,by rw [List.length_append,l10];rfl,fun j y hy=>?_⟩
  by_cases hj:j < i
  ·rw [List.getElem?_append_left (by omega)] at hy
   obtain ⟨x',b',h1,h2,h3⟩:=h10 j y hy
   exact ⟨x',b',h1,h2,(h3.ts (Same.ts tlp) fun c vs _ e=>tlp _ _ e).ts tu su⟩
  ·have hlt:=(List.getElem?_eq_some_iff.mp hy).1
   rw [List.length_append,List.length_singleton] at hlt
   obtain rfl:j=i:=by omega
   rw [List.getElem?_append_right (by omega),l10,Nat.sub_self] at hy
   cases hy
   refine ⟨_,b,hx,hb,Hd.ts ⟨q1,da,e1,vs,p1,l1,rfl,rfl,nda2,nl1,s11.seqT v1,SqT.of ep1,s11 _ _ v2,el1,FL.Paired.imp v3 fun y _ d _ ⟨q,e,z,f⟩=>⟨q,e,s11.seqT z,f⟩,s11.seqT v4⟩ tu su⟩
 rintro hys H10 ⟨s10,e10,l10,h10⟩
 have s010:=s09.trans s10
 have hD10:=hD9.same s10
 have ei10:=s10 _ _ ei9
 have hP10:=hP9.same s10
 have e9t:=s10 _ _ e9
 have lt9:=p9.length
 have tT:TabV K H10 tb F:=⟨tys,e9t,FL.Paired.imp p9 fun x _ b _ ⟨a,na,z⟩=>(z.same s10).v⟩
 have tH:TabV K H10 hd F:=⟨hys,e10,FL.Paired.of_get (by omega) fun j y b hy hb=>by
  obtain ⟨x,b',h1,h2,q1,da,e1,vs,q2,l1,rfl,rfl,n1,n2,k1,k2,k3,k4,k5,k6⟩:=h10 j y hy
  rw [hb] at h2
  cases h2
  exact ⟨q2,l1,e1,vs,rfl,k2,k4,k5,k6⟩⟩
 have hG:pB (ins ++ oth) wd F:=by
  rw [sall]
  exact ⟨fun b hb=>(g9 b hb).1,fun b hb j hj=>by rw [lF];exact (g9 b hb).2.2 j hj,by omega⟩
 have hG3:∀b∈F,b.ds.length<=3:=fun b hb=>(g9 b hb).2.1
 have rqT:∀H',Same H10 H'->Rq K H' 3 (.ref hd) (.ref tb) true:=by
  intro H' s'
  have z:=Rq.lists (K:=K) (H:=H') (n:=3) (fun _=>true) (SqL.of (s' _ _ e10)) (SqL.of (s' _ _ e9t)) (by omega) fun j y x hy hx=>by
   obtain ⟨x',b',h1,h2,q1,da,e1,vs,q2,l1,rfl,rfl,n1,n2,k1,k2,k3,k4,k5,k6⟩:=h10 j y hy
   rw [hx] at h1
   cases h1
   by_cases nq:q2=q1
   ·subst nq;exact .same
   have zt:=Dq.tups (K:=K) (n:=2) (fun _=>true) nq (s'.seqT k2) (s'.seqT k1) fun i u v hu hv=>by
    match i,hu,hv with
    | 0,hu,hv=>
     cases hu;cases hv
     by_cases nl:l1=da
     ·subst nl;exact .same
     have zl:=Dq.lists (K:=K) (n:=1) (fun _=>true) nl (SqL.of (s' _ _ k4)) (SqL.of (s' _ _ k3)) rfl fun i u v hu hv=>by
      rw [hu] at hv
      cases hv
      obtain ⟨d,_,q0,rfl,_,_⟩:=Paired.get k5 hu
      exact .same
     rw [eI] at zl
     exact zl
    | 1,hu,hv=>
     cases hu;cases hv
     exact .same
   exact zt
  rw [eI] at z
  exact z
 clear h10 p9 g9 s9 hD9 ei9 hP9 e9 s09
 refine aM ?_
 simp_arith! [om,nC]
 refine ⟨ns,s010.seq hS,by decide,ins,ei10,by rw [List.length_append] at hfew;omega,hbb 2,w1,w8,fun wc ws H11 s11 hwc hW=>?_⟩
 refine aM ?_
 simp_arith! []
 refine ⟨_,_,rfl,.inl hW.hd,fun kc hkc=>?_⟩
 have t12:=Same.upd (o:=.dK ws) hkc
 have ek:upd H11 kc (.dK ws) kc=some (.dK ws):=ae
 have s12:=s11.trans t12
 have hW12:=hW.same t12
 generalize upd H11 kc (.dK ws)=H12 at t12 ek s12 hW12 ⊢
 have s012:=s010.trans s12
 refine aM ?_
 simp_arith! [nC]
 refine ⟨ns,s012.seq hS,by decide,?_⟩
 have b0:0<=atF ns 2 % 40:=Int.emod_nonneg _ (by decide)
 have b4:atF ns 2 % 40 < 40:=Int.emod_lt_of_pos _ (by decide)
 have c0:0<=atF ns 2 / 640 % 501:=Int.emod_nonneg _ (by decide)
 have c5:atF ns 2 / 640 % 501 < 501:=Int.emod_lt_of_pos _ (by decide)
 obtain ⟨most,hmost⟩:∃most:Nat,atF ns 2 % 40=(most:Int):=⟨(atF ns 2 % 40).toNat,by omega⟩
 rw [hmost]
 refine aM ?_
 simp_arith! []
 intro ak hak
 refine aM ?_
 simp_arith! [nC]
 have t13:=Same.upd (o:=.lst [V.int most,V.int 0,V.int 1,V.int ((most:Int)+1)]) hak
 refine ⟨fun σ H'=>∃(ak:Addr)(ms:List Nat),Same H12 H'/\H' ak=some (.lst (ms.map fun m:Nat=>V.int m))/\(∀m∈ms,m<=2100)/\σ=[some (V.ref a),some (V.int nb),some (V.ref pn),some (V.int wd),some (V.ref pi),some (V.ref q0),some (V.ref pp),some (V.int many),some (V.ref pf),some (V.ref tb),some (V.ref hd),some (V.ref wc),some (V.ref kc),some (V.int most),some (V.ref ak),none,none,none],?_,?_⟩
 ·refine ⟨ns,(s012.trans t13).seq hS,by decide,CDivB.small (by decide) (by decide),aw (fun _=>?_) fun _=>?_⟩
  ·refine ⟨ns,(s012.trans t13).seq hS,by decide,CDivB.small (by decide) (by decide),fun p1 hp1=>?_⟩
   obtain ⟨mm,hmm⟩:∃mm:Nat,1500+atF ns 2 / 640 % 501=(mm:Int):=⟨(1500+atF ns 2 / 640 % 501).toNat,by omega⟩
   rw [hmm]
   exact ⟨p1,[mm],t13.updN hp1,ae,fun m hm=>by rw [List.mem_singleton.mp hm];omega,rfl⟩
  ·refine ⟨ak,[most,0,1,most+1],t13,ae,fun m hm=>?_,rfl⟩
   simp only [List.mem_cons,List.not_mem_nil,or_false] at hm
   omega
 clear t13 hak
 rintro σ H13 ⟨ak,ms,s13,eak,hms,rfl⟩
 have s013:=s012.trans s13
 have s1013:=s12.trans s13
 have hD13:=hD10.same s1013
 have hW13:=hW12.same s13
 have hP13:=hP10.same s1013
 have tT13:=tT.same s1013
 have tH13:=tH.same s1013
 have ek13:=s13 _ _ ek
 obtain ⟨ks,hks,lks⟩:=GO.hV (ins:=ins) (ws:=ws) (ins ++ oth)
 have hfb:BxG (ins ++ oth) wd (aF ins ws (ins ++ oth)):=hW13.first (by omega)
 refine aM ?_
 simp_arith! [ol,f9,eE]
 refine ⟨fun σ H'=>Same H13 H'/\∃o15 o16 o17,σ=[some (V.ref a),some (V.int nb),some (V.ref pn),some (V.int wd),some (V.ref pi),some (V.ref q0),some (V.ref pp),some (V.int many),some (V.ref pf),some (V.ref tb),some (V.ref hd),some (V.ref wc),some (V.ref kc),some (V.int most),some (V.ref ak),o15,o16,o17],?_,?_⟩
 ·refine ⟨⟨_,SqL.of eak⟩,?_⟩
  refine d5 (xs:=ms.map fun m:Nat=>V.int m) (fun i σ H'=>Same H13 H'/\∃o15 o16 o17,σ=[some (V.ref a),some (V.int nb),some (V.ref pn),some (V.int wd),some (V.ref pi),some (V.ref q0),some (V.ref pp),some (V.int many),some (V.ref pf),some (V.ref tb),some (V.ref hd),some (V.ref wc),some (V.ref kc),some (V.int most),some (V.ref ak),o15,o16,o17])
   ⟨Same.refl _,_,_,_,rfl⟩ (fun i σ H' _ h=>SqL.of (h.1 _ _ eak)) ?_ fun σ H' h=>h
  rintro i x σ H14 hx ⟨s14,o15,o16,o17,rfl⟩
  rw [List.getElem?_map] at hx
  obtain ⟨m,hm,rfl⟩:=Option.map_eq_some_iff.mp hx
  have hm2:=hms m (List.mem_of_getElem? hm)
  simp_arith! [ol]
  refine ⟨wd,ins,oth,pr0,ws,F,m,rfl,hm2,tT13.same s14,hG,hD13.same s14,hW13.same s14,fun p2 td2 bx2 H15 s15 f1 f2 g1 g2 g3=>?_⟩
  obtain ⟨y1,y2,y3⟩:=fk hG w1 hG3 (n:=m) (i:=0) (s:=(aF ins ws (ins ++ oth),[])) hfb
  refine aM ?_
  simp_arith! [f9]
  have s1315:=s14.trans s15
  refine ⟨wd,ins,oth,[],a',b',r',ys,gg,ws,F,hP13.same s1315,⟨.inl (s1315 _ _ hW13.hd),hW13.has⟩,w1,w8,by omega,tH13.same s1315,hG,by omega,fun p1 td1 bx1 H16 s16 f3 f4 g4 g5 g6=>?_⟩
  rw [Int.toNat_natCast] at g4 g5 g6
  generalize GO.cb F wd m 0 (aF ins ws (ins ++ oth),[])=R at g1 g2 g3 g4 g5 g6 y1 y2 y3
  refine aM ?_
  simp_arith! [eE]
  have nbx:bx1≠bx2:=(au g3 f4).symm
  refine ⟨td1,bx1,td2,bx2,R.1.1,R.1.2,R.2,ks,SqT.of g4,SqT.of (s16 _ _ g1),g5,s16 _ _ g2,g6,s16 _ _ g3,nbx,y2.trans hks,y1.isI,by omega,by dsimp only at y3;rw [List.length_nil] at y3;omega,fun H17 s17=>⟨_,rfl,?_⟩⟩
  rw [if_neg (by decide)]
  have np:p1≠bx2:=bp g4 (s16 _ _ g3) (by intro z;cases z)
  have nt:td1≠bx2:=bp g5 (s16 _ _ g3) (by intro z;cases z)
  have e17:=s17 _ _ g4 np
  have et17:=s17 _ _ g5 nt
  have eb17:=s17 _ _ g6 nbx
  have npt:p1≠td1:=bp e17 et17 (by intro z;cases z)
  have nbt:bx1≠td1:=bp eb17 et17 (by intro z;cases z)
  refine aM ?_
  simp_arith []
  refine ⟨_,_,SqT.of e17,rfl,?_⟩
  simp_arith []
  refine ⟨.inl ⟨rfl,_,SqL.of et17⟩,_,et17,by dsimp only at y3;rw [List.length_nil] at y3;rw [List.length_map,sizeLine_eq];omega,?_⟩
  have eb18:upd H17 td1 (.lst (R.1.2.map V.int ++ [V.int 0])) bx1=some (.dK R.1.1):=by rw [ap nbt];exact eb17
  refine ⟨_,_,SqT.of (show upd H17 td1 (.lst (R.1.2.map V.int ++ [V.int 0])) p1=_ by rw [ap npt];exact e17),rfl,?_⟩
  refine ⟨.inr (.inr (.inl ⟨rfl,.inl ⟨_,eb18⟩⟩)),_,_,rfl,rfl,eb18,fun c o e=>?_,_,_,_,rfl⟩
  have e14:=s14 _ _ e
  have e15:=s15 _ _ e14
  rw [ap (au e15 f4),ap (au e15 f3)]
  exact s17 _ _ (s16 _ _ e15) (au e14 f2)
 rintro σ H14 ⟨s14,o15,o16,o17,rfl⟩
 refine aM ?_
 simp_arith! [ol]
 refine ⟨wd,ins,oth,pr0,ws,F,most,rfl,by omega,tT13.same s14,hG,hD13.same s14,hW13.same s14,fun p2 td2 bx2 H15 s15 f1 f2 g1 g2 g3=>?_⟩
 obtain ⟨y1,y2,y3⟩:=fk hG w1 hG3 (n:=most) (i:=0) (s:=(aF ins ws (ins ++ oth),[])) hfb
 have s1315:=s14.trans s15
 refine aM ?_
 simp_arith [f9,eE]
 refine ⟨true,rqT _ (s1013.trans s1315),?_⟩
 refine ⟨_,rfl,?_⟩
 rw [if_pos rfl]
 refine ⟨wc,kc,ws,ws,rfl,rfl,.inl (s1315 _ _ hW13.hd),.inl (s1315 _ _ ek13),hW13.isI.flat,hW13.isI.flat,_,rfl,?_⟩
 rw [hW13.isI.self,if_pos rfl]
 refine ⟨wd,ins,oth,[],a',b',r',ys,gg,ws,F,hP13.same s1315,⟨.inl (s1315 _ _ hW13.hd),hW13.has⟩,w1,w8,by omega,tH13.same s1315,hG,by omega,fun p1 td1 bx1 H16 s16 f3 f4 g4 g5 g6=>?_⟩
 rw [Int.toNat_natCast] at g4 g5 g6
 generalize GO.cb F wd most 0 (aF ins ws (ins ++ oth),[])=R at g1 g2 g3 g4 g5 g6 y1 y2 y3
 rw [eE]
 refine ⟨td1,bx1,td2,bx2,R.1.1,R.1.2,R.2,ks,SqT.of g4,SqT.of (s16 _ _ g1),g5,s16 _ _ g2,g6,s16 _ _ g3,(au g3 f4).symm,y2.trans hks,y1.isI,by omega,by dsimp only at y3;rw [List.length_nil] at y3;omega,fun H17 s17=>q H17⟩
theorem kN(T:Txt K mg t):∀(s:Shared)(u:Value),BindsTo s t.e_law ⟨[u],[]⟩ [("_law_script",u)]:=by
 obtain ⟨oc,od,kV,doc,pm,an,cdv,ct,osl,e,_,_⟩:=T.d_law.F.ex
 intro s u
 rw [e]
 exact .of_eq rfl
end
theorem vL{l:PySem.W.OpenLaw}{q:Program}{loose:List Str}{XP:(Str->Option Value)->Heap->Prop}{YP:World->Heap->Prop}{d:DefRec}{K:Params->PySem.W.Frag}(hn:l.most=some 63)(hdf:d.params.defaults=[])(hd:d.name="law")
  (hY:∀(w:World)(h:Heap),YP w h->(K w.params).In h)
  (F:∀(w:World)(mg:Str->Option Value)(h:Heap),(K w.params).In h->h.Ns mainGlobals mg->∃t,Txt (K w.params) mg t) :
  PySem.W.WalkO q loose XP YP l.row.toRowW d [] (fun f vs=>PySem.call f vs):=by
 refine L2.pb (n:=63) (k:=100) (x:="_law_script") (CX:=fun _=>CX0) (sp:=fun w=>sp_law (K w.params)) hn (by decide) hdf ⟨rfl,by decide,by decide⟩ hY (fun w mg fa h KX G hmg=>?_) (fun _ _ a ns hl hb _ hS=>⟨a,ns,rfl,hS,hl,hb,fun _=>rfl⟩) fun _ _ _ _ _ z=>z
 obtain ⟨t,T⟩:=F w mg h KX G
 rw [hd] at hmg
 have e0:=hmg.symm.trans T.d_law.M
 cases e0
 exact ⟨t.e_law,kN T,fun base _ _=>(sN T).mono (by decide)⟩
end K51
set_option maxHeartbeats 4000000
def PySem.W.Fast.tw14543699803502011436:=0
def PySem.W.Fast.tw7209719217465925906:=0
def PySem.W.Fast.tw18376385396317828305:=0
def PySem.W.Fast.tw15822990281090884628:=0
def PySem.W.Fast.tw2496694196917410655:=0
def PySem.W.Fast.tw17726437134325075913:=0
def PySem.W.Fast.tw1519673028930689175:=0
def PySem.W.Fast.tw10306028165566976088:=0
def PySem.W.Fast.tw5402792091597798317:=0
def PySem.W.Fast.tw11471175473158131760:=0
def PySem.W.Fast.tw15973100414064588487:=0
def PySem.W.Fast.tw13181029814484302855:=0
def PySem.W.Fast.tw13097703942922391216:=0
def PySem.W.Fast.tw10460375263763986541:=0
def PySem.W.Fast.tw11684889155956504072:=0
def PySem.W.Fast.tw171212328400075452:=0
def PySem.W.Fast.tw553562592867915148:=0
def PySem.W.Fast.tw6797260536045758728:=0
def PySem.W.Fast.tw2692942943961813349:=0
def PySem.W.Fast.tw12576189179587231903:=0
def PySem.W.Fast.tw10783576147264149139:=0
def PySem.W.Fast.tw13972619884754950001:=0
def PySem.W.Fast.tw11251613552386788150:=0
def PySem.W.Fast.tw7630261411560496568:=0
def PySem.W.Fast.tw13090540026884768553:=0
def PySem.W.Fast.tw5680774343014403078:=0
def PySem.W.Fast.tw9480251859424289630:=0
def PySem.W.Fast.tw9232328729004835943:=0
def PySem.W.Fast.tw14675613364540439581:=0
def PySem.W.Fast.tw12040736165260837939:=0
def PySem.W.Fast.tw14740747318239659821:=0
def PySem.W.Fast.tw9460010440976324520:=0
def PySem.W.Fast.tw2396765305912918561:=0
def PySem.W.Fast.tw8852163988001413435:=0
def PySem.W.Fast.tw1804183547568275544:=0
def PySem.W.Fast.tw1523727059653100279:=0
def PySem.W.Fast.tw3944684063672272313:=0
def PySem.W.Fast.tw8003398180494738296:=0
def PySem.W.Fast.tw14340761569011973476:=0
def PySem.W.Fast.tw11401968487285474880:=0
def PySem.W.Fast.tw6171999429821395009:=0
def PySem.W.Fast.tw13942365471455280918:=0
def PySem.W.Fast.tw2088940819405376566:=0
def PySem.W.Fast.tw17504838461643578505:=0
def PySem.W.Fast.tw8461285500465072056:=0
def PySem.W.Fast.tw16718200258464411975:=0
def PySem.W.Fast.tw17811215706965243591:=0
def PySem.W.Fast.tw7293379723211025172:=0
def PySem.W.Fast.tw17699503264840989632:=0
def PySem.W.Fast.tw10967899245425684445:=0
def PySem.W.Fast.tw16016209995079474330:=0
def PySem.W.Fast.tw8279063188948741559:=0
def PySem.W.Fast.tw6827666879492292059:=0
def PySem.W.Fast.tw17890093272413135014:=0
def PySem.W.Fast.tw10860907372173306947:=0
def PySem.W.Fast.tw9492064237745330283:=0
def PySem.W.Fast.tw13296879993858558082:=0
def PySem.W.Fast.tw18330970762280822792:=0
def PySem.W.Fast.tw2537598860088185735:=0
def PySem.W.Fast.tw6419344944851072816:=0
def PySem.W.Fast.tw15185348766955423503:=0
def PySem.W.Fast.tw14966714051518156212:=0
def PySem.W.Fast.tw8257252920725320025:=0
def PySem.W.Fast.tw1147556328408672273:=0
def PySem.W.Fast.tw5451439772701627086:=0
def PySem.W.Fast.tw16373643338677384828:=0
def PySem.W.Fast.tw11256164143080995154:=0
def PySem.W.Fast.tw25511197836511201:=0
def PySem.W.Fast.tw6333938610339239035:=0
def PySem.W.Fast.tw9026379381088559576:=0
def PySem.W.Fast.tw17780115055071789718:=0
def PySem.W.Fast.tw16929163545421339445:=0
def PySem.W.Fast.tw585179752902951388:=0
def PySem.W.Fast.tw17794695389487747790:=0
def PySem.W.Fast.tw1754966692898093478:=0
def PySem.W.Fast.tw15674765910540492993:=0
def PySem.W.Fast.tw3748323732633867587:=0
def PySem.W.Fast.tw11171190238112111713:=0
def PySem.W.Fast.tw2880774095625902018:=0
def PySem.W.Fast.tw11095528269765468097:=0
def PySem.W.Fast.tw4867411374583046525:=0
def PySem.W.Fast.tw9018053220472828352:=0
def PySem.W.Fast.tw11494293382617553328:=0
def PySem.W.Fast.tw6667678185816264989:=0
def PySem.W.Fast.tw1780746957009893611:=0
def PySem.W.Fast.tw3456298213653400176:=0
def PySem.W.Fast.tw8781524359402630835:=0
def PySem.W.Fast.tw11866230566028360167:=0
def PySem.W.Fast.tw4581818986578380293:=0
def PySem.W.Fast.tw14157880277111188713:=0
def PySem.W.Fast.tw15398986581392256026:=0
def PySem.W.Fast.tw3852485691287877505:=0
def PySem.W.Fast.tw13382366592739489223:=0
def PySem.W.Fast.tw8832655634911556030:=0
def PySem.W.Fast.tw14043356263138648388:=0
def PySem.W.Fast.tw8046661871443444849:=0
def PySem.W.Fast.tw13715134140337374483:=0
def PySem.W.Fast.tw13435990144426886288:=0
def PySem.W.Fast.tw8498379844695057368:=0
def PySem.W.Fast.tw5092472496408208876:=0
def PySem.W.Fast.tw11526555940661883736:=0
def PySem.W.Fast.tw4503148321750264766:=0
def PySem.W.Fast.tw8111765204385941776:=0
def PySem.W.Fast.tw17762806443749894882:=0
def PySem.W.Fast.tw9026008099934423270:=0
def PySem.W.Fast.tw13357056268909411326:=0
def PySem.W.Fast.tw7024949799592741557:=0
def PySem.W.Fast.tw17051966820565668368:=0
def PySem.W.Fast.tw221229456974034266:=0
def PySem.W.Fast.tw16238380195549792112:=0
def PySem.W.Fast.tw9620346074066161990:=0
def PySem.W.Fast.tw3686130011855997038:=0
def PySem.W.Fast.tw17189591515931939462:=0
def PySem.W.Fast.tw16804428692243464498:=0
def PySem.W.Fast.tw18203800650453765791:=0
def PySem.W.Fast.tw13785109196711238191:=0
def PySem.W.Fast.tw17960468557123425726:=0
def PySem.W.Fast.tw11680990027094470178:=0
def PySem.W.Fast.tw10799839511978721342:=0
def PySem.W.Fast.tw781519002742832651:=0
open PySem PySem.W PyProof.Rows
set_option maxRecDepth 100000 in
set_option maxHeartbeats 0 in
theorem PySem.Challenge.cw_deedloom_k51_tables_run_holds : PySem.Challenge.rw_deedloom_k51_tables_run.Holds := by
 w_on; o_law; k_head; (case hw => w_witness2)
 k_fill
 refine K51.vL (l := PySem.Challenge.rw_deedloom_k51_tables_run) rfl rfl rfl (fun w h Y => PySem.W.kIn_of Y) ?F
 case F =>
  intro w mg h KX G
  exact ⟨⟨_, _, _, _, _, _, _, _, _, _, _, _, _, _, _, _, _, _, _, _, _, _, _, _, _, _, _, _, _, _, _, _, _, _, _, _, _, _, _, _, _, _, _, _, _, _, _, _, _, _, _, _, _, _, _, _, _, _, _, _, _, _, _, _, _, _, _, _, _, _⟩, ⟨L2.up KX G (by (try dsimp only); k_is) (by (try dsimp only); k_is) (by (try dsimp only); k_is) (by (try dsimp only); k_is) (by (try dsimp only); k_is) (by (try dsimp only); k_is) (by (try dsimp only); k_is), by show PySem.W.findIn _ _ _ = some none; (try dsimp only); k_is, by show PySem.W.findIn _ _ _ = some none; (try dsimp only); k_is, by show PySem.W.findIn _ _ _ = some none; (try dsimp only); k_is, by show PySem.W.findIn _ _ _ = some none; (try dsimp only); k_is, L2.up KX G (by (try dsimp only); k_is) (by (try dsimp only); k_is) (by (try dsimp only); k_is) (by (try dsimp only); k_is) (by (try dsimp only); k_is) (by (try dsimp only); k_is) (by (try dsimp only); k_is), by show PySem.W.findIn _ _ _ = some none; (try dsimp only); k_is, by show PySem.W.findIn _ _ _ = some none; (try dsimp only); k_is, by show PySem.W.findIn _ _ _ = some none; (try dsimp only); k_is, by show PySem.W.findIn _ _ _ = some none; (try dsimp only); k_is, by show PySem.W.findIn _ _ _ = some none; (try dsimp only); k_is, L2.sK (by (try dsimp only); k_is) (by (try dsimp only); k_is) (by (try dsimp only); k_is) (by (try dsimp only); k_is) (by (try dsimp only); k_is) (L2.bn5 fun _ _ _ _ _ _ _ _ _ _ _ => rfl), L2.bn KX G (by (try dsimp only); k_is) (by (try dsimp only); k_is) (by (try dsimp only); k_is) (by (try dsimp only); k_is) (L2.bn1 fun _ _ _ _ _ _ _ => rfl), L2.bn KX G (by (try dsimp only); k_is) (by (try dsimp only); k_is) (by (try dsimp only); k_is) (by (try dsimp only); k_is) (L2.bn1 fun _ _ _ _ _ _ _ => rfl), L2.bn KX G (by (try dsimp only); k_is) (by (try dsimp only); k_is) (by (try dsimp only); k_is) (by (try dsimp only); k_is) (L2.bn1 fun _ _ _ _ _ _ _ => rfl), L2.bn KX G (by (try dsimp only); k_is) (by (try dsimp only); k_is) (by (try dsimp only); k_is) (by (try dsimp only); k_is) (L2.bn4 fun _ _ _ _ _ _ _ _ _ _ => rfl), L2.bn KX G (by (try dsimp only); k_is) (by (try dsimp only); k_is) (by (try dsimp only); k_is) (by (try dsimp only); k_is) (L2.bn1 fun _ _ _ _ _ _ _ => rfl), L2.bn KX G (by (try dsimp only); k_is) (by (try dsimp only); k_is) (by (try dsimp only); k_is) (by (try dsimp only); k_is) (L2.bn1 fun _ _ _ _ _ _ _ => rfl), L2.bn KX G (by (try dsimp only); k_is) (by (try dsimp only); k_is) (by (try dsimp only); k_is) (by (try dsimp only); k_is) (L2.bn2 fun _ _ _ _ _ _ _ _ => rfl), L2.bn KX G (by (try dsimp only); k_is) (by (try dsimp only); k_is) (by (try dsimp only); k_is) (by (try dsimp only); k_is) (L2.bn3 fun _ _ _ _ _ _ _ _ _ => rfl), L2.bn KX G (by (try dsimp only); k_is) (by (try dsimp only); k_is) (by (try dsimp only); k_is) (by (try dsimp only); k_is) (L2.bn2 fun _ _ _ _ _ _ _ _ => rfl), L2.bn KX G (by (try dsimp only); k_is) (by (try dsimp only); k_is) (by (try dsimp only); k_is) (by (try dsimp only); k_is) (L2.bn2 fun _ _ _ _ _ _ _ _ => rfl), L2.sK (by (try dsimp only); k_is) (by (try dsimp only); k_is) (by (try dsimp only); k_is) (by (try dsimp only); k_is) (by (try dsimp only); k_is) (L2.bn4 fun _ _ _ _ _ _ _ _ _ _ => rfl), L2.sK (by (try dsimp only); k_is) (by (try dsimp only); k_is) (by (try dsimp only); k_is) (by (try dsimp only); k_is) (by (try dsimp only); k_is) (L2.bn1 fun _ _ _ _ _ _ _ => rfl), L2.bn KX G (by (try dsimp only); k_is) (by (try dsimp only); k_is) (by (try dsimp only); k_is) (by (try dsimp only); k_is) (L2.bn4 fun _ _ _ _ _ _ _ _ _ _ => rfl), L2.bn KX G (by (try dsimp only); k_is) (by (try dsimp only); k_is) (by (try dsimp only); k_is) (by (try dsimp only); k_is) (L2.bn1 fun _ _ _ _ _ _ _ => rfl), L2.bn KX G (by (try dsimp only); k_is) (by (try dsimp only); k_is) (by (try dsimp only); k_is) (by (try dsimp only); k_is) (L2.bn2 fun _ _ _ _ _ _ _ _ => rfl), L2.bn KX G (by (try dsimp only); k_is) (by (try dsimp only); k_is) (by (try dsimp only); k_is) (by (try dsimp only); k_is) (L2.bn2 fun _ _ _ _ _ _ _ _ => rfl), L2.bn KX G (by (try dsimp only); k_is) (by (try dsimp only); k_is) (by (try dsimp only); k_is) (by (try dsimp only); k_is) (L2.bn2 fun _ _ _ _ _ _ _ _ => rfl), L2.bn KX G (by (try dsimp only); k_is) (by (try dsimp only); k_is) (by (try dsimp only); k_is) (by (try dsimp only); k_is) (L2.bn2 fun _ _ _ _ _ _ _ _ => rfl), L2.bn KX G (by (try dsimp only); k_is) (by (try dsimp only); k_is) (by (try dsimp only); k_is) (by (try dsimp only); k_is) (L2.bn3 fun _ _ _ _ _ _ _ _ _ => rfl), L2.bn KX G (by (try dsimp only); k_is) (by (try dsimp only); k_is) (by (try dsimp only); k_is) (by (try dsimp only); k_is) (L2.bn3 fun _ _ _ _ _ _ _ _ _ => rfl), L2.bn KX G (by (try dsimp only); k_is) (by (try dsimp only); k_is) (by (try dsimp only); k_is) (by (try dsimp only); k_is) (L2.bn3 fun _ _ _ _ _ _ _ _ _ => rfl), L2.bn KX G (by (try dsimp only); k_is) (by (try dsimp only); k_is) (by (try dsimp only); k_is) (by (try dsimp only); k_is) (L2.bn3 fun _ _ _ _ _ _ _ _ _ => rfl), L2.bn KX G (by (try dsimp only); k_is) (by (try dsimp only); k_is) (by (try dsimp only); k_is) (by (try dsimp only); k_is) (L2.bn2 fun _ _ _ _ _ _ _ _ => rfl), L2.bn KX G (by (try dsimp only); k_is) (by (try dsimp only); k_is) (by (try dsimp only); k_is) (by (try dsimp only); k_is) (L2.bn4 fun _ _ _ _ _ _ _ _ _ _ => rfl), L2.bn KX G (by (try dsimp only); k_is) (by (try dsimp only); k_is) (by (try dsimp only); k_is) (by (try dsimp only); k_is) (L2.bn5 fun _ _ _ _ _ _ _ _ _ _ _ => rfl), L2.bn KX G (by (try dsimp only); k_is) (by (try dsimp only); k_is) (by (try dsimp only); k_is) (by (try dsimp only); k_is) (L2.bn2 fun _ _ _ _ _ _ _ _ => rfl), L2.bn KX G (by (try dsimp only); k_is) (by (try dsimp only); k_is) (by (try dsimp only); k_is) (by (try dsimp only); k_is) (L2.bn2 fun _ _ _ _ _ _ _ _ => rfl), L2.bn KX G (by (try dsimp only); k_is) (by (try dsimp only); k_is) (by (try dsimp only); k_is) (by (try dsimp only); k_is) (L2.bn1 fun _ _ _ _ _ _ _ => rfl), L2.bn KX G (by (try dsimp only); k_is) (by (try dsimp only); k_is) (by (try dsimp only); k_is) (by (try dsimp only); k_is) (L2.bn2 fun _ _ _ _ _ _ _ _ => rfl), L2.bn KX G (by (try dsimp only); k_is) (by (try dsimp only); k_is) (by (try dsimp only); k_is) (by (try dsimp only); k_is) (L2.bn4 fun _ _ _ _ _ _ _ _ _ _ => rfl), L2.bn KX G (by (try dsimp only); k_is) (by (try dsimp only); k_is) (by (try dsimp only); k_is) (by (try dsimp only); k_is) (L2.bn2 fun _ _ _ _ _ _ _ _ => rfl), L2.bn KX G (by (try dsimp only); k_is) (by (try dsimp only); k_is) (by (try dsimp only); k_is) (by (try dsimp only); k_is) (L2.bn4 fun _ _ _ _ _ _ _ _ _ _ => rfl), L2.bn KX G (by (try dsimp only); k_is) (by (try dsimp only); k_is) (by (try dsimp only); k_is) (by (try dsimp only); k_is) (L2.bn1 fun _ _ _ _ _ _ _ => rfl), PySem.W.mg_none_of KX G (by (try dsimp only); k_is), PySem.W.mg_none_of KX G (by (try dsimp only); k_is), PySem.W.mg_none_of KX G (by (try dsimp only); k_is), PySem.W.mg_none_of KX G (by (try dsimp only); k_is), PySem.W.mg_none_of KX G (by (try dsimp only); k_is), PySem.W.mg_none_of KX G (by (try dsimp only); k_is), PySem.W.mg_none_of KX G (by (try dsimp only); k_is), PySem.W.mg_none_of KX G (by (try dsimp only); k_is), PySem.W.mg_none_of KX G (by (try dsimp only); k_is), PySem.W.mg_none_of KX G (by (try dsimp only); k_is), PySem.W.mg_none_of KX G (by (try dsimp only); k_is), PySem.W.mg_none_of KX G (by (try dsimp only); k_is)⟩⟩
