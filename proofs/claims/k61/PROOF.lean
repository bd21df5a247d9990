import PyProof.Rows.All
import Wide.All
import OpenK.AllK
import Wide.One
import Wide.Seal
import PySem.Challenge.RW_deedloom_k61_nets_formed
set_option genSizeOf false
set_option compiler.extract_closed false
set_option Elab.async false
set_option linter.all false
set_option maxRecDepth 100000
local macro_rules|`($d:definition)=>`(noncomputable $d:definition)
local macro_rules|`(tactic|omega)=>`(tactic|first|assumption|lia|omega +splitNatSub)
noncomputable section
section
local macro_rules|`({$x:term})=>`(⟨$x⟩)
local macro_rules|`({$x:term,$xs:term,*})=>`(⟨$x,$xs,*⟩)
local macro_rules|`(tactic|show $e:term)=>`(tactic|refine $e)
local macro_rules|`(tactic|let $d:letDecl)=>`(tactic|have $d:letDecl)
set_option linter.all false
namespace Zq
open PySem
def zq0:=@if_neg
def zq1:=@if_pos
def zq2:=@wpAny_bind
def zq3:=@List.length_map
def zq4:=@Nat.le_refl
def zq5:=@wpAny_pure
def zq6:=@Bool.false_ne_true
def zq7:=@List.getElem?_eq_some_iff
def zq8:=@List.mem_cons_of_mem
def zq9:=@List.mem_cons
def bB:=@sizeLine_eq
def bF:=@Nat.le_trans
def bN:=@List.getElem?_eq_getElem
def bP:=@List.getElem?_map
def bR:=@List.mem_of_getElem?
def zq15:=@List.mem_singleton
def bT:=@Nat.lt_of_lt_of_le
def bW:=@List.length_append
def bX:=@decide_eq_true
def cu:=@Heap.lt_size
def cE:=@Nat.zero_le
def cG:=@List.length_cons
def cH:=@List.map_cons
def cR:=@decide_eq_false
def cS:=@List.mem_cons_self
def cW:=@Heap.get?_push_of_some
def dc:=@List.length_singleton
def zq27:=@List.mem_append
def dz:=@List.length_take
def dG:=@Nat.ne_of_lt
def zq30:=@Option.map_eq_some_iff
def dH:=@List.take_succ_eq_append_getElem
def zq32:=@List.mem_map
def dN:=@List.map_append
def eg:=@Heap.get?_push_size
def eh:=@Int.toNat_natCast
def eA:=@List.take_length
def eK:=@List.getD_eq_getElem?_getD
def eN:=@Bool.and_eq_true
def fi:=@List.length_range
def fU:=@List.of_mem_zip
def gm:=@List.map_map
def zq42:=@List.nodup_cons
def zq43:=@List.mem_range
def gN:=@List.size_toArray
def i7:=@List.mem_append_right
def i8:=@Int.emod_nonneg
def i9:=@List.mem_of_mem_take
def iD:=@List.append_nil
def zq49:=@List.all_eq_true
def iE:=@List.foldl_cons
def jn:=@wpAny_mono
def jT:=@Bool.eq_iff_iff
def jU:=@List.foldl_append
def jV:=@List.length_zip
def kA:=@List.length_set
def kB:=@List.getElem_mem
def kC:=@List.take_of_length_le
def kD:=@List.append_assoc
def kE:=@List.take_append_drop
def mS:=@List.mem_append_left
def mT:=@List.lookup_cons
def nH:=@Bool.or_eq_true
def nJ:=@Int.emod_lt_of_pos
def nK:=@List.cons_append
def zq65:=@beq_iff_eq
def qm:=@Nat.min_eq_left
def qo:=@decide_eq_true_iff
def qt:=@List.length_dropLast
def zq69:=@List.getElem?_zip_eq_some
def qu:=@List.length_tail
def qw:=@List.mem_of_mem_tail
def tV:=@List.getElem?_append_right
def tW:=@List.length_replicate
def tX:=@List.any_cons
def tY:=@Nat.le_add_right
def tZ:=@List.nil_append
def u9:=@List.sum_cons
def ua:=@List.concat_eq_append
def vh:=@Nat.lt_irrefl
def zq80:=@List.mem_filter
def vi:=@wpAny_holding
def vj:=@Nat.ne_of_gt
def vk:=@Heap.size_push
def vm:=@List.getElem?_append_left
def vn:=@List.all_cons
def vo:=@Int.eq_ofNat_of_zero_le
def vp:=@List.getElem?_eq_none
def zq:=@Nat.le_succ
def zq89:=@List.any_eq_true
def zr:=@Nat.sub_zero
def zt:=@List.range_succ
def zq92:=@List.nodup_append
def zq93:=@List.length_pos_iff
def zu:=@Nat.mul_succ
def zx:=@List.map_take
def Ds:=@List.getElem?_set_ne
def Dt:=@Nat.le_of_eq
def Du:=@Array.length_toList
def Dv:=@List.length_nil
def tR:=@Nat.lt_of_le_of_lt
def tS:=@Nat.min_eq_right
def tT:=@List.not_mem_nil
def tU:=@Nat.one_mul
def xD:=@Nat.le_of_lt
def xE:=@List.getElem?_set_self
def xF:=@List.length_drop
def xG:=@Nat.add_le_add_left
def xH:=@Int.zero_add
def xI:=@Array.getElem?_toList
def xJ:=@List.drop_zero
def xK:=@List.drop_of_length_le
def zq112:=@List.pairwise_cons
def xM:=@List.countP_append
def xN:=@List.drop_length
def zq115:=@List.length_eq_zero_iff
def xO:=@Nat.sub_self
def xP:=@List.eq_nil_or_concat
def xQ:=@List.idxOf_cons
def xR:=@List.singleton_append
def xS:=@Nat.mul_le_mul_right
def xT:=@List.length_flatten
def CV:=@List.filterMap_cons
def CW:=@Bool.false_and
def CY:=@Nat.lt_succ_self
def CZ:=@List.take_sublist
def D0:=@Heap.get?_update_self
def D1:=@Bool.false_or
def D2:=@List.map_nil
def D3:=@List.forIn_cons
def D4:=@List.filter_append
def D5:=@List.length_filter_le
def D6:=@Array.toArray_toList
def D7:=@codeAny_builtin
def D8:=@List.mem_or_eq_of_mem_set
def zq135:=@List.mem_flatMap
def D9:=@List.pairwise_lt_range
def Da:=@List.exists_mem_of_ne_nil
def Dc:=@Classical.byContradiction
def Dd:=@List.ext_getElem?
def De:=@List.map_drop
def Df:=@List.any_map
def Dg:=@List.getElem?_range
def Dh:=@Bool.true_and
def Di:=@Nat.pow_le_pow_right
def Dj:=@List.flatten_append
def Dk:=@List.getLastD_eq_getLast?
def Dl:=@List.length_mapIdx
def Dm:=@List.sum_append
def zq149:=@List.mem_iff_getElem?
def Do:=@List.idxOf_append
def Dp:=@List.foldl_nil
def Dr:=@Nat.mul_le_mul
def G5:=@Int.fdiv_eq_ediv_of_nonneg
def G6:=@List.getElem?_replicate
def G7:=@Heap.get?_update_other
def G8:=@List.getElem?_cons_succ
def G9:=@List.getElem?_reverse
def Ga:=@Array.getElem?_eq_getElem
def Gb:=@List.dropLast_sublist
def Gc:=@List.dropLast_concat_getLast
def Gd:=@List.getLast?_eq_getElem?
def Ge:=@List.dropLast_eq_take
def Gf:=@List.getElem?_dropLast
def Gg:=@List.countP_singleton
section
variable{Q R S T:Type}{g:Prop}
def eQ02{A B C:Prop}(k:A->B->C->g)(h:A/\B/\C):g:=let ⟨hA,hB,hC⟩:=h;k hA hB hC
def eQ03{A B C D:Prop}(k:A->B->C->D->g)(h:A/\B/\C/\D):g:=let ⟨hA,hB,hC,hD⟩:=h;k hA hB hC hD
def eQ04{A B C D E:Prop}(k:A->B->C->D->E->g)(h:A/\B/\C/\D/\E):g:=let ⟨hA,hB,hC,hD,hE⟩:=h;k hA hB hC hD hE
def eQ11{A B:Q->Prop}(k:∀a,A a->B a->g)(h:∃a,A a/\B a):g:=let ⟨a,hA,hB⟩:=h;k a hA hB
def eQ12{A B C:Q->Prop}(k:∀a,A a->B a->C a->g)(h:∃a,A a/\B a/\C a):g:=let ⟨a,hA,hB,hC⟩:=h;k a hA hB hC
def eQ13{A B C D:Q->Prop}(k:∀a,A a->B a->C a->D a->g)(h:∃a,A a/\B a/\C a/\D a):g:=let ⟨a,hA,hB,hC,hD⟩:=h;k a hA hB hC hD
def eQ14{A B C D E:Q->Prop}(k:∀a,A a->B a->C a->D a->E a->g)(h:∃a,A a/\B a/\C a/\D a/\E a):g:=let ⟨a,hA,hB,hC,hD,hE⟩:=h;k a hA hB hC hD hE
def eQ20{A:Q->R->Prop}(k:∀a b,A a b->g)(h:∃a b,A a b):g:=let ⟨a,b,hA⟩:=h;k a b hA
def eQ21{A B:Q->R->Prop}(k:∀a b,A a b->B a b->g)(h:∃a b,A a b/\B a b):g:=let ⟨a,b,hA,hB⟩:=h;k a b hA hB
def eQ22{A B C:Q->R->Prop}(k:∀a b,A a b->B a b->C a b->g)(h:∃a b,A a b/\B a b/\C a b):g:=let ⟨a,b,hA,hB,hC⟩:=h;k a b hA hB hC
def eQ23{A B C D:Q->R->Prop}(k:∀a b,A a b->B a b->C a b->D a b->g)(h:∃a b,A a b/\B a b/\C a b/\D a b):g:=let ⟨a,b,hA,hB,hC,hD⟩:=h;k a b hA hB hC hD
def eQ24{A B C D E:Q->R->Prop}(k:∀a b,A a b->B a b->C a b->D a b->E a b->g)(h:∃a b,A a b/\B a b/\C a b/\D a b/\E a b):g:=let ⟨a,b,hA,hB,hC,hD,hE⟩:=h;k a b hA hB hC hD hE
def eQ30{A:Q->R->S->Prop}(k:∀a b c,A a b c->g)(h:∃a b c,A a b c):g:=let ⟨a,b,c,hA⟩:=h;k a b c hA
def eQ31{A B:Q->R->S->Prop}(k:∀a b c,A a b c->B a b c->g)(h:∃a b c,A a b c/\B a b c):g:=let ⟨a,b,c,hA,hB⟩:=h;k a b c hA hB
def eQ32{A B C:Q->R->S->Prop}(k:∀a b c,A a b c->B a b c->C a b c->g)(h:∃a b c,A a b c/\B a b c/\C a b c):g:=let ⟨a,b,c,hA,hB,hC⟩:=h;k a b c hA hB hC
def eQ33{A B C D:Q->R->S->Prop}(k:∀a b c,A a b c->B a b c->C a b c->D a b c->g)(h:∃a b c,A a b c/\B a b c/\C a b c/\D a b c):g:=let ⟨a,b,c,hA,hB,hC,hD⟩:=h;k a b c hA hB hC hD
def eQ34{A B C D E:Q->R->S->Prop}(k:∀a b c,A a b c->B a b c->C a b c->D a b c->E a b c->g)(h:∃a b c,A a b c/\B a b c/\C a b c/\D a b c/\E a b c):g:=let ⟨a,b,c,hA,hB,hC,hD,hE⟩:=h;k a b c hA hB hC hD hE
def eQ40{A:Q->R->S->T->Prop}(k:∀a b c d,A a b c d->g)(h:∃a b c d,A a b c d):g:=let ⟨a,b,c,d,hA⟩:=h;k a b c d hA
def eQ41{A B:Q->R->S->T->Prop}(k:∀a b c d,A a b c d->B a b c d->g)(h:∃a b c d,A a b c d/\B a b c d):g:=let ⟨a,b,c,d,hA,hB⟩:=h;k a b c d hA hB
def eQ42{A B C:Q->R->S->T->Prop}(k:∀a b c d,A a b c d->B a b c d->C a b c d->g)(h:∃a b c d,A a b c d/\B a b c d/\C a b c d):g:=let ⟨a,b,c,d,hA,hB,hC⟩:=h;k a b c d hA hB hC
def eQ43{A B C D:Q->R->S->T->Prop}(k:∀a b c d,A a b c d->B a b c d->C a b c d->D a b c d->g)(h:∃a b c d,A a b c d/\B a b c d/\C a b c d/\D a b c d):g:=let ⟨a,b,c,d,hA,hB,hC,hD⟩:=h;k a b c d hA hB hC hD
def eQ44{A B C D E:Q->R->S->T->Prop}(k:∀a b c d,A a b c d->B a b c d->C a b c d->D a b c d->E a b c d->g)(h:∃a b c d,A a b c d/\B a b c d/\C a b c d/\D a b c d/\E a b c d):g:=let ⟨a,b,c,d,hA,hB,hC,hD,hE⟩:=h;k a b c d hA hB hC hD hE
end
@[inline] def zTt(v:Option Lean.Term)(q:Array (Lean.TSyntax `Lean.Parser.Tactic.rcasesPatLo))(ps:Array (Lean.TSyntax `rintroPat)):Lean.MacroM (Lean.TSyntax `tactic):=do
 let n:=q.size
 let mut t<-match v with
  |none=>`(tactic|(intro h;rcases h with ⟨$q,*⟩))
  |some v=>`(tactic|rcases $v:term with ⟨$q,*⟩)
 if ps.size>0 then t<-`(tactic|$t:tactic<;>rintro $ps*)
 for s in [2:n] do
  let mut p:=#[]
  let mut hs:=#[]
  for x in q[:if s+1=n then n else s] do
   if x.raw[0][0].getNumArgs==1&&x.raw[0][0][0][0].getId==`rfl then
    let h:=Lean.mkIdent (<-Lean.MonadQuotation.addMacroScope (.mkSimple s!"h{hs.size}"))
    hs:=hs.push h
    p:=p.push (<-`(rintroPat|$h:ident))
   else p:=p.push (<-`(rintroPat|($x:rcasesPatLo)))
  if s+1<n then
   let r:=q[s:].toArray
   p:=p.push (<-`(rintroPat|⟨$r,*⟩))
  p:=p++ps
  let mut u<-`(tactic|rintro $p*)
  if hs.size>0 then u<-`(tactic|$u:tactic<;>subst $hs*)
  for i in [0:s+1] do
   if i<5&&s-i<5 then
    let nm:=Lean.mkIdent (.mkSimple s!"eQ{i}{s-i}")
    match v with
    |none=>t<-`(tactic|first|(show $nm ?_;$u:tactic)|$t:tactic)
    |some v=>if v.raw.isIdent then t<-`(tactic|first|(show $nm ?_ $v;(try clear $v);$u:tactic)|$t:tactic) else t<-`(tactic|first|(show $nm ?_ $v;$u:tactic)|$t:tactic)
 pure t
def Ol{p:Prop}(h:p:=by decide +kernel):p:=h
def Om{p:Prop}(h:p:=by kernel_rfl):p:=h
def On{p:Prop}(h:p:=by decide):p:=h
def Oo{p:Prop}(h:p:=by omega):p:=h
def Oq{p:Prop}(h:p:=by simp):p:=h
def Os{p:Prop}(h:p:=by rfl):p:=h
abbrev be:=List Nat
abbrev N0:=List Str
abbrev N1:=List Value
abbrev N2:=List Addr
abbrev N3:=List Int
abbrev N4:=List Expr
abbrev N5:=W.Frag
abbrev N6:=Option Value
def Ni:=@PySem.F.slot_list_append
def Nj:=@PySem.F.type_list_append
def Nk:=@PySem.F.plainAttrs_list
def Nm:=@PySem.boot_len
def Nt:=@PyProof.Rows.callWith_type1
end Zq
open Zq
local macro_rules|`(tactic|obtain ⟨$p,*⟩:=$v)=>if p.getElems.size<3 then Lean.Macro.throwUnsupported else zTt v p #[]
local macro_rules|`(tactic|rintro $p*)=>do
 let some t:=p.findIdx? λx=>x.raw[0].isOfKind `Lean.Parser.Tactic.rcasesPat.tuple&&x.raw[0][1].getSepArgs.size>2|Lean.Macro.throwUnsupported
 let b<-zTt none (p[t]!.raw[0][1].getSepArgs.map (⟨·⟩)) p[t+1:].toArray
 let a:=p[:t].toArray
 if t>0 then `(tactic|(rintro $a*;$b:tactic)) else pure b
section
open PySem PySem.Spec PyProof.Rows
namespace L2
abbrev Key:=Sum Int Str
def k8:Key->Value->Bool
 | .inl k,v=>Value.isInt k v
 | .inr x,v=>Value.isStrOf x v
def M7(w:World):Key->Int
 | .inl k=>hashInt k
 | .inr x=>hashStr w x
def cg:∀{k:Key} {v:Value},k8 k v=true->(∃i t,k=Sum.inl i/\v=Value.int i t)\/(∃x t,k=Sum.inr x/\v=Value.str x t)
 | .inl i,v,h=>by
  obtain ⟨t,e⟩:=Value.isInt_shape (k:=i) (v:=v) h;show .inl ⟨i,t,rfl,e⟩
 | .inr x,v,h=>by obtain ⟨t,e⟩:=Value.isStrOf_shape (x:=x) (v:=v) h;show .inr ⟨x,t,rfl,e⟩
def yn(i:Int)(t:Tok):k8 (.inl i) (.int i t)=true:=by simp [k8,Value.isInt]
def yo(x:Str)(t:Tok):k8 (.inr x) (.str x t)=true:=by simp [k8,Value.isStrOf]
def GJ(a b:Int):decide ((Sum.inl a:Key)=Sum.inl b)=(a==b):=by
 by_cases e:a=b
 ·subst e;simp
 ·let h:¬(Sum.inl a:Key)=Sum.inl b:=λq=>e (Sum.inl.inj q);rw [cR h];show (beq_eq_false_iff_ne.mpr e).symm
def GM(a b:Str):decide ((Sum.inr a:Key)=Sum.inr b)=decide (a=b):=by
 by_cases e:a=b
 ·subst e;simp
 ·let h:¬(Sum.inr a:Key)=Sum.inr b:=λq=>e (Sum.inr.inj q);rw [cR h,cR e]
def GK(a:Int)(b:Str):decide ((Sum.inl a:Key)=Sum.inr b)=false:=cR (λq=>nomatch q)
def GL(a:Str)(b:Int):decide ((Sum.inr a:Key)=Sum.inl b)=false:=cR (λq=>nomatch q)
def bG(prog:Program)(w:World):PySem.KeyKind prog w Key where
 is:=k8
 hash:=M7 w
 inj:=λv a b ha hb=>by
  rcases cg ha with ⟨i,t,rfl,rfl⟩ | ⟨x,t,rfl,rfl⟩
  ·rcases cg hb with ⟨j,u,rfl,e⟩ | ⟨y,u,rfl,e⟩
   ·injection e with e1 _;rw [e1]
   ·show nomatch e
  ·rcases cg hb with ⟨j,u,rfl,e⟩ | ⟨y,u,rfl,e⟩
   ·show nomatch e
   ·injection e with e1 _;rw [e1]
 byValue:=λk v h=>by rcases cg h with ⟨i,t,rfl,rfl⟩ | ⟨x,t,rfl,rfl⟩<;>rfl
 pyHash:=λhv h=>by
  rcases cg hv with ⟨i,t,rfl,rfl⟩ | ⟨x,t,rfl,rfl⟩
  ·show wpAny_pyHash_int h
  ·show wpAny_pyHash_str h
 eqBool:=λhu hv h=>by
  rcases cg hu with ⟨i,t,rfl,rfl⟩ | ⟨x,t,rfl,rfl⟩
  ·rcases cg hv with ⟨j,u,rfl,rfl⟩ | ⟨y,u,rfl,rfl⟩
   ·rw [GJ] at h;show wpAny_eqBool_int h
   ·rw [GK] at h;show SeqAt.EqAt.int_str i t y u _ _ _ _ h
  ·rcases cg hv with ⟨j,u,rfl,rfl⟩ | ⟨y,u,rfl,rfl⟩
   ·rw [GL] at h;show SeqAt.EqAt.str_int x t j u _ _ _ _ h
   ·rw [GM] at h;show wpAny_eqBool_str h
 «strs»:=λk x t v h=>by
  rcases cg h with ⟨i,u,rfl,e⟩ | ⟨y,u,rfl,e⟩
  ·show nomatch e
  ·injection e with e1 _;subst e1
   cases v<;>rfl
def rT(prog:Program)(w:World)(i:Int)(t:Tok):(bG prog w).is (.inl i) (.int i t)=true:=yn i t
def rV(prog:Program)(w:World)(x:Str)(t:Tok):(bG prog w).is (.inr x) (.str x t)=true:=yo x t
end L2
namespace L2
inductive V where
 |non | bl (b:Bool) | int (i:Int) | str (x:Str) | byt (b:Array UInt8) | flt (b:UInt64) | ref (a:Addr) | ty (n:String)
 deriving DecidableEq
abbrev N8:=Option V
abbrev N7:=List V
def RelV:V->Value->Prop
 | .non,u=>u=Value.none
 | .bl b,u=>u=Value.bool b
 | .int i,u=>∃t,u=Value.int i t
 | .str x,u=>∃t,u=Value.str x t
 | .byt b,u=>∃t,u=Value.bytes b t
 | .flt b,u=>∃t,u=Value.float b t
 | .ref a,u=>u=Value.ref a
 | .ty n,u=>u=Value.type n
abbrev Vals:N7->N1->Prop:=Paired RelV
def Vals.length{xs:N7}{us:N1}(r:Vals xs us):xs.length=us.length:=Paired.length r
def Vals.get:∀{xs:N7} {us:N1} {i:Nat} {x:V},Vals xs us->xs[i]?=some x->∃u,us[i]?=some u/\RelV x u
 |_,_,_,_,.nil,e=>by simp at e
 |_,_,0,_,.cons r _,e=>by simp at e;subst e;show {_,rfl,r}
 |_,_,i+1,x,.cons _ t,e=>by obtain ⟨u,h1,h2⟩:=Vals.get (i:=i) (x:=x) t (by simpa using e);show {u,by simpa using h1,h2}
def Vals.set{x:V}{u:Value}(r:RelV x u):∀{xs:N7} {us:N1} (i:Nat),Vals xs us->Vals (xs.set i x) (us.set i u)
 |_,_,_,.nil=>.nil
 |_,_,0,.cons _ t=>.cons r t
 |_,_,i+1,.cons q t=>.cons q (Vals.set r i t)
def Vals.append:∀{xs ys:N7} {us ws:N1},Vals xs us->Vals ys ws->Vals (xs++ys) (us++ws)
 |_,_,_,_,.nil,s=>s
 |_,_,_,_,.cons r t,s=>.cons r (Vals.append t s)
def Vals.take:∀{xs:N7} {us:N1} (n:Nat),Vals xs us->Vals (xs.take n) (us.take n)
 |_,_,0,_=>.nil
 |_,_,_+1,.nil=>.nil
 |_,_,n+1,.cons r t=>.cons r (Vals.take n t)
def Vals.drop:∀{xs:N7} {us:N1} (n:Nat),Vals xs us->Vals (xs.drop n) (us.drop n)
 |_,_,0,r=>r
 |_,_,_+1,.nil=>.nil
 |_,_,n+1,.cons _ t=>Vals.drop n t
def RelO:N8->N6->Prop
 |some v,some u=>RelV v u
 |none,none=>True
 |_,_=>False
def KV{κ:Type}:List (κ×V)->List (κ×Value)->Prop:=Paired λ(p:κ×V) (q:κ×Value)=>p.1=q.1/\RelV p.2 q.2
def kV:Key->V
 | .inl i=>.int i
 | .inr x=>.str x
inductive HO where
 /-- a list -/
 |lst (xs:N7)
 /-- a tuple (never changes) -/
 |tup (xs:N7)
 /-- a dict whose keys are ints and texts;one whose keys are tuples of ints and texts (the empty one is both) -/
 |dK (kvs:List (Key×V)) | dT (kvs:List (List Key×V))
 /-- a set of ints: its members,its size -/
 |set (S:Int->Bool) (n:Nat)
 /-- an instance of the class at C,its dict at dx,its attributes -/
 |ins (C dx:Addr) (fs:List (Str×V))
 /-- the dict of the instance at x -/
 |own (x:Addr)
 /-- the dict of an exception -/
 |xd (fs:List (Str×V))
 /-- a bound method,f of x -/
 |met (f x:Addr)
 /-- a range object lo,lo+1,.. below hi -/
 |rng (lo hi:Int)
 /-- a thing that is known to the object (the script;a dict while a loop walks it): read,never written while it is so -/
 |frz (o:Obj) (u:HO)
 /-- a code object's table -/
 |tbl (ps:Array Value)
 /-- any other thing,by what is true of its one object (a def of one's own: SetO a S n:=HO.ext λh=>..) -/
 |ext (φ:Heap->Prop)
abbrev Hp:=Addr->Option HO
variable {b:Addr} {u:HO}
def upd(H:Hp)(a:Addr)(o:HO):Hp:=λb=>if b=a then some o else H b
def ae{H:Hp}{a:Addr}{o:HO}:upd H a o a=some o:=by unfold upd;rw [zq1 rfl]
def ak{H:Hp}{a:Addr}{o:HO}(h:b≠a):upd H a o b=H b:=by unfold upd;rw [zq0 h]
def F3{H:Hp}{a:Addr}{o:HO}:upd (upd H a o) a u=upd H a u:=by funext b;unfold upd;split<;>rfl
def aO{H:Hp}{a:Addr}{o:HO}(h:H a=some o)(h':H b=some u)(d:o≠u):a≠b:=by intro e;subst e;rw [h] at h';show d (Option.some.inj h')
def au{H:Hp}{a:Addr}{o:HO}(h:H a=some o)(h':H b=none):a≠b:=by intro e;subst e;rw [h] at h';cases h'
section
variable (P:Program) (w:World)
def ObjOk(H:Hp)(h:Heap)(a:Addr):HO->Prop
 | .lst xs=>xs.length<=sizeLine/\∃(its:N1)(n:Nat),Vals xs its/\h.get? a=some {cls:=.type "list",data:=.seq its.toArray n}
 | .tup xs=>xs.length<=sizeLine/\∃its:N1,Vals xs its/\IsTup h a its.toArray
 | .dK kvs=>kvs.length<=sizeLine/\(a==sysModules)=false/\∃vs,KV kvs vs/\h.DictOf (bG P w) a vs
 | .dT kvs=>kvs.length<=sizeLine/\(a==sysModules)=false/\∃xs:List (List Key×Addr×Value),
   Paired (λ(p:List Key×V) (q:List Key×Addr×Value)=>p.1=q.1/\H q.2.1=some (.tup (p.1.map kV))/\RelV p.2 q.2.2) kvs xs/\
   ∃o es ep,h.get? a=some o/\o.ExactDict/\o.data=.dict es ep/\es.toList=xs.map (entryOfKey (tupleKind (bG P w)))/\(xs.map (·.1)).Nodup
 | .set S n=>h.SetOf (intKind P w) a S n
 | .ins C dx fs=>H dx=some (.own a)/\fs.length<=1000/\dx≠a/\h.get? a=some (W.instObj C dx)/\
   ∃mA,h.Ns1 dx mA/\(∀f,RelO (fs.lookup f) (mA f))/\PySem.Within mA (fs.map (·.1))
 | .own _=>∃o,h.get? a=some o
 | .xd fs=>∃mA,h.Ns1 a mA/\∀f,RelO (fs.lookup f) (mA f)
 | .rng lo hi=>∃t u v,h.get? a=some {cls:=.type "range",data:=.fields #[.int lo t,.int hi u,.int 1 v]}
 | .frz o u=>h.get? a=some o/\ObjOk H h a u
 | .tbl ps=>h.get? a=some {cls:=.none,data:=.fields ps}
 | .met f x=>h.get? a=some (W.methodObj (.ref f) (.ref x))
 | .ext φ=>φ h/\(∃o,h.get? a=some o)/\∀h1 h2:Heap,φ h1->(∀o,h1.get? a=some o->h2.get? a=some o)->φ h2
def HOk(H:Hp)(h:Heap):Prop:=∀a o,H a=some o->ObjOk P w H h a o
end
section
variable {P:Program} {w:World} {H H':Hp} {h h':Heap} {a:Addr} {o:HO}
def ObjOk.lt(x:ObjOk P w H h a o):a<h.objs.size:=by
 cases o with
 |lst xs=>obtain ⟨_,_,_,_,e⟩:=x;show cu e
 |tup xs=>obtain ⟨_,_,_,p⟩:=x;show p.lt
 |dK kvs=>obtain ⟨_,_,_,_,o,_,_,e,_⟩:=x;show cu e
 |dT kvs=>obtain ⟨_,_,_,_,o,_,_,e,_⟩:=x;show cu e
 |set S n=>obtain ⟨o,_,_,_,e,_⟩:=x;show cu e
 |ins C dx fs=>obtain ⟨_,_,_,e,_⟩:=x;show cu e
 |own y=>obtain ⟨_,e⟩:=x;show cu e
 |xd fs=>obtain ⟨_,⟨_,_,_,e,_⟩,_⟩:=x;show cu e
 |rng lo hi=>obtain ⟨_,_,_,e⟩:=x;show cu e
 |frz ob u=>obtain ⟨e,_⟩:=x;show cu e
 |tbl ps=>show cu (show h.get? a=some _ from x)
 |met f y=>show cu (show h.get? a=some _ from x)
 |ext φ=>obtain ⟨_,⟨_,e⟩,_⟩:=x;show cu e
def Paired.mapP{α β:Type}{F G:α->β->Prop}:∀{l₁:List α} {l₂:List β},Paired F l₁ l₂->(∀a b,F a b->G a b)->Paired G l₁ l₂
 |_,_,.nil,_=>.nil
 |_,_,.cons r t,f=>.cons (f _ _ r) (Paired.mapP t f)
def Nx:=@Paired.mapP
def ObjOk.stay(x:ObjOk P w H h a o)(k:∀b u,(b=a\/H b=some (.own a))->h.get? b=some u->h'.get? b=some u)
  (ho:∀b,H b=some (.own a)->H' b=some (.own a)) (ht:∀b xs,H b=some (.tup xs)->H' b=some (.tup xs)):ObjOk P w H' h' a o:=by
 induction o with
 |lst xs=>obtain ⟨z,its,n,r,e⟩:=x;show {z,its,n,r,k _ _ (.inl rfl) e}
 |tup xs=>obtain ⟨z,its,r,ob,e,c⟩:=x;show {z,its,r,ob,k _ _ (.inl rfl) e,c}
 |dK kvs=>obtain ⟨z,y,vs,r,ob,es,ep,e,c⟩:=x;show {z,y,vs,r,ob,es,ep,k _ _ (.inl rfl) e,c}
 |dT kvs=>
  obtain ⟨z,y,xs,r,ob,es,ep,e,c⟩:=x;show {z,y,xs,Nx r λp q z=>{z.1,ht _ _ z.2.1,z.2.2},ob,es,ep,k _ _ (.inl rfl) e,c}
 |set S n=>obtain ⟨ob,es,ep,t,e,c⟩:=x;show {ob,es,ep,t,k _ _ (.inl rfl) e,c}
 |ins C dx fs=>
  obtain ⟨d,z,ne,e,mA,⟨od,es,ep,e2,c⟩,r⟩:=x;show {ho _ d,z,ne,k _ _ (.inl rfl) e,mA,{od,es,ep,k _ _ (.inr d) e2,c},r}
 |own y=>obtain ⟨ob,e⟩:=x;show {ob,k _ _ (.inl rfl) e}
 |xd fs=>obtain ⟨mA,⟨od,es,ep,e,c⟩,r⟩:=x;show {mA,{od,es,ep,k _ _ (.inl rfl) e,c},r}
 |rng lo hi=>obtain ⟨t,u,v,e⟩:=x;show {t,u,v,k _ _ (.inl rfl) e}
 |frz ob u ih=>obtain ⟨e,q⟩:=x;show {k _ _ (.inl rfl) e,ih q}
 |tbl ps=>
  let e:h.get? a=some {cls:=.none,data:=.fields ps}:=x;change h'.get? a=some {cls:=.none,data:=.fields ps};show k a _ (.inl rfl) e
 |met f y=>
  let e:h.get? a=some (W.methodObj (.ref f) (.ref y)):=x;change h'.get? a=some (W.methodObj (.ref f) (.ref y));show k a _ (.inl rfl) e
 |ext φ=>obtain ⟨p,⟨o,e⟩,st⟩:=x;show {st _ _ p λo q=>k _ _ (.inl rfl) q,{o,k _ _ (.inl rfl) e},st}
def HOk.lt(x:HOk P w H h)(e:H a=some o):a<h.objs.size:=(x a o e).lt
def HOk.fresh(x:HOk P w H h)(e:h.objs.size<=a):H a=none:=by
 cases q:H a with
 |none=>rfl
 |some u=>show absurd (bT (x.lt q) e) (vh _)
def HOk.kept(x:HOk P w H h)(k:∀b u,h.get? b=some u->h'.get? b=some u):HOk P w H h':=λa o e=>(x a o e).stay (λb u _ q=>k b u q) (λ_ q=>q) λ_ _ q=>q
def HOk.laid(x:HOk P w H h)(k:∀b u,h.get? b=some u->h'.get? b=some u)(hp:h.objs.size<=a)(new:ObjOk P w (upd H a o) h' a o):HOk P w (upd H a o) h':=λb u e=>by
 let hn:=x.fresh hp
 by_cases hb:b=a
 ·subst hb;rw [ae] at e;cases e;show new
 ·rw [ak hb] at e;show (x b u e).stay (λc v _ q=>k c v q) (λc q=>by rw [ak (au q hn)];show q) λc xs q=>by rw [ak (au q hn)];show q
end
def Rd(H:Hp)(a:Addr)(u:HO):Prop:=H a=some u\/∃o,H a=some (.frz o u)
def Rd.ok{P:Program}{w:World}{H:Hp}{h:Heap}{a:Addr}(r:Rd H a u)(x:HOk P w H h):ObjOk P w H h a u:=by
 rcases r with r | ⟨o,r⟩
 ·show x a u r
 ·obtain ⟨_,q⟩:=x a _ r;show q
def Mut:Option HO->Prop
 |some (.lst _)=>True
 |some (.dK _)=>True
 |some (.dT _)=>True
 |some (.set _ _)=>True
 |some (.ins _ _ _)=>True
 |some (.ext _)=>True
 |_=>False
section
variable {P:Program} {w:World} {H:Hp} {h h':Heap} {x e:Addr} {o':HO}
def HOk.write(ok:HOk P w H h)(mu:Mut (H x))(he:e=x\/H e=some (.own x))(k:∀b u,b≠e->h.get? b=some u->h'.get? b=some u)(heo:∃u,h'.get? e=some u)
  (new:ObjOk P w (upd H x o') h' x o'):HOk P w (upd H x o') h':=λb u q=>by
 let nown:∀c y,H c=some (.own y)->c≠x:=λc y r z=>by subst z;rw [r] at mu;show mu
 let ntup:∀c xs,H c=some (.tup xs)->c≠x:=λc xs r z=>by subst z;rw [r] at mu;show mu
 by_cases hb:b=x
 ·subst hb;rw [ae] at q;cases q;show new
 ·rw [ak hb] at q
  by_cases hbe:b=e
  ·let q':H b=some (.own x):=by
    rcases he with z | z
    ·show absurd (hbe.trans z) hb
    ·rw [hbe];show z
   rw [q] at q';cases q';obtain ⟨v,hv⟩:=heo;show {v,by rw [hbe];show hv}
  ·show (ok b u q).stay (λc v hc r=>k c v ?_ r) (λc r=>by rw [ak (nown c b r)];show r) λc xs r=>by rw [ak (ntup c xs r)];show r
   rcases hc with rfl | hc
   ·show hbe
   ·rintro rfl;rcases he with z | z
    ·show nown c b hc z
    ·rw [hc] at z;cases z;show hb rfl
end
structure Un(fs ex:N2)(H H':Hp)(h h':Heap):Prop where
 keep:∀b o,h.get? b=some o->H b=none->b∉fs->b∉ex->h'.get? b=some o
 slot:∀b o,h.get? b=some o->H b=none->b∈fs->b∉ex->∃sl,h'.get? b=some {o with slots:=sl}
 free:∀b o,h.get? b=some o->H b=none->b∉ex->H' b=none
 there:∀b o,h.get? b=some o->b∉ex->∃o',h'.get? b=some o'
 tups:∀b xs,H b=some (.tup xs)->H' b=some (.tup xs)
 frzs:∀b o u,H b=some (.frz o u)->H' b=some (.frz o u)
 tbls:∀b ps,H b=some (.tbl ps)->∃more,H' b=some (.tbl (ps++more))
section
variable {fs fs' ex ex':N2} {H H1 H2:Hp} {h h1 h2 h':Heap} {a x e:Addr} {o:HO}
def Un.any(u:Un fs ex H H1 h h1){ob:Obj}(q:h.get? b=some ob)(n:H b=none)(hx:b∉ex):∃sl,h1.get? b=some {ob with slots:=sl}:=by
 by_cases hb:b∈fs
 ·show u.slot b ob q n hb hx
 ·show {ob.slots,u.keep b ob q n hb hx}
def Un.kept(k:∀b u,h.get? b=some u->h'.get? b=some u):Un fs ex H H h h':=
 {λb ob q _ _ _=>k b ob q,λb ob q _ _ _=>{ob.slots,k b ob q},λ_ _ _ n _=>n,λb ob q _=>{ob,k b ob q},λ_ _ q=>q,λ_ _ _ q=>q,λ_ ps q=>{#[],by rw [q];simp}}
def Un.refl:Un fs ex H H h h:=Un.kept λ_ _ q=>q
def Un.laid(k:∀b u,h.get? b=some u->h'.get? b=some u)(hp:h.objs.size<=a)(hn:H a=none):Un fs ex H (upd H a o) h h' where
 keep:=λb u q _ _ _=>k b u q
 slot:=λb u q _ _ _=>{u.slots,k b u q}
 free:=λb u q n _=>by rw [ak (dG (bT (cu q) hp))];show n
 there:=λb u q _=>{u,k b u q}
 tups:=λb xs q=>by rw [ak (au q hn)];show q
 frzs:=λb u xs q=>by rw [ak (au q hn)];show q
 tbls:=λb ps q=>{#[],by rw [ak (au q hn),q];simp}
def Un.write(mu:Mut (H x))(he:e=x\/H e=some (.own x))(k:∀b u,b≠e->h.get? b=some u->h'.get? b=some u)(heo:∃u,h'.get? e=some u):Un fs ex H (upd H x o) h h':=by
 let hx:∀b,H b=none->b≠x:=λb n z=>by subst z;rw [n] at mu;show mu
 let hb:∀b,H b=none->b≠e:=λb n z=>by
  subst z;rcases he with r | r
  ·show hx b n r
  ·rw [n] at r;cases r
 let hm:∀b u,H b=some u->¬Mut (some u)->b≠x:=λb u q nm z=>by subst z;rw [q] at mu;show nm mu
 show ⟨λb u q n _ _=>k b u (hb b n) q,λb u q n _ _=>{u.slots,k b u (hb b n) q},λb u q n _=>by rw [ak (hx b n)];show n,λb u q _=>?_,
  λb xs q=>by rw [ak (hm b _ q λz=>z)];show q,λb u xs q=>by rw [ak (hm b _ q λz=>z)];show q,λb ps q=>{#[],by rw [ak (hm b _ q λz=>z),q];simp}⟩
 by_cases hbe:b=e
 ·subst hbe;show heo
 ·show {u,k b u hbe q}
end
def trk(h:Heap)(H:Hp):N2:=(List.range h.objs.size).filter λa=>(H a).isSome
def pH(h:Heap)(H:Hp):Heap:=W.hideAll h (trk h H)
def yh(h:Heap)(H:Hp):(pH h H).objs.size=h.objs.size:=W.hideAll_size _ _
def Ak{h:Heap}{H:Hp}{o:Obj}(e:h.get? b=some o)(n:H b=none):(pH h H).get? b=some o:=
 W.hideAll_get _ e λhm=>by let q:(H b).isSome=true:=(zq80.mp hm).2;rw [n] at q;simp at q
def E5{h:Heap}{H:Hp}{o:Obj}(e:(pH h H).get? b=some o):h.get? b=some o/\H b=none:=by
 let e':h.get? b=some o:=W.of_hideAll (trk h H) e;show {e',?_}
 cases q:H b with
 |none=>rfl
 |some x=>have hm:b∈trk h H:=zq80.mpr {zq43.mpr (cu e'),by simp [q]};let z:(pH h H).get? b=none:=W.hideAll_none (trk h H) hm;rw [z] at e;cases e
def Dz(g h:Heap)(L:Addr):List (Addr×Obj):=(List.range h.objs.size).filterMap λa=>if a=L\/(g.get? a).isSome=true then none else (h.get? a).map λo=>(a,o)
def fF(g h:Heap)(L d:Addr):List (Addr×Obj):=(Dz g h L).filter λp=>decide (p.1≠d)
end L2
namespace L2
structure Mod(K:N5)(mg:Str->N6)(base:Heap):Prop where
 kin:K.In base
 glob:base.Ns mainGlobals mg
 blt:∃mb,base.Ns builtinsNs mb/\∀x:Str,x≠"__name__"->mb x=bootBuiltins x
 nolimit:base.NoLimit
structure Cx where
 prog:Program
 w:World
 K:N5
 mg:Str->N6
 base:Heap
 A:Around
 N:N0
 s₀:Shared
 H₀:Hp
 env:Env
 outer:List Env
 stack:List Env
 ex:N2
 fn:Str->Bool
 calm:Bool
 pn:List (Addr×Obj)
 xe:Value->Shared->Prop
def frs(l:List Env):N2:=l.filterMap (·.frame)
abbrev Cx.fs (X:Cx):N2:=frs X.outer
def Vis(sc:Scope)(x:Str):Prop:=sc.names.lookup x=some .local\/sc.names.lookup x=some .cell\/sc.names.lookup x=some .free
def Loc(sc:Scope)(x:Str):Prop:=sc.names.lookup x=some .local\/sc.names.lookup x=some .cell
def M4(env:Env)(h:Heap)(m:Str->N6)(x:Str)(u:Value):Prop:=
 (env.kindOf x=some .local/\m x=some u)\/((env.kindOf x=some .cell\/env.kindOf x=some .free)/\∃c,env.cells.lookup x=some c/\h.IsCell c (some u))
structure Cx.Ok(X:Cx):Prop where
 mod:Mod X.K X.mg X.base
 kind:X.env.scope.kind=.function
 glob:X.env.globals=mainGlobals
 blt:X.env.builtins=builtinsNs
 above:X.s₀.heap.objs.size<=X.env.locals
 inj:∀x y c,X.env.cells.lookup x=some c->X.env.cells.lookup y=some c->x=y
 has:∀x,(X.env.kindOf x=some .cell\/X.env.kindOf x=some .free)->∃c,X.env.cells.lookup x=some c
 cab:∀x c,X.fn x=true->X.env.cells.lookup x=some c->X.s₀.heap.objs.size<=c
 hd:X.calm=true->X.A.handled=none
 frames:X.A.frames=some X.stack
 stk:X.stack=X.outer\/(X.stack=X.env::X.outer/\X.env.frame=some X.env.locals)
 exf:∀b∈X.ex,b≠X.env.locals/\∀x c,X.env.cells.lookup x=some c->c≠b
 bs:∀b o,X.base.get? b=some o->X.s₀.heap.get? b=some o/\X.H₀ b=none
 bsz:X.base.objs.size<=X.s₀.heap.objs.size
 noex:∀b o,X.base.get? b=some o->b∉X.ex
 exfs:∀b∈X.ex,b∉X.fs
 funs:X.s₀.heap.FunFrames X.base X.outer
 frf:∀b∈X.fs,X.H₀ b=none
structure Inv(X:Cx)(pins:List (Addr×Obj))(σ:List N8)(H:Hp)(s:Shared):Prop where
 ok:X.Ok
 os:s.os=X.s₀.os
 bare:AllBare s.gens
 base:Un X.fs X.ex X.H₀ H X.s₀.heap s.heap
 loc:∃m,s.heap.Ns X.env.locals m/\∀(i:Nat)(x:Str)(v:V),X.N[i]?=some x->σ[i]?=some (some v)->Vis X.env.scope x->∃u,RelV v u/\M4 X.env s.heap m x u
 cell:∀x c,X.env.cells.lookup x=some c->∃v,s.heap.IsCell c v
 free:H X.env.locals=none
 freeC:∀x c,X.env.cells.lookup x=some c->H c=none
 pin:∀p∈X.pn++pins,s.heap.get? p.1=some p.2/\H p.1=none/\p.1≠X.env.locals/\p.1∉X.fs/\∀v,p.2.data≠.cell v
 hok:HOk X.prog X.w H s.heap
 len:σ.length=X.N.length
section
variable {X:Cx} {pins:List (Addr×Obj)} {σ:List N8} {H H':Hp} {s:Shared} {h':Heap}
def Cx.Ok.nofr(ok:X.Ok){b:Addr}{o:Obj}(e:X.base.get? b=some o):b∉X.fs:=λhb=>by let this:=(ok.funs.mem hb).1;rw [e] at this;cases this
def Inv.bs(I:Inv X pins σ H s):∀b o,X.base.get? b=some o->s.heap.get? b=some o/\H b=none:=λb o e=>{I.base.keep b o (I.ok.bs b o e).1 (I.ok.bs b o e).2 (I.ok.nofr e) (I.ok.noex b o e),I.base.free b o (I.ok.bs b o e).1 (I.ok.bs b o e).2 (I.ok.noex b o e)}
def Inv.bk(I:Inv X pins σ H s):∀b o,X.base.get? b=some o->s.heap.get? b=some o:=λb o e=>(I.bs b o e).1
def Inv.mod(I:Inv X pins σ H s):Mod X.K X.mg X.base:=I.ok.mod
def Inv.kIn(I:Inv X pins σ H s):X.K.In s.heap:=I.ok.mod.kin.keeps I.bk
def Inv.lt(I:Inv X pins σ H s):X.env.locals<s.heap.objs.size:=let ⟨_,hn,_⟩:=I.loc;hn.lt
def Inv.sz(I:Inv X pins σ H s):X.s₀.heap.objs.size<=s.heap.objs.size:=bF I.ok.above (xD I.lt)
def Inv.nofs(I:Inv X pins σ H s){a:Addr}(h:s.heap.objs.size<=a):a∉X.fs:=λhb=>by obtain ⟨_,o,ho,_⟩:=I.ok.funs.mem hb;show absurd (bT (cu ho) (bF I.sz h)) (vh _)
def Inv.cne(I:Inv X pins σ H s):∀x c,X.env.cells.lookup x=some c->c≠X.env.locals:=λx c e z=>by obtain ⟨v,o,ho,hd⟩:=I.cell x c e;obtain ⟨m,⟨o',es,ep,ho',hd',_⟩,_⟩:=I.loc;rw [z,ho'] at ho;cases ho;rw [hd'] at hd;cases hd
def Inv.funs(I:Inv X pins σ H s):s.heap.FunFrames X.base X.outer:=by
 let all:∀(l:List Env),(∀b∈frs l,b∈X.fs)->X.s₀.heap.FunFrames X.base l->s.heap.FunFrames X.base l:=by
  intro l
  induction l with
  |nil=>intro _ _;trivial
  |cons env r ih=>intro hs hl;obtain ⟨hk,⟨L,o,hf,hn,ho,hd⟩,hr⟩:=hl;let hL:L∈X.fs:=hs L (by unfold frs;rw [CV,hf];show cS);obtain ⟨sl,e⟩:=I.base.slot L o ho (I.ok.frf L hL) hL λz=>I.ok.exfs L z hL;show {hk,{L,_,hf,hn,e,hd},ih (λb hb=>hs b (by unfold frs;rw [CV,hf];show zq8 _ hb)) hr}
 show all X.outer (λ_ hb=>hb) I.ok.funs
def Inv.stack(I:Inv X pins σ H s):s.heap.FunFrames X.base X.stack:=by
 rcases I.ok.stk with e | ⟨e,hf⟩
 ·rw [e];show I.funs
 ·rw [e];obtain ⟨m,hn,_⟩:=I.loc;show .cons (by rw [I.ok.kind];decide) hf hn ?_ I.funs;show Heap.get?_none_of_le (bF I.ok.bsz I.ok.above)
def Inv.stkSub(I:Inv X pins σ H s):∀b∈frs X.stack,b∈X.env.locals::X.fs:=λb hb=>by
 rcases I.ok.stk with e | ⟨e,hf⟩
 ·rw [e] at hb;show zq8 _ hb
 ·rw [e] at hb;unfold frs at hb;rw [CV,hf] at hb;show hb
def Inv.stkFree(I:Inv X pins σ H s):∀b∈frs X.stack,H b=none:=λb hb=>by
 rcases zq9.mp (I.stkSub b hb) with e | hb
 ·rw [e];show I.free
 ·obtain ⟨_,o,ho,_⟩:=I.ok.funs.mem hb;show I.base.free b o ho (I.ok.frf b hb) λz=>I.ok.exfs b z hb
def Inv.step{g':Array GenState}{t':Nat}{d':Drawn}{ch:N2}(I:Inv X pins σ H s)
  (hch:∀b∈ch,(b∈X.ex\/X.s₀.heap.objs.size<=b)/\b≠X.env.locals/\(∀x c,X.env.cells.lookup x=some c->c≠b)/\∀p∈X.pn++pins,p.1≠b)
  (keep:∀b o,b≠X.env.locals->b∉X.fs->b∉ch->s.heap.get? b=some o->H b=none->h'.get? b=some o)
  (slot:∀b o,b≠X.env.locals->b∈X.fs->b∉ch->s.heap.get? b=some o->H b=none->∃sl,h'.get? b=some {o with slots:=sl}) (free:∀b o,b∉ch->s.heap.get? b=some o->H b=none->H' b=none)
  (there:∀b o,b∉ch->s.heap.get? b=some o->∃o',h'.get? b=some o')
  (tups:∀b xs,H b=some (.tup xs)->H' b=some (.tup xs)) (frzs:∀b o u,H b=some (.frz o u)->H' b=some (.frz o u)) (tbls:∀b ps,H b=some (.tbl ps)->∃more,H' b=some (.tbl (ps++more)))
  (ns:∀m,s.heap.Ns X.env.locals m->h'.Ns X.env.locals m) (hok:HOk X.prog X.w H' h') (hg:AllBare g') :
  Inv X pins σ H' {s with heap:=h',gens:=g',drawn:=d',toks:=t'}:=by
 let neL:∀b o,X.s₀.heap.get? b=some o->b≠X.env.locals:=λb o e=>dG (bT (cu e) I.ok.above);let neC:∀b o,X.s₀.heap.get? b=some o->b∉X.ex->b∉ch:=λb o e hx hb=>by
  rcases (hch b hb).1 with z | z
  ·show hx z
  ·show absurd (bT (cu e) z) (vh _)
 let cellK:∀x c,X.env.cells.lookup x=some c->∀v,s.heap.IsCell c v->h'.IsCell c v:=λx c e v ⟨o,ho,hd⟩=>by
  let nch:c∉ch:=λz=>(hch c z).2.2.1 x c e rfl
  by_cases hc:c∈X.fs
  ·obtain ⟨sl,q⟩:=slot c o (I.cne x c e) hc nch ho (I.freeC x c e);show {_,q,hd}
  ·show {o,keep c o (I.cne x c e) hc nch ho (I.freeC x c e),hd}
 show {I.ok,I.os,hg,{λb o e n hb hx=>?_,λb o e n hb hx=>?_,λb o e n hx=>?_,λb o e hx=>?_,λb xs e=>tups b xs (I.base.tups b xs e),λb o xs e=>frzs b o xs (I.base.frzs b o xs e),λb ps e=>?_},?_,λx c e=>?_,?_,λx c e=>?_,λp hp=>?_,hok,I.len}
 ·show keep b o (neL b o e) hb (neC b o e hx) (I.base.keep b o e n hb hx) (I.base.free b o e n hx)
 ·obtain ⟨sl,e1⟩:=I.base.slot b o e n hb hx;obtain ⟨sl',e2⟩:=slot b _ (neL b o e) hb (neC b o e hx) e1 (I.base.free b o e n hx);show ⟨sl',e2⟩
 ·obtain ⟨o',e1⟩:=I.base.there b o e hx;show free b o' (neC b o e hx) e1 (I.base.free b o e n hx)
 ·obtain ⟨o',e1⟩:=I.base.there b o e hx;show there b o' (neC b o e hx) e1
 ·obtain ⟨m1,e1⟩:=I.base.tbls b ps e;obtain ⟨m2,e2⟩:=tbls b _ e1;show {m1++m2,by rw [e2,Array.append_assoc]}
 ·obtain ⟨m,hn,hl⟩:=I.loc;show {m,ns m hn,λi x v e1 e2 e3=>?_};obtain ⟨u,r,l⟩:=hl i x v e1 e2 e3;show {u,r,?_};rcases l with l | ⟨k,c,e,z⟩
  ·show .inl l
  ·show .inr {k,c,e,cellK x c e _ z}
 ·obtain ⟨v,z⟩:=I.cell x c e;show {v,cellK x c e v z}
 ·obtain ⟨m,⟨o,_,_,ho,_⟩,_⟩:=I.loc;show free _ o (λz=>(hch _ z).2.1 rfl) ho I.free
 ·obtain ⟨v,o,ho,hd⟩:=I.cell x c e;show free c o (λz=>(hch c z).2.2.1 x c e rfl) ho (I.freeC x c e)
 ·obtain ⟨e,n,ne,nf,d⟩:=I.pin p hp;let nch:p.1∉ch:=λz=>(hch p.1 z).2.2.2 p hp rfl;show {keep p.1 p.2 ne nf nch e n,free p.1 p.2 nch e n,ne,nf,d}
def Inv.un{t':Nat}(I:Inv X pins σ H s)(u:Un X.fs [] H H' s.heap h')(hok:HOk X.prog X.w H' h'):Inv X pins σ H' {s with heap:=h',toks:=t'}:=by obtain ⟨m,⟨o,es,ep,ho,r⟩,_⟩:=id I.loc;obtain ⟨sl,hL⟩:=u.any ho I.free Oq;show I.step (g':=s.gens) (d':=s.drawn) (ch:=[]) (λ_ z=>nomatch z) (λb o _ hb _ e n=>u.keep b o e n hb Oq) (λb o _ hb _ e n=>u.slot b o e n hb Oq) (λb o _ e n=>u.free b o e n Oq) (λb o _ e=>u.there b o e Oq) u.tups u.frzs u.tbls (λm' hm=>by obtain ⟨o',es',ep',ho',r'⟩:=hm;rw [ho] at ho';cases ho';show {_,es',ep',hL,r'}) hok I.bare
def Inv.call{g':Array GenState}{t':Nat}{d':Drawn}{ch:N2}(I:Inv X pins σ H s)(u:Un (frs X.stack) ch H H' s.heap h')(hok:HOk X.prog X.w H' h')(hg:AllBare g')
  (hch:∀b∈ch,(b∈X.ex\/X.s₀.heap.objs.size<=b)/\b≠X.env.locals/\(∀x c,X.env.cells.lookup x=some c->c≠b)/\∀p∈X.pn++pins,p.1≠b) :
  Inv X pins σ H' {s with heap:=h',gens:=g',drawn:=d',toks:=t'}:=by
 obtain ⟨m,⟨o,es,ep,ho,r⟩,_⟩:=id I.loc;obtain ⟨sl,hL⟩:=u.any ho I.free λz=>(hch _ z).2.1 rfl;show I.step (ch:=ch) hch (λb o hL hb hc e n=>u.keep b o e n (λz=>(zq9.mp (I.stkSub b z)).elim hL hb) hc) (λb o _ _ hc e n=>u.any e n hc) (λb o hc e n=>u.free b o e n hc) (λb o hc e=>u.there b o e hc) u.tups u.frzs u.tbls (λm' hm=>by obtain ⟨o',es',ep',ho',r'⟩:=hm;rw [ho] at ho';cases ho';show {_,es',ep',hL,r'}) hok hg
def Inv.turned{t':Nat}{it:Addr}(I:Inv X pins σ H s)(k:∀b o,b≠it->s.heap.get? b=some o->h'.get? b=some o)(hn:H it=none)(hL:it≠X.env.locals)
  (h1:it∈X.ex\/X.s₀.heap.objs.size<=it) (h2:∀x c,X.env.cells.lookup x=some c->c≠it) (h3:∀p∈X.pn++pins,p.1≠it):Inv X pins σ H {s with heap:=h',toks:=t'}:=by
 let nit:∀b u,H b=some u->b≠it:=λb u e z=>by rw [z,hn] at e;cases e
 show I.step (g':=s.gens) (d':=s.drawn) (ch:=[it]) (λb hb=>?_) (λb o _ _ hc e _=>k b o (λz=>hc (by simp [z])) e) (λb o _ _ hc e _=>{o.slots,k b o (λz=>hc (by simp [z])) e}) (λ_ _ _ _ n=>n)
  (λb o hc e=>{o,k b o (λz=>hc (by simp [z])) e}) (λ_ _ e=>e) (λ_ _ _ e=>e) (λb ps e=>{#[],by rw [e];simp}) (λm hm=>?_) (λb u e=>?_) I.bare
 ·let e:b=it:=by simpa using hb
  subst e;show ⟨h1,hL,h2,h3⟩
 ·obtain ⟨o,es,ep,ho,r⟩:=hm;show {o,es,ep,k _ o (Ne.symm hL) ho,r}
 ·show (I.hok b u e).stay (λc v hc q=>k c v ?_ q) (λ_ q=>q) λ_ _ q=>q;rcases hc with z | z
  ·rw [z];show nit b u e
  ·show nit c _ z
def Inv.tok(I:Inv X pins σ H s)(t:Nat):Inv X pins σ H {s with toks:=t}:=I.un (h':=s.heap) (t':=t) Un.refl I.hok
def Inv.kept{t':Nat}(I:Inv X pins σ H s)(k:∀b u,s.heap.get? b=some u->h'.get? b=some u):Inv X pins σ H {s with heap:=h',toks:=t'}:=I.un (Un.kept k) (I.hok.kept k)
def Inv.laid{a:Addr}{o:HO}{t':Nat}(I:Inv X pins σ H s)(k:∀b u,s.heap.get? b=some u->h'.get? b=some u)(hp:s.heap.objs.size<=a)(new:ObjOk X.prog X.w (upd H a o) h' a o):
  Inv X pins σ (upd H a o) {s with heap:=h',toks:=t'}:=I.un (Un.laid k hp (I.hok.fresh hp)) (I.hok.laid k hp new)
def Inv.write{x e:Addr}{o:HO}{t':Nat}(I:Inv X pins σ H s)(mu:Mut (H x))(he:e=x\/H e=some (.own x))(k:∀b u,b≠e->s.heap.get? b=some u->h'.get? b=some u)(heo:∃u,h'.get? e=some u)
  (new:ObjOk X.prog X.w (upd H x o) h' x o):Inv X pins σ (upd H x o) {s with heap:=h',toks:=t'}:=I.un (Un.write mu he k heo) (I.hok.write mu he k heo new)
def Inv.pins_of{pins':List (Addr×Obj)}(I:Inv X pins σ H s)(h:∀p∈pins',s.heap.get? p.1=some p.2/\H p.1=none/\p.1≠X.env.locals/\p.1∉X.fs/\∀v,p.2.data≠.cell v):Inv X pins' σ H s:=
 {I.ok,I.os,I.bare,I.base,I.loc,I.cell,I.free,I.freeC,λp hp=>(zq27.mp hp).elim (λz=>I.pin p (mS _ z)) (h p),I.hok,I.len}
def rZ{N:N0}(hN:N.Nodup){i j:Nat}{x:Str}(a:N[i]?=some x)(b:N[j]?=some x):i=j:=by obtain ⟨h1,e1⟩:=zq7.mp a;obtain ⟨h2,e2⟩:=zq7.mp b;show (List.getElem_inj hN).mp (e1.trans e2.symm)
def za{M:Model}{A:Around}{E:Value->Shared->Prop}{i:Nat}{x:Str}{v:V}{u:Value}{Q:Unit->Shared->Prop}(I:Inv X pins σ H s)(hN:X.N.Nodup)(hi:X.N[i]?=some x)(hx:Loc X.env.scope x)(r:RelV v u)
  (h:∀s',Inv X pins (σ.set i (some v)) H s'->(∃a,Heap.SameBut a s.heap s'.heap/\(a=X.env.locals\/X.env.cells.lookup x=some a))->Q () s') (hf:X.fn x=true\/X.env.scope.names.lookup x=some .local:=by first | show .inl rfl | show .inr rfl | assumption):wpAny M A (storeName X.env x u) Q E s:=by
 obtain ⟨m,hn,hl⟩:=id I.loc;let hcls:(X.env.scope.kind==.class || (X.env.scope.kind==.module&&X.env.locals != X.env.globals))=false:=by rw [I.ok.kind];rfl
 let hiσ:i<σ.length:=by rw [I.len];show (zq7.mp hi).1
 let cne:=I.cne;let tracked:∀{a:Addr} {h':Heap},(∃o,s.heap.get? a=some o/\H a=none)->Heap.SameBut a s.heap h'->HOk X.prog X.w H h':=λ{a h'} ha hs b ob e=>by
  obtain ⟨_,_,hfree⟩:=ha;show (I.hok b ob e).stay (λc w' hc q=>(hs.2 c ?_).trans q) (λ_ q=>q) λ_ _ q=>q;rintro rfl;rcases hc with rfl | hc
  ·rw [hfree] at e;cases e
  ·rw [hfree] at hc;cases hc
 rcases hx with hk | hk
 ·show wpAny_storeName_local hk hn (λh' hn' hs=>?_) hcls;obtain ⟨oL,_,_,hoL,_⟩:=id hn;show h _ {I.ok,I.os,I.bare,{λb o e n hb hx=>?_,λb o e n hb hx=>?_,I.base.free,λb o e hx=>?_,I.base.tups,I.base.frzs,I.base.tbls},{_,hn',λj y v' e1 e2 e3=>?_},λy c e=>?_,I.free,I.freeC,λp hp=>?_,tracked ⟨oL,hoL,I.free⟩ hs,by simpa using I.len} {_,hs,.inl rfl}
  ·show (hs.2 b (dG (bT (cu e) I.ok.above))).trans (I.base.keep b o e n hb hx)
  ·obtain ⟨sl,e1⟩:=I.base.slot b o e n hb hx;show {sl,(hs.2 b (dG (bT (cu e) I.ok.above))).trans e1}
  ·obtain ⟨o',e1⟩:=I.base.there b o e hx;show {o',(hs.2 b (dG (bT (cu e) I.ok.above))).trans e1}
  ·by_cases hj:j=i
   ·subst hj;rw [hi] at e1;cases e1;rw [xE hiσ] at e2
    cases e2
    show {u,r,.inl ⟨hk,Oq⟩}
   ·rw [Ds (Ne.symm hj)] at e2;obtain ⟨u',r',q⟩:=hl j y v' e1 e2 e3;show {u',r',?_};rcases q with ⟨k,e⟩ | ⟨k,c,e,z⟩
    ·show .inl {k,?_};let this:y≠x:=λe=>hj (rZ hN e1 (e ▸ hi));simp [this,e]
    ·show .inr {k,c,e,z.sameBut hs (cne y c e)}
  ·obtain ⟨w',z⟩:=I.cell y c e;show {w',z.sameBut hs (cne y c e)}
  ·obtain ⟨e,n,ne,nf,d⟩:=I.pin p hp;show {(hs.2 p.1 ne).trans e,n,ne,nf,d}
 ·let hfn:X.fn x=true:=by
   rcases hf with z | z
   ·show z
   ·rw [z] at hk;cases hk
  obtain ⟨c,hc⟩:=I.ok.has x (.inl hk);obtain ⟨w',z⟩:=I.cell x c hc;show wpAny_storeName_cell I.ok.kind hk hc z (λh' hc' hs=>?_);obtain ⟨oc,hoc,hocd⟩:=id z;show h {s with heap:=h'} {I.ok,I.os,I.bare,{λb o e n hb hx=>?_,λb o e n hb hx=>?_,I.base.free,λb o e hx=>?_,I.base.tups,I.base.frzs,I.base.tbls},{m,hn.sameBut hs (Ne.symm (cne x c hc)),λj y v' e1 e2 e3=>?_},λy c' e=>?_,I.free,I.freeC,λp hp=>?_,tracked {oc,hoc,I.freeC x c hc} hs,by simpa using I.len} {c,hs,.inr hc}
  ·show (hs.2 b (dG (bT (cu e) (I.ok.cab x c hfn hc)))).trans (I.base.keep b o e n hb hx)
  ·obtain ⟨sl,e1⟩:=I.base.slot b o e n hb hx;show {sl,(hs.2 b (dG (bT (cu e) (I.ok.cab x c hfn hc)))).trans e1}
  ·obtain ⟨o',e1⟩:=I.base.there b o e hx;show {o',(hs.2 b (dG (bT (cu e) (I.ok.cab x c hfn hc)))).trans e1}
  ·by_cases hj:j=i
   ·subst hj;rw [hi] at e1;cases e1;rw [xE hiσ] at e2
    cases e2
    show {u,r,.inr {.inl hk,c,hc,hc'}}
   ·rw [Ds (Ne.symm hj)] at e2;obtain ⟨u',r',q⟩:=hl j y v' e1 e2 e3;show {u',r',?_};rcases q with q | ⟨k,c',e,z'⟩
    ·show .inl q
    ·show .inr {k,c',e,z'.sameBut hs ?_};rintro rfl;show hj (rZ hN e1 (I.ok.inj _ _ _ e hc ▸ hi))
  ·by_cases hcc:c'=c
   ·subst hcc;show {_,hc'}
   ·obtain ⟨w2,z2⟩:=I.cell y c' e;show {w2,z2.sameBut hs hcc}
  ·obtain ⟨e,n,ne,nf,d⟩:=I.pin p hp;show {(hs.2 p.1 ?_).trans e,n,ne,nf,d};intro q;rw [q,hoc] at e;let q':oc=p.2:=Option.some.inj e;show d w' (by rw [<- q'];show hocd)
def tm{M:Model}{A:Around}{E:Value->Shared->Prop}{i:Nat}{x:Str}{v:V}{u:Value}{Q:Unit->Shared->Prop}(I:Inv X pins σ H s)(hN:X.N.Nodup)(hi:X.N[i]?=some x)(hx:Loc X.env.scope x)(r:RelV v u)
  (h:∀s',Inv X pins (σ.set i (some v)) H s'->Q () s') (hf:X.fn x=true\/X.env.scope.names.lookup x=some .local:=by first | show .inl rfl | show .inr rfl | assumption):wpAny M A (storeName X.env x u) Q E s:=
 za I hN hi hx r (λs' I' _=>h s' I') hf
def Inv.call'{s':Shared}{ch:N2}(I:Inv X pins σ H s)(ho:s'.os=s.os)(u:Un (frs X.stack) ch H H' s.heap s'.heap)(hok:HOk X.prog X.w H' s'.heap)(hg:AllBare s'.gens)
  (hch:∀b∈ch,(b∈X.ex\/X.s₀.heap.objs.size<=b)/\b≠X.env.locals/\(∀x c,X.env.cells.lookup x=some c->c≠b)/\∀p∈X.pn++pins,p.1≠b):Inv X pins σ H' s':=by
 obtain ⟨h',g',d',t',o'⟩:=s';let e:o'=s.os:=ho;subst e;show I.call (g':=g') (t':=t') (d':=d') u hok hg hch
end
abbrev XK:=Value->Option Addr->Hp->Prop
abbrev St:=List N8
abbrev VK:=V->Hp->Prop
abbrev TE:=St->Hp->VK->Prop
abbrev TT:=St->Hp->(Bool->Hp->Prop)->Prop
abbrev TA:=St->Hp->(N7->Hp->Prop)->Prop
structure dJ where
 nx:St->Hp->Prop
 rt:VK
 bk:St->Hp->Prop:=λ_ _=>False
 ct:St->Hp->Prop:=λ_ _=>False
abbrev TS:=dJ->St->Hp->Prop
def EP(X:Cx)(pins:List (Addr×Obj))(σ:St)(Q:VK)(u:Value)(s':Shared):Prop:=∃v H',Inv X pins σ H' s'/\RelV v u/\Q v H'
def TP(X:Cx)(pins:List (Addr×Obj))(σ:St)(Q:Bool->Hp->Prop)(b:Bool)(s':Shared):Prop:=∃H',Inv X pins σ H' s'/\Q b H'
def AP(X:Cx)(pins:List (Addr×Obj))(σ:St)(Q:N7->Hp->Prop)(us:N1)(s':Shared):Prop:=∃vs H',Inv X pins σ H' s'/\Vals vs us/\Q vs H'
def SP(X:Cx)(pins:List (Addr×Obj))(D:dJ)(f:Flow)(s':Shared):Prop:=
 match f with
 | .next=>∃σ' H',Inv X pins σ' H' s'/\D.nx σ' H'
 | .brk=>∃σ' H',Inv X pins σ' H' s'/\D.bk σ' H'
 | .cont=>∃σ' H',Inv X pins σ' H' s'/\D.ct σ' H'
 | .ret u=>∃v σ' H',Inv X pins σ' H' s'/\RelV v u/\D.rt v H'
def PE(X:Cx)(e:Expr)(t:TE):Prop:=
 ∀(pins:List (Addr×Obj)) (s:Shared) (σ:St) (H:Hp) (Q:VK),Inv X pins σ H s->t σ H Q->wpAny (model X.prog X.w) X.A (eval e X.env) (EP X pins σ Q) X.xe s
def PT(X:Cx)(e:Expr)(t:TT):Prop:=
 ∀(pins:List (Addr×Obj)) (s:Shared) (σ:St) (H:Hp) (Q:Bool->Hp->Prop),Inv X pins σ H s->t σ H Q->wpAny (model X.prog X.w) X.A (isTrue e X.env (eval e X.env)) (TP X pins σ Q) X.xe s
def PW(X:Cx)(e:Expr)(t:TT):Prop:=
 ∀(whole:Sem Value)(pins:List (Addr×Obj)) (s:Shared) (σ:St) (H:Hp) (Q:Bool->Hp->Prop),Inv X pins σ H s->t σ H Q->wpAny (model X.prog X.w) X.A (isTrue e X.env whole) (TP X pins σ Q) X.xe s
def PW.pt{X:Cx}{e:Expr}{t:TT}(h:PW X e t):PT X e t:=h _
def PA(X:Cx)(es:N4)(t:TA):Prop:=
 ∀(pos:Pos)(pins:List (Addr×Obj)) (s:Shared) (σ:St) (H:Hp) (Q:N7->Hp->Prop),Inv X pins σ H s->t σ H Q->wpAny (model X.prog X.w) X.A (spliced (backTo pos (starEach es X.env))) (AP X pins σ Q) X.xe s
def PS(X:Cx)(st:Stmt)(t:TS):Prop:=
 ∀(pins:List (Addr×Obj)) (s:Shared) (σ:St) (H:Hp) (D:dJ),Inv X pins σ H s->t D σ H->wpAny (model X.prog X.w) X.A (exec st X.env) (SP X pins D) X.xe s
def PSs(X:Cx)(st:List Stmt)(t:TS):Prop:=
 ∀(pins:List (Addr×Obj)) (s:Shared) (σ:St) (H:Hp) (D:dJ),Inv X pins σ H s->t D σ H->wpAny (model X.prog X.w) X.A (execs st X.env) (SP X pins D) X.xe s
def thn{α:Type}{t:Sem α}{Q Q':α->Shared->Prop}{M:Model}{A:Around}{E:Value->Shared->Prop}{s:Shared}(h:wpAny M A t Q E s)(hQ:∀a s,Q a s->Q' a s):wpAny M A t Q' E s:=jn h hQ λ_ _ x=>x
end L2
namespace L2
variable {u:Value} {x:Str}
section
variable {X:Cx}
def bin{a b:Expr}{ta tb:TE}(ha:PE X a ta)(hb:PE X b tb){pins:List (Addr×Obj)}{s:Shared}{σ:St}{H:Hp}{R:V->V->Hp->Prop}(I:Inv X pins σ H s)(h:ta σ H λx H1=>tb σ H1 λy H2=>R x y H2)
  {α:Type} {Q:α->Shared->Prop} {f:Value->Value->Sem α}
  (hf:∀v u s2 x y H2,Inv X pins σ H2 s2->RelV x v->RelV y u->R x y H2->wpAny (model X.prog X.w) X.A (f v u) Q X.xe s2) :
  wpAny (model X.prog X.w) X.A (eval a X.env) (λv s₁=>wpAny (model X.prog X.w) X.A (eval b X.env) (λu s₂=>wpAny (model X.prog X.w) X.A (f v u) Q X.xe s₂) X.xe s₁) X.xe s:=by
 show thn (ha pins s σ H _ I h) λv s1 hhx=>?_;obtain ⟨x,H1,I1,r1,q1⟩:=hhx;show thn (hb pins s1 σ H1 _ I1 q1) λu s2 hhx=>?_;obtain ⟨y,H2,I2,r2,q2⟩:=hhx;show hf v u s2 x y H2 I2 r1 r2 q2
def IG(i:Nat):TE:=λσ H Q=>∃v,σ[i]?=some (some v)/\Q v H
def tC(v:V):TE:=λ_ H Q=>Q v H
def Ht{i:Nat}{pos:Pos}(hN:X.N[i]?=some x)(hv:Vis X.env.scope x)(hd:(x==("__debug__":Str))=false:=by decide) (hcd:(x==("__classdict__":Str))=false:=by decide):PE X (.Name x pos) (IG i):=by
 intro pins s σ H Q I h;obtain ⟨v,e,h⟩:=h;obtain ⟨m,hn,hl⟩:=I.loc;obtain ⟨u,r,l⟩:=hl i x v hN e hv;let fin:EP X pins σ Q u s:=⟨v,H,I,r,h⟩
 rcases l with ⟨hk,hm⟩ | ⟨hk,c,hc,hcell⟩
 ·show wpAny_Name (wpAny_loadName_local I.ok.kind hk hn hm fin) hd
 ·rcases hk with hk | hk
  ·show wpAny_Name (wpAny_loadName_cell I.ok.kind hk hc hcell fin) hd
  ·show wpAny_Name (wpAny_loadName_free I.ok.kind hk hc hcell fin hcd) hd
def Ba{i j pos}:PE X (.Constant (.int i) j pos) (tC (.int i)):=λ_ _ _ H _ I h=>wpAny_Constant_int {.int i,H,I.tok _,{_,rfl},h}
def Fq{b j pos}:PE X (.Constant (.bool b) j pos) (tC (.bl b)):=λ_ _ _ H _ I h=>Constant_bool {.bl b,H,I,rfl,h}
def Bd{j pos}:PE X (.Constant .none j pos) (tC .non):=λ_ _ _ H _ I h=>Constant_none {.non,H,I,rfl,h}
def Be{x j pos}:PE X (.Constant (.str x) j pos) (tC (.str x)):=λ_ _ _ H _ I h=>Calls.Constant_str {.str x,H,I.tok _,{_,rfl},h}
def Gl(X:Cx)(x:Str):Prop:=X.env.kindOf x=some .globalImplicit
def iZ{E:Value->Shared->Prop}{pins:List (Addr×Obj)}{s:Shared}{σ:St}{H:Hp}{pos:Pos}{Q:Value->Shared->Prop}(I:Inv X pins σ H s)(hg:Gl X x)(hm:X.mg x=some u)(h:Q u s)
 (hd:(x==("__debug__":Str))=false:=by decide):wpAny (model X.prog X.w) X.A (eval (.Name x pos) X.env) Q E s:=
 Calls.Name_function_global I.ok.kind hg (Calls.loadGlobal_global (by rw [I.ok.glob];show I.mod.glob.keeps I.bk) hm h) hd
def fD{E:Value->Shared->Prop}{pins:List (Addr×Obj)}{s:Shared}{σ:St}{H:Hp}{pos:Pos}{Q:Value->Shared->Prop}(I:Inv X pins σ H s)(hg:Gl X x)(hm:X.mg x=none)(hv:bootBuiltins x=some u)(h:Q u s)
 (hn:x≠"__name__":=by decide) (hd:(x==("__debug__":Str))=false:=by decide):wpAny (model X.prog X.w) X.A (eval (.Name x pos) X.env) Q E s:=by
 obtain ⟨mb,h1,h2⟩:=I.mod.blt;show Calls.Name_function_global I.ok.kind hg (Calls.loadGlobal_builtin (by rw [I.ok.glob];show I.mod.glob.keeps I.bk) hm (by rw [I.ok.blt];show h1.keeps I.bk) ((h2 x hn).trans hv) h) hd
def Em{v:V}{pos:Pos}(hg:Gl X x)(hm:X.mg x=some u)(r:RelV v u)(hd:(x==("__debug__":Str))=false:=by decide):PE X (.Name x pos) (tC v):=
 λ_ _ _ H _ I h=>iZ I hg hm ⟨v,H,I,r,h⟩ hd
def El{v:V}{pos:Pos}(hg:Gl X x)(hm:X.mg x=none)(hv:bootBuiltins x=some u)(r:RelV v u)(hn:x≠"__name__":=by decide) (hd:(x==("__debug__":Str))=false:=by decide):PE X (.Name x pos) (tC v):=
 λ_ _ _ H _ I h=>fD I hg hm hv ⟨v,H,I,r,h⟩ hn hd
variable {a b:Expr} {ta tb:TE} {pos:Pos}
def PC(X:Cx)(op:CmpOp)(a b:Expr)(t:TE):Prop:=
 ∀(pins:List (Addr×Obj)) (s:Shared) (σ:St) (H:Hp) (Q:VK),Inv X pins σ H s->t σ H Q->
  wpAny (model X.prog X.w) X.A (eval a X.env) (λv s₁=>wpAny (model X.prog X.w) X.A (eval b X.env) (λu s₂=>wpAny (model X.prog X.w) X.A (compareOp op v u) (EP X pins σ Q) X.xe s₂) X.xe s₁) X.xe s
def AM(b:Expr){op:CmpOp}(h:op≠.In)(h2:op≠.NotIn):behindInMarks op b=false:=by
 let e1:(op==CmpOp.In)=false:=by cases op<;>first | rfl | show absurd rfl h
 let e2:(op==CmpOp.NotIn)=false:=by cases op<;>first | rfl | show absurd rfl h2
 cases b<;>simp [behindInMarks,e1,e2]
def tB(t:TE):TT:=λσ H Q=>t σ H λx H1=>∃c,x=.bl c/\Q c H1
variable {tA tB':TT} {fF:N4}
def LN(t u:TT):TT:=λσ H Q=>t σ H λc H1=>if c=true then u σ H1 Q else Q false H1
def tOr(t u:TT):TT:=λσ H Q=>t σ H λc H1=>if c=true then Q true H1 else u σ H1 Q
def LQ(t:TT):TT:=λσ H Q=>t σ H λc H1=>Q (! c) H1
def FU(ta tb:TE):TE:=λσ H Q=>ta σ H λx H1=>∃c,x=.bl c/\if c=true then tb σ H1 Q else Q (.bl false) H1
def LR(ta tb:TE):TE:=λσ H Q=>ta σ H λx H1=>∃c,x=.bl c/\if c=true then Q (.bl true) H1 else tb σ H1 Q
def G1(ta:TE):TE:=λσ H Q=>ta σ H λx H1=>∃c,x=.bl c/\Q (.bl (! c)) H1
def tIf(t:TT)(ta tb:TE):TE:=λσ H Q=>t σ H λc H1=>if c=true then ta σ H1 Q else tb σ H1 Q
end
end L2
namespace L2
def SqL(K:N5)(H:Hp)(a:Addr)(xs:N7):Prop:=
 Rd H a (.lst xs)\/
  ∃(o:Obj)(its:Array Value)(n:Nat),K.lookup a=some o/\o.cls=.type "list"/\o.dict=none/\o.data=.seq its n/\its.size<=sizeLine/\Vals xs its.toList
def SqT(K:N5)(H:Hp)(a:Addr)(xs:N7):Prop:=
 Rd H a (.tup xs)\/
  ∃(o:Obj)(its:Array Value)(n:Nat),K.lookup a=some o/\o.cls=.type "tuple"/\o.data=.seq its n/\its.size<=sizeLine/\Vals xs its.toList
def M5:Value->N8
 | .none=>some .non
 | .bool b=>some (.bl b)
 | .int i _=>some (.int i)
 | .str x _=>some (.str x)
 | .bytes b _=>some (.byt b)
 | .float b _=>some (.flt b)
 | .ref a=>some (.ref a)
 | .type n=>some (.ty n)
 |_=>none
def RelV.abs{x:V}{u:Value}(r:RelV x u):M5 u=some x:=by
 cases x with
 |non=>cases r;rfl
 |bl _=>cases r;rfl
 |int _=>obtain ⟨t,rfl⟩:=r;rfl
 |str _=>obtain ⟨t,rfl⟩:=r;rfl
 |byt _=>obtain ⟨t,rfl⟩:=r;rfl
 |flt _=>obtain ⟨t,rfl⟩:=r;rfl
 |ref _=>cases r;rfl
 |ty _=>cases r;rfl
def RelV.inj{x y:V}{u:Value}(r:RelV x u)(q:RelV y u):x=y:=Option.some.inj (r.abs.symm.trans q.abs)
def Vals.inj:∀{xs ys:N7} {us:N1},Vals xs us->Vals ys us->xs=ys
 |_,_,_,.nil,.nil=>rfl
 |_,_,_,.cons r t,.cons r' t'=>by rw [r.inj r',Vals.inj t t']
section
variable {X:Cx} {pins:List (Addr×Obj)} {σ:St} {H:Hp} {s:Shared} {a:Addr} {xs ys:N7}
def SqL.of{K:N5}(h:H a=some (.lst xs)):SqL K H a xs:=.inl (.inl h)
def Nh:=@SqL.of
def SqT.of{K:N5}(h:H a=some (.tup xs)):SqT K H a xs:=.inl (.inl h)
def Nl:=@SqT.of
def Inv.list(I:Inv X pins σ H s)(h:SqL X.K H a xs):∃its:N1,Vals xs its/\PlainL s.heap a its.toArray/\xs.length<=sizeLine:=by
 rcases h with h | ⟨o,its,n,hk,hc,hd,hs,hz,r⟩
 ·obtain ⟨z,its,n,r,e⟩:=h.ok I.hok;show {its,r,{_,n,e,rfl,rfl,rfl},z}
 ·show {its.toList,r,{o,n,I.kIn a o hk,hc,hd,by simpa using hs},?_};let e:=r.length;simp only [Array.length_toList] at e;omega
def Inv.tuple(I:Inv X pins σ H s)(h:SqT X.K H a xs):∃its:N1,Vals xs its/\IsTup s.heap a its.toArray/\xs.length<=sizeLine:=by
 rcases h with h | ⟨o,its,n,hk,hc,hs,hz,r⟩
 ·obtain ⟨z,its,r,p⟩:=h.ok I.hok;show ⟨its,r,p,z⟩
 ·show {its.toList,r,{o,I.kIn a o hk,hc,n,by simpa using hs},?_};let e:=r.length;simp only [Array.length_toList] at e;omega
def Inv.list_inj(I:Inv X pins σ H s)(h:SqL X.K H a xs)(h':SqL X.K H a ys):xs=ys:=by
 obtain ⟨its,r,⟨o,n,e,_,_,d⟩,_⟩:=I.list h;obtain ⟨its',r',⟨o',n',e',_,_,d'⟩,_⟩:=I.list h';rw [e] at e';cases e';rw [d] at d';injection d' with d1 _;let this:its=its':=by simpa using congrArg Array.toList d1
 subst this;show r.inj r'
def Inv.tuple_inj(I:Inv X pins σ H s)(h:SqT X.K H a xs)(h':SqT X.K H a ys):xs=ys:=by
 obtain ⟨its,r,⟨o,e,_,n,d⟩,_⟩:=I.tuple h;obtain ⟨its',r',⟨o',e',_,n',d'⟩,_⟩:=I.tuple h';rw [e] at e';cases e';rw [d] at d';injection d' with d1 _;let this:its=its':=by simpa using congrArg Array.toList d1
 subst this;show r.inj r'
end
abbrev Cx.wish (X:Cx) (E:Value->Shared->Prop):Cx:={X with xe:=E}
abbrev Cx.nox (X:Cx):Cx:=X.wish λ_ _=>False
def Cx.Ok.wish{X:Cx}(ok:X.Ok)(E:Value->Shared->Prop):(X.wish E).Ok:=
 ⟨ok.mod,ok.kind,ok.glob,ok.blt,ok.above,ok.inj,ok.has,ok.cab,ok.hd,ok.frames,ok.stk,ok.exf,ok.bs,ok.bsz,ok.noex,ok.exfs,ok.funs,ok.frf⟩
def Cx.Ok.unwish{X:Cx}{E:Value->Shared->Prop}(ok:(X.wish E).Ok):X.Ok:=
 ⟨ok.mod,ok.kind,ok.glob,ok.blt,ok.above,ok.inj,ok.has,ok.cab,ok.hd,ok.frames,ok.stk,ok.exf,ok.bs,ok.bsz,ok.noex,ok.exfs,ok.funs,ok.frf⟩
section
variable {X:Cx} {pins:List (Addr×Obj)} {σ:St} {H:Hp} {s:Shared} {E:Value->Shared->Prop}
def Inv.wish(I:Inv X pins σ H s)(E:Value->Shared->Prop):Inv (X.wish E) pins σ H s:={I.ok.wish E,I.os,I.bare,I.base,I.loc,I.cell,I.free,I.freeC,I.pin,I.hok,I.len}
def Inv.unwish(I:Inv (X.wish E) pins σ H s):Inv X pins σ H s:=⟨I.ok.unwish,I.os,I.bare,I.base,I.loc,I.cell,I.free,I.freeC,I.pin,I.hok,I.len⟩
def SP.unwish{D:dJ}{f:Flow}{s':Shared}(h:SP (X.wish E) pins D f s'):SP X pins D f s':=by
 cases f with
 |next=>obtain ⟨σ',H',I,q⟩:=h;show ⟨σ',H',I.unwish,q⟩
 |brk=>obtain ⟨σ',H',I,q⟩:=h;show ⟨σ',H',I.unwish,q⟩
 |cont=>obtain ⟨σ',H',I,q⟩:=h;show ⟨σ',H',I.unwish,q⟩
 |ret u=>obtain ⟨v,σ',H',I,r,q⟩:=h;show ⟨v,σ',H',I.unwish,r,q⟩
def PSs.nox{st:List Stmt}{t:TS}(h:PSs X.nox st t):PSs X st t:=λpins s σ H D I hw=>jn (h pins s σ H D (I.wish _) hw) (λ_ _ q=>q.unwish) λ_ _ z=>False.elim z
end
section
variable {X:Cx} {st:Stmt} {fF:List Stmt} {t u:TS} {e:Expr} {te:TE} {pos:Pos}
def G0:TS:=λD σ H=>D.nx σ H
def CB(t u:TS):TS:=λD σ H=>t {D with nx:=u D} σ H
def Inv.quiet{pins:List (Addr×Obj)}{σ:St}{H:Hp}{s:Shared}(I:Inv X pins σ H s):interactive X.env=false:=by simp [interactive,I.ok.kind]
def FY(te:TE):TS:=λD σ H=>te σ H λ_ H1=>D.nx σ H1
def CA(te:TE):TS:=λD σ H=>te σ H D.rt
def IE(c:TT)(t u:TS):TS:=λD σ H=>c σ H λb H1=>if b=true then t D σ H1 else u D σ H1
end
abbrev TG:=V->St->Hp->(St->Hp->Prop)->Prop
abbrev TGs:=N7->St->Hp->(St->Hp->Prop)->Prop
def PG(X:Cx)(target:Expr)(t:TG):Prop:=
 ∀(pins:List (Addr×Obj)) (s:Shared) (σ:St) (H:Hp) (v:V) (u:Value) (Q:St->Hp->Prop),Inv X pins σ H s->RelV v u->t v σ H Q->
  wpAny (model X.prog X.w) X.A (assign target X.env u) (λ_ s'=>∃σ' H',Inv X pins σ' H' s'/\Q σ' H') X.xe s
def PGs(X:Cx)(ts:N4)(t:TGs):Prop:=
 ∀(pins:List (Addr×Obj)) (s:Shared) (σ:St) (H:Hp) (vs:N7) (us:N1) (Q:St->Hp->Prop),Inv X pins σ H s->Vals vs us->t vs σ H Q->
  wpAny (model X.prog X.w) X.A (assignInOrder ((assignEach ts X.env).map (·.2)) us) (λ_ s'=>∃σ' H',Inv X pins σ' H' s'/\Q σ' H') X.xe s
abbrev zC:=V->V->V->Hp->(Hp->Prop)->Prop
def Gm(X:Cx)(t:zC):Prop:=
 ∀(pins:List (Addr×Obj)) (s:Shared) (σ:St) (H:Hp) (o i v:V) (ov iv u:Value) (Q:Hp->Prop),Inv X pins σ H s->RelV o ov->RelV i iv->RelV v u->t o i v H Q->
  wpAny (model X.prog X.w) X.A (setItem ov iv u) (λ_ s'=>∃H',Inv X pins σ H' s'/\Q H') X.xe s
section
variable {X:Cx} {pos:Pos}
def bI(i:Nat):TG:=λv σ H Q=>Q (σ.set i (some v)) H
def wM{i:Nat}{x:Str}(hN:X.N.Nodup)(hi:X.N[i]?=some x)(hx:Loc X.env.scope x)(hf:X.fn x=true\/X.env.scope.names.lookup x=some .local:=by first | show .inl rfl | show .inr rfl | assumption):PG X (.Name x pos) (bI i):=by intro pins s σ H v u Q I r h;show wpAny_assign_Name (tm I hN hi hx r (λs' I'=>{_,H,I',h}) hf)
def Ag:TGs:=λvs σ H Q=>vs=[]/\Q σ H
def jZ(t:TG)(u:TGs):TGs:=λvs σ H Q=>∃v r,vs=v::r/\t v σ H λσ' H'=>u r σ' H' Q
def Ah(K:N5)(n:Nat)(t:TGs):TG:=λv σ H Q=>∃a xs,v=.ref a/\SqT K H a xs/\xs.length=n/\t xs σ H Q
def GC(to ti:TE)(t:zC):TG:=λv σ H Q=>to σ H λo H1=>ti σ H1 λi H2=>t o i v H2 λH3=>Q σ H3
def Hu{o i:Expr}{to ti:TE}{t:zC}(ho:PE X o to)(hi:PE X i ti)(hs:Gm X t)
  (ha:∀v,assign (.Subscript o i pos) X.env v=(do
   let ov <- holding [v] (eval o X.env)
   let iv <- holding [v,ov] (eval i X.env)
   standAt pos
   holding [v,ov,iv] (setItem ov iv v)
   release [v,ov,iv] []):=by intro _;rfl):PG X (.Subscript o i pos) (GC to ti t):=by
 intro pins s σ H v u Q I r h;rw [ha];show zq2 (vi (thn (ho pins s σ H _ I h) λov s1 hhx=>?_));obtain ⟨x,H1,I1,r1,q1⟩:=hhx;show zq2 (vi (thn (hi pins s1 σ H1 _ I1 q1) λiv s2 hhx=>?_));obtain ⟨y,H2,I2,r2,q2⟩:=hhx;show zq2 (wpAny_standAt (zq2 (vi (thn (hs pins s2 σ H2 x y v ov iv u _ I2 r1 r2 r q2) λ_ s3 hhx=>?_))));obtain ⟨H3,I3,q3⟩:=hhx;show wpAny_release ⟨σ,H3,I3,q3⟩
def F1(te:TE)(g:TG):TS:=λD σ H=>te σ H λx H1=>g x σ H1 D.nx
def Hy{i:Nat}{x:Str}{e:Expr}{te:TE}{pos':Pos}(hN:X.N.Nodup)(hi:X.N[i]?=some x)(hx:Loc X.env.scope x)(he:PE X e te)(hs:swapsWith e (some (.Name x pos')) pos.line X.env=pure false:=by rfl)(hf:X.fn x=true\/X.env.scope.names.lookup x=some .local:=by first | show .inl rfl | show .inr rfl | assumption):
  PS X (.Assign [.Name x pos'] e pos) (F1 te (bI i)):=by
 intro pins s σ H D I h;show wpAny_Assign_Name (thn (he pins s σ H _ I h) λv s1 hhx=>?_) hs;obtain ⟨y,H1,I1,r1,q1⟩:=hhx;show tm I1 hN hi hx r1 (λs2 I2=>{_,H1,I2,q1}) hf
end
section
variable {X:Cx} {pos:Pos}
def IH(c:TT)(tb:TS):TS:=λD σ H=>∃W:Nat->St->Hp->Prop,(∃m,W m σ H)/\∀m σ H,W m σ H->
 c σ H λb H1=>if b=true then ∃N:St->Hp->Prop,(∀σ' H',N σ' H'->∃m',m'<m/\W m' σ' H')/\tb {D with nx:=N,ct:=N,bk:=D.nx} σ H1 else D.nx σ H1
end
structure It where
 go:Nat->Hp->Prop
 yld:Nat->Hp->V->Hp->Prop
 stop:Nat->Hp->Prop
def oS(X:Cx)(pins:List (Addr×Obj))(H:Hp)(b:Addr):Prop:=
 H b=none/\b≠X.env.locals/\b∉X.fs/\(b∈X.ex\/X.s₀.heap.objs.size<=b)/\(∀x c,X.env.cells.lookup x=some c->c≠b)/\∀p∈X.pn++pins,p.1≠b
def Inv.fpOk{X:Cx}{pins:List (Addr×Obj)}{σ:St}{H H':Hp}{s:Shared}{b:Addr}(I:Inv X pins σ H s)(hb:s.heap.objs.size<=b)(hn:H' b=none):oS X pins H' b:=by
 show {hn,vj (bT I.lt hb),I.nofs hb,.inr (bF I.sz hb),λx c e z=>?_,λp hp z=>?_}
 ·obtain ⟨v,q⟩:=I.cell x c e;show absurd (bT q.lt (by rw [z];show hb)) (vh _)
 ·show absurd (bT (cu (I.pin p hp).1) (by rw [z];show hb)) (vh _)
structure mU(P:Program)(w:World)(K:N5)(tg:Expr)(J:It)(fp:N2)(it:Addr)(tn:Nat->Heap->Prop):Prop where
 mem:it∈fp
 obj:∀i h,tn i h->∀b∈fp,∃o,h.get? b=some o/\∀v,o.data≠.cell v
 keep:∀i h h',tn i h->(∀b∈fp,∀o,h.get? b=some o->h'.get? b=some o)->tn i h'
 item:∀(X:Cx),X.prog=P->X.w=w->X.K=K->X.calm=true->∀(i:Nat)(pins:List (Addr×Obj)) (s:Shared) (σ:St) (H:Hp) (E:Value->Shared->Prop),Inv X pins σ H s->(∀b∈fp,oS X pins H b)->tn i s.heap->J.go i H->
  wpAny (model P w) X.A (pyNext (.ref it)) (λr s1=>∃u,r=some u/\
   wpAny (model P w) X.A (letOwnedTupleGo tg (.ref it) u) (λ_ s2=>∃x H',Inv X pins σ H' s2/\RelV x u/\J.yld i H x H'/\tn (i+1) s2.heap/\∀b∈fp,H' b=none) E s1) E s
 done:∀(X:Cx),X.prog=P->X.w=w->X.K=K->X.calm=true->∀(i:Nat)(pins:List (Addr×Obj)) (s:Shared) (σ:St) (H:Hp) (E:Value->Shared->Prop),Inv X pins σ H s->(∀b∈fp,oS X pins H b)->tn i s.heap->J.stop i H->
  wpAny (model P w) X.A (pyNext (.ref it)) (λr s1=>r=none/\Inv X pins σ H s1) E s
 self:∀(A:Around)(i:Nat)(s:Shared)(Q:Value->Shared->Prop)(E:Value->Shared->Prop),tn i s.heap->Q (.ref it) s->wpAny (model P w) A (pyIter (.ref it)) Q E s
abbrev TI:=St->Hp->(It->Hp->Prop)->Prop
variable {P:Program}
def PIE(X:Cx)(pins:List (Addr×Obj))(σ:St)(tg:Expr)(R:It->Hp->Prop)(itv:Value)(s2:Shared):Prop:=
 ∃(it:Addr)(fp:N2)(tn:Nat->Heap->Prop)(J:It)(H':Hp),itv=.ref it/\Inv X pins σ H' s2/\mU X.prog X.w X.K tg J fp it tn/\tn 0 s2.heap/\(∀b∈fp,oS X pins H' b)/\R J H'
def PI(X:Cx)(tg iter:Expr)(wi:TI):Prop:=
 ∀(pins:List (Addr×Obj)) (s:Shared) (σ:St) (H:Hp) (R:It->Hp->Prop),Inv X pins σ H s->wi σ H R->
  wpAny (model X.prog X.w) X.A (eval iter X.env) (λv s1=>wpAny (model X.prog X.w) X.A (pyIter v) (PIE X pins σ tg R) X.xe s1) X.xe s
def rC{M:Model}{A:Around}{E:Value->Shared->Prop}{s:Shared}{tg:Expr}{it:Addr}{u:Value}{o:Obj}{n:String}{vs:Array Value}{Q:Unit->Shared->Prop}(ho:s.heap.get? it=some o)(hc:o.cls=.type n)(hd:o.data=.fields vs)
 (hn:["enumerate","zip","dict_itemiterator","dict_reverseitemiterator","odict_iterator","itertools.zip_longest","itertools.pairwise"].contains n=false) (hQ:Q () s):wpAny M A (letOwnedTupleGo tg (.ref it) u) Q E s:=by
  unfold letOwnedTupleGo
  cases tg<;>first
    |show zq5 hQ
    | (cases u<;>first
        |show zq5 hQ
        | (show zq2 (wpAny_load ho ?_)
           rw [hc,hd];change wpAny M A (if (["enumerate","zip","dict_itemiterator","dict_reverseitemiterator","odict_iterator","itertools.zip_longest","itertools.pairwise"].contains n&&vs[0]?==some (rawInt _))=true then _ else _) Q E s;rw [zq0 (by intro h;rw [hn,CW] at h;cases h)];show zq5 hQ))
def Itl(K:N5)(a:Addr):It:=
 {λi H=>∃xs x,SqL K H a xs/\xs[i]?=some x,λi H x H'=>H'=H/\∀xs,SqL K H a xs->xs[i]?=some x,λi H=>∃xs,SqL K H a xs/\xs.length<=i}
def Itt(K:N5)(a:Addr):It:=
 {λi H=>∃xs x,SqT K H a xs/\xs[i]?=some x,λi H x H'=>H'=H/\∀xs,SqT K H a xs->xs[i]?=some x,λi H=>∃xs,SqT K H a xs/\xs.length<=i}
def Itr(lo:Int)(n:Nat):It:={λi _=>i<n,λi H x H'=>H'=H/\x=.int (lo+i),λi _=>n<=i}
def zf{w:World}{K:N5}{tg:Expr}(a it:Addr):mU P w K tg (Itl K a) [it] it (λi h=>h.IsListIter it a i) where
 mem:=by simp
 obj:=λi h st b hb=>by
  let e:b=it:=by simpa using hb
  subst e;obtain ⟨o,e,c,d⟩:=st;show {o,e,λv z=>by rw [d] at z;cases z}
 keep:=λi h h' st k=>st.at λo e=>k it Oq o e
 item:=by intro X hP hw hK hc i pins s σ H E I hf st hg;subst hP hw hK;obtain ⟨xs,x,hq,hx⟩:=hg;obtain ⟨its,rv,p,hz⟩:=I.list hq;obtain ⟨u,hu,ru⟩:=rv.get hx;obtain ⟨f0,f1,f2,f3,f4,f5⟩:=hf it Oq;show wpAny_pyNext_list_item st p.isList (x:=u) (by simpa using hu) λh' st' sb=>?_;let I1:Inv X pins σ H {s with heap:=h'}:=I.turned (t':=s.toks) (λb o hb e=>(sb.2 b hb).trans e) f0 f1 f3 f4 f5;obtain ⟨o,e,c,d⟩:=id st';show {u,rfl,rC (s:={s with heap:=h'}) e c d On {x,H,I1,ru,{rfl,λys hy=>by rw [I.list_inj hy hq];show hx},st',λb hb=>(hf b hb).1}}
 done:=by intro X hP hw hK hc i pins s σ H E I hf st hg;subst hP hw hK;obtain ⟨xs,hq,hx⟩:=hg;obtain ⟨its,rv,p,hz⟩:=I.list hq;obtain ⟨f0,f1,f2,f3,f4,f5⟩:=hf it Oq;let hl:=rv.length;show wpAny_pyNext_list_end (I.ok.hd hc) st p.isList (by simp;omega) λh' eb=>{rfl,I.turned (t':=s.toks) (λb o hb e=>eb b o hb e) f0 f1 f3 f4 f5}
 self:=λ_ _ _ _ _ st h=>wpAny_pyIter_listiter st h
def uZ{w:World}{K:N5}{tg:Expr}(a it:Addr):mU P w K tg (Itt K a) [it] it (λi h=>h.IsTupleIter it a i) where
 mem:=by simp
 obj:=λi h st b hb=>by
  let e:b=it:=by simpa using hb
  subst e;obtain ⟨o,e,c,d⟩:=st;show {o,e,λv z=>by rw [d] at z;cases z}
 keep:=λi h h' st k=>st.at λo e=>k it Oq o e
 item:=by intro X hP hw hK hc i pins s σ H E I hf st hg;subst hP hw hK;obtain ⟨xs,x,hq,hx⟩:=hg;obtain ⟨its,rv,p,hz⟩:=I.tuple hq;obtain ⟨u,hu,ru⟩:=rv.get hx;obtain ⟨f0,f1,f2,f3,f4,f5⟩:=hf it Oq;show wpAny_pyNext_tuple_item st (show s.heap.IsTuple a its.toArray from p) (x:=u) (by simpa using hu) λh' st' sb=>?_;let I1:Inv X pins σ H {s with heap:=h'}:=I.turned (t':=s.toks) (λb o hb e=>(sb.2 b hb).trans e) f0 f1 f3 f4 f5;obtain ⟨o,e,c,d⟩:=id st';show {u,rfl,rC (s:={s with heap:=h'}) e c d On {x,H,I1,ru,{rfl,λys hy=>by rw [I.tuple_inj hy hq];show hx},st',λb hb=>(hf b hb).1}}
 done:=by intro X hP hw hK hc i pins s σ H E I hf st hg;subst hP hw hK;obtain ⟨xs,hq,hx⟩:=hg;obtain ⟨its,rv,p,hz⟩:=I.tuple hq;obtain ⟨f0,f1,f2,f3,f4,f5⟩:=hf it Oq;let hl:=rv.length;show wpAny_pyNext_tuple_end (I.ok.hd hc) st (show s.heap.IsTuple a its.toArray from p) (by simp;omega) λh' eb=>{rfl,I.turned (t':=s.toks) (λb o hb e=>eb b o hb e) f0 f1 f3 f4 f5}
 self:=λ_ _ _ _ _ st h=>wpAny_pyIter_tupleiter st h
def uY{w:World}{K:N5}{tg:Expr}(it:Addr)(lo:Int)(n:Nat):mU P w K tg (Itr lo n) [it] it (λi h=>IsRangeIter h it (lo+(i:Nat) * 1) ((n:Int)-(i:Nat)) 1) where
 mem:=by simp
 obj:=λi h st b hb=>by
  let e:b=it:=by simpa using hb
  subst e;show ⟨_,st,λv z=>by
   let z':Data.fields _=Data.cell v:=z
   cases z'⟩
 keep:=λi h h' st k=>k it Oq _ st
 item:=by intro X hP hw hK hc i pins s σ H E I hf st hg;subst hP hw hK;obtain ⟨f0,f1,f2,f3,f4,f5⟩:=hf it Oq;let W:=Walks.range (prog:=X.prog) (w:=X.w) (I.ok.hd hc) it lo 1 n;show W.item i s _ _ hg st λv h' tk hv st' kk=>?_;obtain ⟨t,rfl⟩:=hv;let I1:Inv X pins σ H {s with heap:=h',toks:=tk}:=I.turned (λb o hb e=>kk b o (by simpa using hb) e) f0 f1 f3 f4 f5;show {_,rfl,rC (s:={s with heap:=h',toks:=tk}) (n:="range_iterator") st' rfl rfl On {.int (lo+i),H,I1,{t,?_},⟨rfl,rfl⟩,st',λb hb=>(hf b hb).1}};rw [Int.mul_one]
 done:=by intro X hP hw hK hc i pins s σ H E I hf st hg;subst hP hw hK;obtain ⟨f0,f1,f2,f3,f4,f5⟩:=hf it Oq;show wpAny_pyNext_range_end (I.ok.hd hc) st (by let this:n<=i:=hg;omega) λh' eb=>{rfl,I.turned (t':=s.toks) (λb o hb e=>eb b o hb e) f0 f1 f3 f4 f5}
 self:=λ_ _ _ _ _ st h=>wpAny_pyIter_rangeiter st h
end L2
namespace L2
variable {H:Hp} {g:TG} {pins:List (Addr×Obj)} {s:Shared} {σ:St}
section
variable {X:Cx} {tg:Expr}
def Fk(K:N5)(tl:TE):TI:=λσ H R=>tl σ H λx H1=>∃a,x=.ref a/\(∃xs,SqL K H1 a xs)/\R (Itl K a) H1
def J9(K:N5)(tl:TE):TI:=λσ H R=>tl σ H λx H1=>∃a,x=.ref a/\(∃xs,SqT K H1 a xs)/\R (Itt K a) H1
def sy{R:It->Hp->Prop}{E:Value->Shared->Prop}{lo hi:Int}{t u v:Tok}{tk:Nat}(I:Inv X pins σ H s)(h1:-(2 ^ 62)<=lo)(h2:lo<2 ^ 62)(h3:-(2 ^ 62)<=hi)(h4:hi<2 ^ 62)
 (q:R (Itr lo (hi-lo).toNat) H):wpAny (model X.prog X.w) X.A (pyIter (.ref s.heap.objs.size)) (PIE X pins σ tg R) E {s with heap:=s.heap.push {cls:=.type "range",data:=.fields #[.int lo t,.int hi u,.int 1 v]},toks:=tk}:=by
 show wpAny_pyIter_range (IsRange.new ..) (small_one h1 h2 h3 h4) ?_;let I1:Inv X pins σ H {s with heap:=s.heap.push {cls:=.type "range",data:=.fields #[.int lo t,.int hi u,.int 1 v]},toks:=tk}:=I.kept λb o e=>cW _ e;show ⟨(s.heap.push {cls:=.type "range",data:=.fields #[.int lo t,.int hi u,.int 1 v]}).objs.size,[(s.heap.push {cls:=.type "range",data:=.fields #[.int lo t,.int hi u,.int 1 v]}).objs.size],_,_,H,rfl,
  I1.kept (t':=tk) λb o e=>cW _ e,uY _ lo (hi-lo).toNat,?_,λb hb=>?_,q⟩
 ·let e1:lo+((0:Nat):Int) * 1=lo:=by simp
  let e2:(((hi-lo).toNat:Nat):Int)-((0:Nat):Int)=Builtin.Range.rangeSize lo hi 1:=by rw [rangeSize_one];split<;>omega
  change IsRangeIter _ _ (lo+((0:Nat):Int) * 1) ((((hi-lo).toNat:Nat):Int)-((0:Nat):Int)) 1;rw [e1,e2];show eg _ rfl
 ·let e:b=(s.heap.push {cls:=.type "range",data:=.fields #[.int lo t,.int hi u,.int 1 v]}).objs.size:=by simpa using hb
  subst e;show I1.fpOk (zq4 _) (I1.hok.fresh (zq4 _))
def Fl(ta:TA):TI:=λσ H R=>ta σ H λvs H1=>∃j:Int,vs=[.int j]/\-(2 ^ 62)<=j/\j<2 ^ 62/\R (Itr 0 j.toNat) H1
def Am(ta:TA):TI:=λσ H R=>ta σ H λvs H1=>∃i j:Int,vs=[.int i,.int j]/\(-(2 ^ 62)<=i/\i<2 ^ 62/\-(2 ^ 62)<=j/\j<2 ^ 62)/\R (Itr i (j-i).toNat) H1
def yH{a b:Expr}{ta:TA}{p pos:Pos}(hg:Gl X "range") (hm:X.mg "range"=none) (ha:PA X [a,b] ta) (hs:starEach [a,b] X.env=[(false,eval a X.env),(false,eval b X.env)]:=by rfl) (hs2:starEach [b] X.env=[(false,eval b X.env)]:=by rfl) :
  PI X tg (.Call (.Name "range" p) [a,b] [] pos) (Am ta):=by
 intro pins s σ H R I h;show Call_ (fD I hg hm boot_range (Nt (thn (ha pos pins s σ H _ I h) λus s1 hhx=>?_) (by rw [hs,hs2]) (by rw [hs2];rfl)));obtain ⟨vs,H1,I1,r1,q1⟩:=hhx;obtain ⟨i,j,e,⟨q1,q2,q3,q4⟩,q⟩:=q1;subst e
 cases r1 with
 |cons r rr=>
  cases rr with
  |cons r' rr=>
   cases rr
   obtain ⟨t,rfl⟩:=r;obtain ⟨t',rfl⟩:=r';show call_range_2 (sy I1 q1 q2 q3 q4 q)
def ID(wi:TI)(g:TG)(tb:TS):TS:=λD σ H=>wi σ H λJ H1=>∃W:Nat->Nat->St->Hp->Prop,(∃m,W 0 m σ H1)/\∀i m σ H,W i m σ H->
 (J.stop i H/\D.nx σ H)\/(J.go i H/\∃N:St->Hp->Prop,(∀σ' H',N σ' H'->∃m',m'<m/\W (i+1) m' σ' H')/\∀x H',J.yld i H x H'->g x σ H' λσ2 H2=>tb {D with nx:=N,ct:=N,bk:=D.nx} σ2 H2)
def jG(fp:N2)(h:Heap):List (Addr×Obj):=fp.filterMap λb=>(h.get? b).map λo=>(b,o)
def fb{fp:N2}{h:Heap}{b:Addr}{o:Obj}(hb:b∈fp)(e:h.get? b=some o):(b,o)∈jG fp h:=List.mem_filterMap.mpr {b,hb,by rw [e];rfl}
def yx{fp:N2}{h:Heap}{p:Addr×Obj}(hp:p∈jG fp h):p.1∈fp/\h.get? p.1=some p.2:=by
 obtain ⟨b,hb,e⟩:=List.mem_filterMap.mp hp
 cases q:h.get? b with
 |none=>rw [q] at e;cases e
 |some o=>rw [q] at e;let e':(b,o)=p:=Option.some.inj e;subst e';show ⟨hb,q⟩
def Inv.pinned{fp:N2}(I:Inv X pins σ H s)(hf:∀b∈fp,oS X pins H b)(ho:∀b∈fp,∃o,s.heap.get? b=some o/\∀v,o.data≠.cell v):Inv X (pins++jG fp s.heap) σ H s:=
 I.pins_of λp hp=>(zq27.mp hp).elim (λz=>I.pin p (i7 _ z)) λz=>by obtain ⟨hb,e⟩:=yx z;obtain ⟨f0,f1,f2,_⟩:=hf p.1 hb;obtain ⟨o,e',d⟩:=ho p.1 hb;rw [e] at e';cases e';show ⟨e,f0,f1,f2,d⟩
def Inv.unpinned{pl:List (Addr×Obj)}(I:Inv X (pins++pl) σ H s):Inv X pins σ H s:=I.pins_of λp hp=>I.pin p (i7 _ (mS _ hp))
def Hx{iter:Expr}{body:List Stmt}{wi:TI}{tb:TS}{pos:Pos}(hp:PassesOwn (model X.prog X.w) X.A X.env X.xe)(hc:X.calm=true)(hi:PI X tg iter wi)(hg:PG X tg g)(hb:PSs X body tb)
 (hs:∀x,foldedSetIterable iter X.env x=pure x:=by intro _;rfl):PS X (.For tg iter body [] pos) (ID wi g tb):=by
 intro pins s σ H D I h;show wpAny_For (thn (hi pins s σ H _ I h) λv s1 h1=>thn h1 λitv s2 h2=>?_) hs;obtain ⟨it,fp,tn,J,H2,e,I2,T,st2,f2,W,⟨m0,w0⟩,turn⟩:=h2;subst e;let stat:∀{H':Hp},(∀b∈fp,H' b=none)->∀b∈fp,oS X pins H' b:=λhn b hb=>{hn b hb,(f2 b hb).2}
 show codeAny_forLoop_any (λn s'=>∃i σ' H',Inv X pins σ' H' s'/\tn i s'.heap/\(∀b∈fp,H' b=none)/\W i n σ' H') ?_ m0 {0,σ,H2,I2,st2,λb hb=>(f2 b hb).1,w0};rintro n s3 ⟨i,σ3,H3,I3,st3,fr3,w3⟩;rcases turn i n σ3 H3 w3 with ⟨stop,qn⟩ | ⟨go,N,hN,step⟩
 ·show wpAny_passesOwn hp (thn (T.done X rfl rfl rfl hc i pins s3 σ3 H3 X.xe I3 (stat fr3) st3 stop) λr s4 ⟨hr,I4⟩=>?_);subst hr;show wpAny_execs_nil ⟨σ3,H3,I4,qn⟩
 ·show wpAny_passesOwn hp (thn (T.item X rfl rfl rfl hc i pins s3 σ3 H3 X.xe I3 (stat fr3) st3 go) λr s4 ⟨u,hr,h4⟩=>?_);subst hr;show wpAny_passesOwn hp (thn h4 λ_ s5 hhx=>?_);obtain ⟨x,H5,I5,r5,y5,st5,fr5⟩:=hhx;let I5':=I5.pinned (stat fr5) (T.obj _ _ st5);show wpAny_passesOwn hp (thn (hg _ s5 σ3 H5 x u _ I5' r5 (step x H5 y5)) λ_ s6 hhx=>?_);obtain ⟨σ6,H6,I6,q6⟩:=hhx;show wpAny_passesOwn hp (thn (hb _ s6 σ6 H6 _ I6 q6) λf s7 q7=>?_);let again:∀{σ7:St} {H7:Hp},Inv X (pins++jG fp s5.heap) σ7 H7 s7->N σ7 H7->∃m,m<n/\∃i σ' H',Inv X pins σ' H' s7/\tn i s7.heap/\(∀b∈fp,H' b=none)/\W i m σ' H':=λ{σ7 H7} I7 n7=>by obtain ⟨m',hm,w7⟩:=hN σ7 H7 n7;show {m',hm,i+1,σ7,H7,I7.unpinned,T.keep _ _ _ st5 λb hb o e=>(I7.pin (b,o) (i7 _ (i7 _ (fb hb e)))).1,λb hb=>?_,w7};obtain ⟨o,e,d⟩:=T.obj _ _ st5 b hb;show (I7.pin (b,o) (i7 _ (i7 _ (fb hb e)))).2.1
  cases f with
  |next=>obtain ⟨σ7,H7,I7,n7⟩:=q7;show again I7 n7
  |cont=>obtain ⟨σ7,H7,I7,n7⟩:=q7;show again I7 n7
  |brk=>obtain ⟨σ7,H7,I7,q7⟩:=q7;show ⟨σ7,H7,I7.unpinned,q7⟩
  |ret v=>obtain ⟨x7,σ7,H7,I7,r7,q7⟩:=q7;show ⟨x7,σ7,H7,I7.unpinned,r7,q7⟩
end
def Ab{K:N5}{a:Addr}{xs:N7}{tb:TS}{D:dJ}(Pv:Nat->St->Hp->Prop)(h0:Pv 0 σ H)(hl:∀i σ H,i<=xs.length->Pv i σ H->SqL K H a xs)
 (hs:∀i x σ H,xs[i]?=some x->Pv i σ H->g x σ H λσ2 H2=>tb {D with nx:=Pv (i+1),ct:=Pv (i+1),bk:=D.nx} σ2 H2) (hd:∀σ H,Pv xs.length σ H->D.nx σ H) :
 ∃W:Nat->Nat->St->Hp->Prop,(∃m,W 0 m σ H)/\∀i m σ H,W i m σ H->
   ((Itl K a).stop i H/\D.nx σ H)\/((Itl K a).go i H/\∃N:St->Hp->Prop,(∀σ' H',N σ' H'->∃m',m'<m/\W (i+1) m' σ' H')/\∀x H',(Itl K a).yld i H x H'->g x σ H' λσ2 H2=>tb {D with nx:=N,ct:=N,bk:=D.nx} σ2 H2):=by
 show {λi m σ H=>m=xs.length-i/\i<=xs.length/\Pv i σ H,{xs.length,Oq,cE _,h0},?_};rintro i m σ H ⟨rfl,hi,p⟩;let q:=hl i σ H hi p
 by_cases hlt:i<xs.length
 ·show .inr {{xs,xs[i],q,by simp [hlt]},Pv (i+1),λσ' H' p'=>{xs.length-(i+1),Oo,rfl,hlt,p'},λx H' y=>?_};obtain ⟨e,y⟩:=y;subst e;show hs i x σ _ (y xs q) p
 ·let e:i=xs.length:=by omega
  subst e;show .inl {{xs,q,zq4 _},hd σ H p}
def DO{K:N5}{a:Addr}{xs:N7}{tb:TS}{D:dJ}(Pv:Nat->St->Hp->Prop)(h0:Pv 0 σ H)(hl:∀i σ H,i<=xs.length->Pv i σ H->SqT K H a xs)
 (hs:∀i x σ H,xs[i]?=some x->Pv i σ H->g x σ H λσ2 H2=>tb {D with nx:=Pv (i+1),ct:=Pv (i+1),bk:=D.nx} σ2 H2) (hd:∀σ H,Pv xs.length σ H->D.nx σ H) :
 ∃W:Nat->Nat->St->Hp->Prop,(∃m,W 0 m σ H)/\∀i m σ H,W i m σ H->
   ((Itt K a).stop i H/\D.nx σ H)\/((Itt K a).go i H/\∃N:St->Hp->Prop,(∀σ' H',N σ' H'->∃m',m'<m/\W (i+1) m' σ' H')/\∀x H',(Itt K a).yld i H x H'->g x σ H' λσ2 H2=>tb {D with nx:=N,ct:=N,bk:=D.nx} σ2 H2):=by
 show {λi m σ H=>m=xs.length-i/\i<=xs.length/\Pv i σ H,{xs.length,Oq,cE _,h0},?_};rintro i m σ H ⟨rfl,hi,p⟩;let q:=hl i σ H hi p
 by_cases hlt:i<xs.length
 ·show .inr {{xs,xs[i],q,by simp [hlt]},Pv (i+1),λσ' H' p'=>{xs.length-(i+1),Oo,rfl,hlt,p'},λx H' y=>?_};obtain ⟨e,y⟩:=y;subst e;show hs i x σ _ (y xs q) p
 ·let e:i=xs.length:=by omega
  subst e;show .inl {{xs,q,zq4 _},hd σ H p}
def yd{lo:Int}{n:Nat}{tb:TS}{D:dJ}(Pv:Nat->St->Hp->Prop)(h0:Pv 0 σ H)
 (hs:∀i σ H,i<n->Pv i σ H->g (.int (lo+i)) σ H λσ2 H2=>tb {D with nx:=Pv (i+1),ct:=Pv (i+1),bk:=D.nx} σ2 H2) (hd:∀σ H,Pv n σ H->D.nx σ H) :
 ∃W:Nat->Nat->St->Hp->Prop,(∃m,W 0 m σ H)/\∀i m σ H,W i m σ H->
   ((Itr lo n).stop i H/\D.nx σ H)\/((Itr lo n).go i H/\∃N:St->Hp->Prop,(∀σ' H',N σ' H'->∃m',m'<m/\W (i+1) m' σ' H')/\∀x H',(Itr lo n).yld i H x H'->g x σ H' λσ2 H2=>tb {D with nx:=N,ct:=N,bk:=D.nx} σ2 H2):=by
 show {λi m σ H=>m=n-i/\i<=n/\Pv i σ H,{n,Oq,cE _,h0},?_};rintro i m σ H ⟨rfl,hi,p⟩
 by_cases hlt:i<n
 ·show .inr {hlt,Pv (i+1),λσ' H' p'=>{n-(i+1),Oo,rfl,hlt,p'},λx H' y=>?_};obtain ⟨e,y⟩:=y;subst e y;show hs i σ _ hlt p
 ·let e:i=n:=by omega
  subst e;show .inl {zq4 _,hd σ H p}
end L2
namespace L2
abbrev R2:=V->V->Hp->VK->Prop
def OpR(X:Cx)(f:Value->Value->Sem Value)(r:R2):Prop:=
 ∀(pins:List (Addr×Obj)) (s:Shared) (σ:St) (H:Hp) (x y:V) (v u:Value) (Q:VK),Inv X pins σ H s->RelV x v->RelV y u->r x y H Q->
  wpAny (model X.prog X.w) X.A (f v u) (EP X pins σ Q) X.xe s
def UnR(X:Cx)(f:Value->Sem Value)(r:V->Hp->VK->Prop):Prop:=
 ∀(pins:List (Addr×Obj)) (s:Shared) (σ:St) (H:Hp) (x:V) (v:Value) (Q:VK),Inv X pins σ H s->RelV x v->r x H Q->
  wpAny (model X.prog X.w) X.A (f v) (EP X pins σ Q) X.xe s
def eO(X:Cx)(f:Value)(r:N7->Hp->VK->Prop):Prop:=
 ∀(pins:List (Addr×Obj)) (s:Shared) (σ:St) (H:Hp) (xs:N7) (us:N1) (Q:VK),Inv X pins σ H s->Vals xs us->r xs H Q->
  wpAny (model X.prog X.w) X.A (call f us) (EP X pins σ Q) X.xe s
def tOp(r:R2)(ta tb:TE):TE:=λσ H Q=>ta σ H λx H1=>tb σ H1 λy H2=>r x y H2 Q
def tUn(r:V->Hp->VK->Prop)(ta:TE):TE:=λσ H Q=>ta σ H λx H1=>r x H1 Q
def rI(C:Int->Int->Prop)(g:Int->Int->V):R2:=λx y H Q=>∃i j,x=.int i/\y=.int j/\C i j/\Q (g i j) H
def rI0(g:Int->Int->V):R2:=λx y H Q=>∃i j,x=.int i/\y=.int j/\Q (g i j) H
def rU(g:Int->V):V->Hp->VK->Prop:=λx H Q=>∃i,x=.int i/\Q (g i) H
section
variable {X:Cx} {a b c:Expr} {ta tb tc:TE} {pos:Pos}
def Gn(ha:PE X a ta)(hb:PE X b tb){pins:List (Addr×Obj)}{s:Shared}{σ:St}{H:Hp}{R:V->V->Hp->Prop}(I:Inv X pins σ H s)
  (h:ta σ H λx H1=>tb σ H1 λy H2=>R x y H2) {Q:Value->Shared->Prop} {f:Value->Value->Sem Value}
  (hf:∀v u s2 x y H2,Inv X pins σ H2 s2->RelV x v->RelV y u->R x y H2->wpAny (model X.prog X.w) X.A (f v u) Q X.xe s2) :
  wpAny (model X.prog X.w) X.A (eval a X.env) (λv s₁=>wpAny (model X.prog X.w) X.A (eval b X.env) (λu s₂=>wpAny (model X.prog X.w) X.A (f v u) Q X.xe s₂) X.xe s₁) X.xe s:=by
 show thn (ha pins s σ H _ I h) λv s1 hhx=>?_;obtain ⟨x,H1,I1,r1,q1⟩:=hhx;show thn (hb pins s1 σ H1 _ I1 q1) λu s2 hhx=>?_;obtain ⟨y,H2,I2,r2,q2⟩:=hhx;show hf v u s2 x y H2 I2 r1 r2 q2
def opI{f:Value->Value->Sem Value}{C:Int->Int->Prop}{g:Int->Int->Int}
  (rule:∀(i j:Int)(t u:Tok)(s:Shared)(Q:Value->Shared->Prop)(E:Value->Shared->Prop),C i j->Q (.int (g i j) s.toks) {s with toks:=s.toks+1}->wpAny (model X.prog X.w) X.A (f (.int i t) (.int j u)) Q E s) :
  OpR X f (rI C λi j=>.int (g i j)):=by
 intro pins s σ H x y v u Q I rx ry h;obtain ⟨i,j,rfl,rfl,hc,q⟩:=h;obtain ⟨t,rfl⟩:=rx;obtain ⟨t',rfl⟩:=ry;show rule i j t t' s _ _ hc {.int (g i j),H,I.tok _,{_,rfl},q}
def Hj{f:Value->Value->Sem Value}{g:Int->Int->Int}
  (rule:∀(i j:Int)(t u:Tok)(s:Shared)(Q:Value->Shared->Prop)(E:Value->Shared->Prop),Q (.int (g i j) s.toks) {s with toks:=s.toks+1}->wpAny (model X.prog X.w) X.A (f (.int i t) (.int j u)) Q E s) :
  OpR X f (rI0 λi j=>.int (g i j)):=by
 intro pins s σ H x y v u Q I rx ry h;obtain ⟨i,j,rfl,rfl,q⟩:=h;obtain ⟨t,rfl⟩:=rx;obtain ⟨t',rfl⟩:=ry;show rule i j t t' s _ _ {.int (g i j),H,I.tok _,{_,rfl},q}
def Eg{f:Value->Value->Sem Value}{g:Int->Int->Bool}
  (rule:∀(i j:Int)(t u:Tok)(s:Shared)(Q:Value->Shared->Prop)(E:Value->Shared->Prop),Q (.bool (g i j)) s->wpAny (model X.prog X.w) X.A (f (.int i t) (.int j u)) Q E s) :
  OpR X f (rI0 λi j=>.bl (g i j)):=by
 intro pins s σ H x y v u Q I rx ry h;obtain ⟨i,j,rfl,rfl,q⟩:=h;obtain ⟨t,rfl⟩:=rx;obtain ⟨t',rfl⟩:=ry;show rule i j t t' s _ _ {.bl (g i j),H,I,rfl,q}
def zy(i j:Int):Prop:=0<=j/\j<=1000000/\i.natAbs<2 ^ 64
def CMul(i j:Int):Prop:=(-(2 ^ 64)<i/\i<2 ^ 64)\/(-(2 ^ 64)<j/\j<2 ^ 64)
def CMul.ok{i j:Int}(h:CMul i j):IntMulOk i j:=by
 rcases h with ⟨h1,h2⟩ | ⟨h1,h2⟩
 ·show .of_left (intBits_le_64 h1 h2)
 ·show .of_right (intBits_le_64 h1 h2)
def v0(k:Nat):(0:Int)<=2 ^ k:=by rw [two_pow_cast];show Int.natCast_nonneg _
def Hk:OpR X (binaryOp .Add) (rI0 λi j=>.int (i+j)):=Hj λ_ _ _ _ _ _ _ q=>add_int q
def Hs:OpR X (binaryOp .Sub) (rI0 λi j=>.int (i-j)):=Hj λ_ _ _ _ _ _ _ q=>sub_int q
def Hn:OpR X (binaryOp .Mult) (rI CMul λi j=>.int (i * j)):=opI λ_ _ _ _ _ _ _ hc q=>mul_int q hc.ok
def Hm:OpR X (binaryOp .Mod) (rI (λ_ j=>0<j) λi j=>.int (i % j)):=opI λi j _ _ _ _ _ hc q=>by let h1:(0:Int)<j:=hc;show mod_int' Oo (by rw [Int.fmod_eq_emod_of_nonneg i Oo];show q)
def Ho:OpR X (binaryOp .Pow) (rI zy λi j=>.int (i ^ j.toNat)):=opI λ_ _ _ _ _ _ _ hc q=>pow_int_small hc.1 hc.2.1 hc.2.2 q
def Hq:OpR X (binaryOp .LShift) (rI zy λi j=>.int (i * 2 ^ j.toNat)):=opI λ_ _ _ _ _ _ _ hc q=>lshift_int_small hc.1 hc.2.1 hc.2.2 q
def Hr:OpR X (binaryOp .RShift) (rI (λ_ j=>0<=j) λi j=>.int (i / 2 ^ j.toNat)):=opI λi j _ _ _ _ _ hc q=>rshift_int hc (by rw [G5 i (v0 _)];show q)
def Hl:OpR X (binaryOp .BitAnd) (rI0 λi j=>.int (Builtin.bitAnd i j)):=Hj λ_ _ _ _ _ _ _ q=>and_int q
def unI{f:Value->Sem Value}{g:Int->Int}
  (rule:∀(i:Int)(t:Tok)(s:Shared)(Q:Value->Shared->Prop)(E:Value->Shared->Prop),Q (.int (g i) s.toks) {s with toks:=s.toks+1}->wpAny (model X.prog X.w) X.A (f (.int i t)) Q E s) :
  UnR X f (rU λi=>.int (g i)):=by
 intro pins s σ H x v Q I rx h;obtain ⟨i,rfl,q⟩:=h;obtain ⟨t,rfl⟩:=rx;show rule i t s _ _ {.int (g i),H,I.tok _,{_,rfl},q}
def IJ:UnR X (unaryOp .USub) (rU λi=>.int (-i)):=unI λ_ _ _ _ _ q=>neg_int q
end
def yV:V->V->Bool
 | .non,.non=>true | .non,.int _=>true | .int _,.non=>true | .non,.bl _=>true | .bl _,.non=>true | .non,.str _=>true | .str _,.non=>true
 | .int _,.int _=>true | .bl _,.bl _=>true | .str _,.str _=>true | .byt _,.byt _=>true
 | .int _,.str _=>true | .str _,.int _=>true | .bl _,.str _=>true | .str _,.bl _=>true
 |_,_=>false
def rEq:R2:=λx y H Q=>yV x y=true/\Q (.bl (decide (x=y))) H
def rNe:R2:=λx y H Q=>yV x y=true/\Q (.bl (! decide (x=y))) H
def vQ{i j:Int}:decide (V.int i=V.int j)=(i==j):=by rw [jT];simp
def A1{i j:Bool}:decide (V.bl i=V.bl j)=(i==j):=by rw [jT];simp
def vR{i j:Str}:decide (V.str i=V.str j)=(i==j):=by rw [jT];simp
def vP{i j:Array UInt8}:decide (V.byt i=V.byt j)=(i.toList==j.toList):=by
 rw [jT]
 cases i
 cases j
 simp
section
variable {X:Cx} {a b c:Expr} {ta tb tc:TE} {pos:Pos}
def bA{pins:List (Addr×Obj)}{σ:St}{H:Hp}{s:Shared}{Q:VK}{k k':Bool}(I:Inv X pins σ H s)(q:Q (.bl k) H)(e:k=k'):EP X pins σ Q (.bool k') s:=by subst e;show {.bl k,H,I,rfl,q}
def bi:OpR X (compareOp .Eq) rEq:=by
 intro pins s σ H x y v u Q I rx ry h;obtain ⟨hs,q⟩:=h
 cases x with
 |non=>
  cases rx
  cases y with
  |non=>cases ry;show PySem.EqNone.eq_none_none (bA I q Oq)
  |bl j=>cases ry;show PySem.EqNone.eq_none_bool (bA I q Oq)
  |int j=>obtain ⟨t',rfl⟩:=ry;show PySem.EqNone.eq_none_int (bA I q Oq)
  |str j=>obtain ⟨t',rfl⟩:=ry;show PySem.EqNone.eq_none_str (bA I q Oq)
  |_=>show absurd (show false=true from hs) zq6
 |bl i=>
  cases rx
  cases y with
  |non=>cases ry;show PySem.EqNone.eq_bool_none (bA I q Oq)
  |bl j=>cases ry;show eq_bool (bA I q A1)
  |str j=>obtain ⟨t',rfl⟩:=ry;show PySem.EqMixed.eq_bool_str (bA I q Oq)
  |_=>show absurd (show false=true from hs) zq6
 |int i=>
  obtain ⟨t,rfl⟩:=rx
  cases y with
  |non=>cases ry;show PySem.EqNone.eq_int_none (bA I q Oq)
  |int j=>obtain ⟨t',rfl⟩:=ry;show eq_int (bA I q vQ)
  |str j=>obtain ⟨t',rfl⟩:=ry;show PySem.EqMixed.eq_int_str (bA I q Oq)
  |_=>show absurd (show false=true from hs) zq6
 |str i=>
  obtain ⟨t,rfl⟩:=rx
  cases y with
  |non=>cases ry;show PySem.EqNone.eq_str_none (bA I q Oq)
  |bl j=>cases ry;show PySem.EqMixed.eq_str_bool (bA I q Oq)
  |int j=>obtain ⟨t',rfl⟩:=ry;show PySem.EqMixed.eq_str_int (bA I q Oq)
  |str j=>obtain ⟨t',rfl⟩:=ry;show eq_str (bA I q vR)
  |_=>show absurd (show false=true from hs) zq6
 |byt i=>
  obtain ⟨t,rfl⟩:=rx
  cases y with
  |byt j=>obtain ⟨t',rfl⟩:=ry;show W.eq_bytes (bA I q vP)
  |_=>show absurd (show false=true from hs) zq6
 |_=>cases y<;>show absurd (show false=true from hs) zq6
def Jr:OpR X (compareOp .NotEq) rNe:=by
 intro pins s σ H x y v u Q I rx ry h;obtain ⟨hs,q⟩:=h
 cases x with
 |non=>
  cases rx
  cases y with
  |non=>cases ry;show PySem.EqNone.ne_none_none (bA I q Oq)
  |bl j=>cases ry;show PySem.EqNone.ne_none_bool (bA I q Oq)
  |int j=>obtain ⟨t',rfl⟩:=ry;show PySem.EqNone.ne_none_int (bA I q Oq)
  |str j=>obtain ⟨t',rfl⟩:=ry;show PySem.EqNone.ne_none_str (bA I q Oq)
  |_=>show absurd (show false=true from hs) zq6
 |bl i=>
  cases rx
  cases y with
  |non=>cases ry;show PySem.EqNone.ne_bool_none (bA I q Oq)
  |bl j=>cases ry;show ne_bool (bA I q (congrArg not A1))
  |str j=>obtain ⟨t',rfl⟩:=ry;show PySem.EqMixed.ne_bool_str (bA I q Oq)
  |_=>show absurd (show false=true from hs) zq6
 |int i=>
  obtain ⟨t,rfl⟩:=rx
  cases y with
  |non=>cases ry;show PySem.EqNone.ne_int_none (bA I q Oq)
  |int j=>obtain ⟨t',rfl⟩:=ry;show ne_int (bA I q (congrArg not vQ))
  |str j=>obtain ⟨t',rfl⟩:=ry;show PySem.EqMixed.ne_int_str (bA I q Oq)
  |_=>show absurd (show false=true from hs) zq6
 |str i=>
  obtain ⟨t,rfl⟩:=rx
  cases y with
  |non=>cases ry;show PySem.EqNone.ne_str_none (bA I q Oq)
  |bl j=>cases ry;show PySem.EqMixed.ne_str_bool (bA I q Oq)
  |int j=>obtain ⟨t',rfl⟩:=ry;show PySem.EqMixed.ne_str_int (bA I q Oq)
  |str j=>obtain ⟨t',rfl⟩:=ry;show ne_str (bA I q (congrArg not vR))
  |_=>show absurd (show false=true from hs) zq6
 |byt i=>
  obtain ⟨t,rfl⟩:=rx
  cases y with
  |byt j=>obtain ⟨t',rfl⟩:=ry;show W.ne_bytes (bA I q (congrArg not vP))
  |_=>show absurd (show false=true from hs) zq6
 |_=>cases y<;>show absurd (show false=true from hs) zq6
def Jq:OpR X (compareOp .Lt) (rI0 λi j=>.bl (decide (i<j))):=Eg λ_ _ _ _ _ _ _ q=>lt_int q
def Jp:OpR X (compareOp .LtE) (rI0 λi j=>.bl (decide (i<=j))):=Eg λ_ _ _ _ _ _ _ q=>le_int q
def Jo:OpR X (compareOp .Gt) (rI0 λi j=>.bl (decide (j<i))):=Eg λ_ _ _ _ _ _ _ q=>gt_int q
def Jn:OpR X (compareOp .GtE) (rI0 λi j=>.bl (decide (j<=i))):=Eg λ_ _ _ _ _ _ _ q=>ge_int q
def kN:OpR X (compareOp .IsNot) (λx y H Q=>y=.non/\Q (.bl (! decide (x=.non))) H):=by
 intro pins s σ H x y v u Q I rx ry h;obtain ⟨rfl,q⟩:=h
 cases ry
 show isnot_none_gen (bA I q ?_)
 cases x<;>first
  | (cases rx;rfl)
  | (obtain ⟨t,rfl⟩:=rx;rfl)
def aH(b:Expr){op:CmpOp}(h:op≠.In:=by decide)(h2:op≠.NotIn:=by decide):behindInMarks op b=false:=by
 let e1:(op==CmpOp.In)=false:=by cases op<;>first | rfl | show absurd rfl h
 let e2:(op==CmpOp.NotIn)=false:=by cases op<;>first | rfl | show absurd rfl h2
 cases b<;>simp [behindInMarks,e1,e2]
def G4(t:TE):TT:=λσ H Q=>t σ H λx H'=>∃k,x=.bl k/\Q k H'
def lY:(sizeLine:Nat)<2 ^ 63:=by rw [bB];decide
def io{x:V}{us:N1}(r:Vals [x] us):∃u,us=[u]/\RelV x u:=by
 cases r with
 |cons r1 r2=>cases r2;show {_,rfl,r1}
def tI{x y:V}{us:N1}(r:Vals [x,y] us):∃u w',us=[u,w']/\RelV x u/\RelV y w':=by
 cases r with
 |cons r1 r2=>
  cases r2 with
  |cons r3 r4=>cases r4;show {_,_,rfl,r1,r3}
def xW(hc:X.calm=true):eO X (.builtin "max") (λxs H Q=>∃i j,xs=[.int i,.int j]/\Q (.int (if j>i then j else i)) H):=by
 intro pins s σ H xs us Q I r h;obtain ⟨i,j,rfl,q⟩:=h;obtain ⟨u,w',rfl,⟨t,rfl⟩,⟨t',rfl⟩⟩:=tI r;show max_two_ints (I.ok.hd hc) λh' tk k=>{_,H,I.kept k,?_,q}
 by_cases hj:j>i
 ·rw [zq1 hj,zq1 hj];show {_,rfl}
 ·rw [zq0 hj,zq0 hj];show {_,rfl}
def jp(hc:X.calm=true):eO X (.builtin "min") (λxs H Q=>∃i j,xs=[.int i,.int j]/\Q (.int (if j<i then j else i)) H):=by
 intro pins s σ H xs us Q I r h;obtain ⟨i,j,rfl,q⟩:=h;obtain ⟨u,w',rfl,⟨t,rfl⟩,⟨t',rfl⟩⟩:=tI r;show min_two_ints (I.ok.hd hc) λh' tk k=>{_,H,I.kept k,?_,q}
 by_cases hj:j<i
 ·rw [zq1 hj,zq1 hj];show {_,rfl}
 ·rw [zq0 hj,zq0 hj];show {_,rfl}
def oe:eO X (.type "int") (λxs H Q=>(∃i,xs=[.int i]/\Q (.int i) H)\/∃k,xs=[.bl k]/\Q (.int (if k then 1 else 0)) H):=by
 intro pins s σ H xs us Q I r h;rcases h with ⟨i,rfl,q⟩ | ⟨k,rfl,q⟩
 ·obtain ⟨u,rfl,t,rfl⟩:=io r;show call_int_int {.int i,H,I,{_,rfl},q}
 ·obtain ⟨u,rfl,r1⟩:=io r
  cases r1
  show call_int_bool {.int (if k then 1 else 0),H,I.tok _,{_,rfl},q}
end
end L2
namespace L2
structure ObjM(h:Heap)(x dx C:Addr)(mA:Str->N6):Prop where
 obj:h.get? x=some (W.instObj C dx)
 ns:h.Ns1 dx mA
 ne:dx≠x
def yv{h:Heap}{dx:Addr}{mA:Str->N6}(n:h.Ns1 dx mA):∃od,h.get? dx=some od/\∀name,W.lookIn name od=some (mA name):=by
 obtain ⟨o,es,ep,ho,hd,hk,_,hm⟩:=n;show {o,ho,λname=>?_};let e:=hm name;unfold nsFind findBy at e;rw [<- Array.find?_toList] at e;unfold W.lookIn;rw [hd];dsimp only
 split
 ·rename_i y q
  rw [q] at e;show congrArg some e
 ·rename_i q
  rw [q] at e;let a:es.toList.any (·.refKey)=false:=by rw [List.any_eq_false];intro y hy;obtain ⟨z,t,hkey⟩:=hk y (Array.mem_toList_iff.mp hy);simp [DictEntry.refKey,hkey]
  let a':¬es.toList.any (·.refKey)=true:=by rw [a];show zq6
  rw [zq0 a'];show congrArg some e
def ObjM.look{h:Heap}{x dx C:Addr}{mA:Str->N6}(I:ObjM h x dx C mA):∃od,W.InstAt h x (W.instObj C dx) C (some od)/\∀name,W.lookIn name od=some (mA name):=
 let ⟨od,ho,hl⟩:=yv I.ns
 {od,⟨I.obj,rfl,rfl,ho⟩,hl}
section
variable {prog:Program} {w:World} {A:Around} {E:Value->Shared->Prop} {s:Shared} {K:N5} {x dx C f:Addr} {mA:Str->N6} {name:Str} {v:Value}
def DR{expr:Bool}{Q:Value->Shared->Prop}(X:K.In s.heap)(I:ObjM s.heap x dx C mA)(hg:W.plainGet K C name=true)(hh:W.hasDictIn K C=true)
  (ha:W.findIn K (.ref C) name=some none) (hv:mA name=some v) (hv':W.handedIn v=true) (h:Q v {s with toks:=s.toks+1}) :
  wpAny (model prog w) A (getAttr (.ref x) name expr) Q E s:=by
 obtain ⟨od,J,hl⟩:=I.look;show W.get_value X J (W.plainGet_of hg).1 (W.findObj_own hh ha rfl (by rw [hl,hv])) hv' h
def Aj{pl:Sem Bool}{Q:Value×N1->Shared->Prop}(X:K.In s.heap)(I:ObjM s.heap x dx C mA)(hg:W.plainGet K C name=true)
  (hf:W.findIn K (.ref C) name=some (some (.ref f))) (ht:W.isFn K (.ref f)=true) (hv:mA name=none) (h:Q (.ref f,[.ref x]) s) :
  wpAny (model prog w) A (getMethod (.ref x) name pl) Q E s:=by
 obtain ⟨od,J,hl⟩:=I.look;show W.method_fn X J (W.plainGet_of hg).1 (W.plainGet_of hg).2 hf (zq65.mp ht) (by change (W.lookIn name od).map (·.isSome)=some false;rw [hl,hv];rfl) h
def EY{ns:N0}{Q:Unit->Shared->Prop}(X:K.In s.heap)(I:ObjM s.heap x dx C mA)
  (hs:W.findIn K (.ref C) "__setattr__"=some (some (.builtin "object.__setattr__"))) (hp:W.plainOver K C=true) (ht:W.takerIn K C name=some none) (hh:W.hasDictIn K C=true)
  (hw:PySem.Within mA ns) (hsz:ns.length<=sizeLine)
  (h:∀h',ObjM h' x dx C (λy=>if y=name then some v else mA y)->Heap.SameBut dx s.heap h'->Q () {s with heap:=h',toks:=s.toks+2}) :
  wpAny (model prog w) A (setAttr (.ref x) name v) Q E s:=by
 obtain ⟨od,J,hl⟩:=I.look;show W.set_plain X J hs (W.osa_open (s:={s with toks:=s.toks+1}) (r:=none) X J hp ht λb=>?_);obtain ⟨cd,hc,hd'⟩:=W.any_some hh;let hx:s.heap.get? x=some ⟨.ref C,some dx,.plain,#[]⟩:=I.obj;show zq2 (zq5 (zq2 (zq2 (wpAny_loadPart hx (zq2 (W.Looks.here (s:={s with toks:=s.toks+1}) (W.looks_clsIn X hc) ?_))))));rw [hd'];show zq5 (a:=some dx) (zq2 (zq5 (zq2 ?_)));show wpAny_nsSet1 (s:={s with toks:=s.toks+1}) I.ns λh' hn2 hs2=>?_;obtain ⟨oD,esD,epD,hoD,hdD,hcD⟩:=hn2.count (PySem.Within.cons name v hw);show zq2 (wpAny_lookBehind hoD (by rw [hdD];show pastItsLine_dict (bF hcD (by rw [cG];omega))) ?_);show zq5 (h _ {(hs2.2 _ (Ne.symm I.ne)).trans I.obj,hn2,I.ne} hs2)
def AA{R:Result->Shared->Prop}{vs:N1}{kw:List (Str×Value)}(X:K.In s.heap)(hm:W.makesIn K C=true)
  (hi:W.findIn K (.ref C) "__init__"=some (some (.ref f))) (hf:W.typeIn K (.ref f)=some (.type "function"))
  (h:codeAny (model prog w) (A.under (.builtin "type.__call__" {.ref C::vs,kw})) (.call (.ref f) {.ref (s.heap.objs.size+1)::vs,kw}) (W.InitBack (s.heap.objs.size+1) R)
   {s with heap:=(s.heap.push W.emptyDict).push (W.instObj C s.heap.objs.size)}) :
  codeAny (model prog w) A (.call (.ref C) ⟨vs,kw⟩) R s:=by
 obtain ⟨hh,g,d,t,os⟩:=s;show W.make_core (W.makes_of X hm) (W.looks_findIn X hi) (λself=>W.bind_fn X self hf) (.inl rfl) h
end
def eS(f:Str)(v:V):List (Str×V)->List (Str×V)
 | []=>[(f,v)]
 | (g,x)::r=>if g=f then (g,v)::r else (g,x)::eS f v r
def kc(f g:Str)(v:V):∀fs:List (Str×V),(eS f v fs).lookup g=if g=f then some v else fs.lookup g
 | []=>by
  change List.lookup g [(f,v)]=_
  by_cases h:g=f
  ·let hb:(g==f)=true:=zq65.mpr h;simp only [List.lookup,hb,if_pos h]
  ·let hb:(g==f)=false:=beq_eq_false_iff_ne.mpr h;simp only [List.lookup,hb,if_neg h]
 | (k,x)::r=>by
  let ih:=kc f g v r;rw [show eS f v ((k,x)::r)=(if k=f then (k,v)::r else (k,x)::eS f v r) from rfl]
  by_cases hk:k=f
  ·rw [zq1 hk]
   by_cases h:g=k
   ·let hb:(g==k)=true:=zq65.mpr h;simp only [List.lookup,hb,if_pos (h.trans hk)]
   ·let hb:(g==k)=false:=beq_eq_false_iff_ne.mpr h;simp only [List.lookup,hb,if_neg (λe:g=f=>h (e.trans hk.symm))]
  ·rw [zq0 hk]
   by_cases h:g=k
   ·let hb:(g==k)=true:=zq65.mpr h;simp only [List.lookup,hb,if_neg (λe:g=f=>hk (h.symm.trans e))]
   ·let hb:(g==k)=false:=beq_eq_false_iff_ne.mpr h;simp only [List.lookup,hb];show ih
def jB(f:Str)(v:V):∀fs:List (Str×V),f∈(eS f v fs).map (·.1)/\∀g,g∈fs.map (·.1)->g∈(eS f v fs).map (·.1)
 | []=>{by simp [eS],λg h=>by simp at h}
 | (k,x)::r=>by
  obtain ⟨i1,i2⟩:=jB f v r;rw [show eS f v ((k,x)::r)=(if k=f then (k,v)::r else (k,x)::eS f v r) from rfl]
  by_cases hk:k=f
  ·rw [zq1 hk];subst hk;show {Oq,λg h=>by simpa using h}
  ·rw [zq0 hk];show {?_,λg h=>?_}
   ·rw [cH];show zq8 _ i1
   ·rw [cH] at h ⊢;rcases zq9.mp h with e | e
    ·show zq9.mpr (.inl e)
    ·show zq8 _ (i2 g e)
def k9(f:Str)(v:V):∀fs:List (Str×V),(eS f v fs).length<=fs.length+1
 | []=>by simp [eS]
 | (k,x)::r=>by
  let ih:=k9 f v r;rw [show eS f v ((k,x)::r)=(if k=f then (k,v)::r else (k,x)::eS f v r) from rfl]
  by_cases hk:k=f
  ·rw [zq1 hk,cG,cG];omega
  ·rw [zq0 hk,cG,cG];omega
def RelO.some_of{v:V}{o:N6}(r:RelO (some v) o):∃u,o=some u/\RelV v u:=by
 cases o with
 |none=>show (show False from r).elim
 |some u=>show ⟨u,rfl,r⟩
def NH:=@RelO.some_of
def RelO.none_of{o:N6}(r:RelO none o):o=none:=by
 cases o with
 |none=>rfl
 |some u=>show (show False from r).elim
def yg{v:V}{u:Value}(r:RelV v u):W.handedIn u=true:=by
 cases v with
 |non=>cases (show u=Value.none from r);rfl
 |bl b=>cases (show u=Value.bool b from r);rfl
 |int i=>obtain ⟨t,e⟩:=(show ∃t,u=Value.int i t from r);cases e;rfl
 |str x=>obtain ⟨t,e⟩:=(show ∃t,u=Value.str x t from r);cases e;rfl
 |byt b=>obtain ⟨t,e⟩:=(show ∃t,u=Value.bytes b t from r);cases e;rfl
 |flt b=>obtain ⟨t,e⟩:=(show ∃t,u=Value.float b t from r);cases e;rfl
 |ref a=>cases (show u=Value.ref a from r);rfl
 |ty n=>cases (show u=Value.type n from r);rfl
section
variable {P:Program} {w:World} {H H':Hp} {h h':Heap} {a C dx:Addr} {fs fs':List (Str×V)}
def pK(hok:HOk P w H h)(e:H a=some (.ins C dx fs)):∃mA,ObjM h a dx C mA/\(∀f,RelO (fs.lookup f) (mA f))/\PySem.Within mA (fs.map (·.1))/\fs.length<=1000/\H dx=some (.own a):=by
 obtain ⟨d,z,ne,ob,mA,n,r,q⟩:=(show ObjOk P w H h a (.ins C dx fs) from hok a _ e)
 show {mA,⟨ob,n,ne⟩,r,q,z,d}
end
structure Cls(K:N5)(C:Addr):Prop where
 pg:W.plainGet K C Str.empty=true
 hd:W.hasDictIn K C=true
 po:W.plainOver K C=true
 sa:W.findIn K (.ref C) "__setattr__"=some (some (.builtin "object.__setattr__"))
def Cls.get{K:N5}{C:Addr}(c:Cls K C)(f:Str):W.plainGet K C f=true:=c.pg
def NoAttr(K:N5)(C:Addr)(f:Str):Prop:=W.findIn K (.ref C) f=some none
def NoAttr.taker{K:N5}{C:Addr}{f:Str}(n:NoAttr K C f):W.takerIn K C f=some none:=by unfold W.takerIn;rw [show W.findIn K (.ref C) f=some none from n];rfl
structure xU(K:N5)(C:Addr)(m:Str)(f:Addr):Prop where
 at_:W.findIn K (.ref C) m=some (some (.ref f))
 fn:W.isFn K (.ref f)=true
 kp:W.keepIn K (.ref f)=true
section
variable {X:Cx} {pins:List (Addr×Obj)} {σ:St} {H:Hp} {s:Shared} {a C dx:Addr} {fs:List (Str×V)} {f:Str} {v:V} {A:Around} {E:Value->Shared->Prop}
def ur{b:Bool}{Q:Value->Shared->Prop}(I:Inv X pins σ H s)(e:H a=some (.ins C dx fs))(c:Cls X.K C)(n:NoAttr X.K C f)(l:fs.lookup f=some v)
  (h:∀u s',Inv X pins σ H s'->RelV v u->Q u s'):wpAny (model X.prog X.w) A (getAttr (.ref a) f b) Q E s:=by
 obtain ⟨mA,O,r,_,_,_⟩:=pK I.hok e;obtain ⟨u,hu,ru⟩:=NH (v:=v) (o:=mA f) (by rw [<- l];show r f);show DR I.kIn O (c.get f) c.hd n hu (yg ru) (h u _ (I.tok _) ru)
def iw{m:Str}{g:Addr}{pl:Sem Bool}{Q:Value×N1->Shared->Prop}(I:Inv X pins σ H s)(e:H a=some (.ins C dx fs))(c:Cls X.K C)(k:xU X.K C m g)(l:fs.lookup m=none)
  (h:Q (.ref g,[.ref a]) s):wpAny (model X.prog X.w) A (getMethod (.ref a) m pl) Q E s:=by
 obtain ⟨mA,O,r,_,_,_⟩:=pK I.hok e;let hn:mA m=none:=RelO.none_of (by rw [<- l];show r m);show Aj I.kIn O (c.get m) k.at_ k.fn hn h
def uT{y:V}{u:Value}{Q:Unit->Shared->Prop}(I:Inv X pins σ H s)(e:H a=some (.ins C dx fs))(c:Cls X.K C)(n:NoAttr X.K C f)(hl:fs.length<1000)(ry:RelV y u)
  (h:∀s',Inv X pins σ (upd H a (.ins C dx (eS f y fs))) s'->Q () s'):wpAny (model X.prog X.w) A (setAttr (.ref a) f u) Q E s:=by
 obtain ⟨mA,O,r,wi,_,ho⟩:=pK I.hok e;let hz:(fs.map (·.1)).length<=sizeLine:=by rw [zq3,bB];omega
 show EY I.kIn O c.sa c.po n.taker c.hd wi hz λh' O' sb=>h _ ?_;let hd:∃o,h'.get? dx=some o:=let ⟨o,_,_,e',_⟩:=O'.ns;⟨o,e'⟩;show I.write (x:=a) (e:=dx) (by rw [e];show True.intro) (.inr ho) (λb q hb z=>(sb.2 b hb).trans z) hd ?_;show {by rw [ak O.ne];show ho,?_,O.ne,O'.obj,_,O'.ns,λg=>?_,λg hg=>?_}
 ·let this:=k9 f y fs;omega
 ·change RelO ((eS f y fs).lookup g) (if g=f then some u else mA g);rw [kc]
  by_cases q:g=f
  ·rw [zq1 q,zq1 q];show ry
  ·rw [zq0 q,zq0 q];show r g
 ·by_cases q:g=f
  ·rw [q];show (jB f y fs).1
  ·show (jB f y fs).2 g (wi g λz=>hg ?_);change (if g=f then some u else mA g)=none;rw [zq0 q];show z
def Inv.made(I:Inv X pins σ H s):Inv X pins σ (upd (upd H s.heap.objs.size (.own (s.heap.objs.size+1))) (s.heap.objs.size+1) (.ins C s.heap.objs.size []))
  {s with heap:=(s.heap.push W.emptyDict).push (W.instObj C s.heap.objs.size)}:=by
 let e1:(s.heap.push W.emptyDict).get? s.heap.objs.size=some W.emptyDict:=eg s.heap rfl;let e2:((s.heap.push W.emptyDict).push (W.instObj C s.heap.objs.size)).get? (s.heap.objs.size+1)=some (W.instObj C s.heap.objs.size):=by let this:=eg (s.heap.push W.emptyDict) (o:=W.instObj C s.heap.objs.size) rfl;rwa [vk] at this
 let e3:(s.heap.push W.emptyDict).Ns s.heap.objs.size (λ_=>none):={W.emptyDict,#[],_,e1,rfl,(λe he=>absurd he Oq),λ_=>rfl}
 let I1:=I.laid (a:=s.heap.objs.size) (o:=.own (s.heap.objs.size+1)) (h':=s.heap.push W.emptyDict) (t':=s.toks) (λb u q=>cW _ q) (zq4 _) {_,e1};show I1.laid (a:=s.heap.objs.size+1) (o:=.ins C s.heap.objs.size []) (t':=s.toks) (λb u q=>cW _ q) (Dt (vk _ _)) ?_;let ne:s.heap.objs.size≠s.heap.objs.size+1:=dG (CY _);show {by rw [ak ne,ae],cE _,ne,e2,λ_=>none,(Heap.Ns1.of_empty e3).at λo q=>cW _ q,λ_=>True.intro,λy hy=>absurd rfl hy}
def DD{prog:Program}{w:World}{env:Env}{e:Expr}{f:Str}{pos:Pos}{s:Shared}{Q:Value->Shared->Prop}(hb:attributeBase e f env (eval e env)=eval e env)
  (h:wpAny (model prog w) A (eval e env) (λo s₁=>wpAny (model prog w) A (getAttr o f true) Q E s₁) E s):wpAny (model prog w) A (eval (.Attribute e f pos) env) Q E s:=
 Attribute_any_ h (by rw [arm_eval_Attribute,hb])
end
def LO(K:N5)(ta:TE)(f:Str):TE:=λσ H Q=>ta σ H λx H1=>∃a C dx fs v,x=.ref a/\H1 a=some (.ins C dx fs)/\Cls K C/\NoAttr K C f/\fs.lookup f=some v/\Q v H1
def Ke(K:N5)(ta tv:TE)(f:Str):TS:=λD σ H=>tv σ H λy H1=>ta σ H1 λx H2=>∃a C dx fs,x=.ref a/\H2 a=some (.ins C dx fs)/\Cls K C/\NoAttr K C f/\fs.length<1000/\
 D.nx σ (upd H2 a (.ins C dx (eS f y fs)))
section
variable {X:Cx} {o e value:Expr} {f:Str} {pos pos' tpos:Pos} {ta tv:TE}
def Fo{pl:Sem Bool}{m:Str}{apos:Pos}{args:N4}{pins:List (Addr×Obj)}{s:Shared}{σ:St}{H:Hp}{Q:Value->Shared->Prop}{te:TE}(he:PE X e te)(I:Inv X pins σ H s)
  (h:te σ H λx H1=>∃a C dx fs g,x=.ref a/\H1 a=some (.ins C dx fs)/\Cls X.K C/\xU X.K C m g/\fs.lookup m=none/\
   ∀s1,Inv X pins σ H1 s1->wpAny (model X.prog X.w) X.A (callWith pos (.ref g) [.ref a] (backTo pos (starEach args X.env)) (backToKw pos (keywordEach [] X.env))) Q X.xe s1)
  (ht:eval (.Call (.Attribute e m apos) args [] pos) X.env=(do
   let ov <- eval e X.env
   standAt apos.atName
   let (f,first) <- holding [ov] (getMethod ov m pl)
   callWith pos f first (backTo pos (starEach args X.env)) (backToKw pos (keywordEach [] X.env)))) :
  wpAny (model X.prog X.w) X.A (eval (.Call (.Attribute e m apos) args [] pos) X.env) Q X.xe s:=by
 show W.methodCall_KW (pl:=pl) (thn (he pins s σ H _ I h) λu s1 hhx=>?_) ht;obtain ⟨x,H1,I1,rx,a,C,dx,fs,g,ex,ea,c,k,l,q⟩:=hhx;subst ex;obtain rfl:u=Value.ref a:=rx;show iw I1 ea c k l (q s1 I1)
end
section
variable {X:Cx} {pins:List (Addr×Obj)} {σ:St} {H:Hp} {s:Shared} {A:Around} {E:Value->Shared->Prop} {Q:Value->Shared->Prop} {c:Value} {b:Bool}
end
end L2
namespace L2
structure Room(k:Nat)(A:Around):Prop where
 hd:A.handled=none
 dp:A.depth+3 * k+5<recursionLimit
 un:A.units+16 * k+200<cLine
 gd:A.guards=some []
def Room.mono{j k:Nat}{A:Around}(r:Room k A)(h:j<=k):Room j A:={r.hd,by let this:=r.dp;omega,by let this:=r.un;omega,r.gd}
def Room.m{n m:Nat}{A:Around}(h:Room n A)(l:m<=n:=by first | decide | omega):Room m A:=h.mono l
def Room.deeper{k:Nat}{A:Around}(r:Room (k+1) A)(env:Env):Room k (A.deeper env):=
 {r.hd,by let this:=r.dp;change A.depth+1+3 * k+5<_;omega,by let this:=r.un;change A.units+3+16 * k+200<_;omega,r.gd}
def ux{A:Around}{C:Addr}{us:N1}{kw:List (Str×Value)}:(A.under (.builtin "type.__call__" {.ref C::us,kw})).depth=A.depth+1:=by first | rfl | simp [Around.under,Code.weight,Code.isCreation,Code.isGuard,Code.isCaller,Code.frames,Code.isFrame,guardIds]
def uy{A:Around}{C:Addr}{us:N1}{kw:List (Str×Value)}:(A.under (.builtin "type.__call__" {.ref C::us,kw})).units=A.units+1:=by first | rfl | simp [Around.under,Code.cUnits,Code.frames,Code.isFrame]
def Room.make{k:Nat}{A:Around}(r:Room (k+1) A)(C:Addr)(us:N1)(kw:List (Str×Value)):Room k (A.under (.builtin "type.__call__" {.ref C::us,kw})):=
 {r.hd,by let this:=r.dp;rw [ux];omega,by let this:=r.un;rw [uy];omega,by first | show r.gd | (have e:=r.gd;change pushGuards (Code.guards _) A.guards=_;rw [e,Code.guards,zq0 Ol];rfl)}
def Room.depth{k:Nat}{A:Around}(r:Room k A):A.depth<recursionLimit:=by let this:=r.dp;omega
def Room.units{k:Nat}{A:Around}(r:Room k A):A.units+64<cLine:=by let this:=r.un;omega
def tD:TA:=λ_ H Q=>Q [] H
def Cu(ta:TE)(tr:TA):TA:=λσ H Q=>ta σ H λx H1=>tr σ H1 λxs H2=>Q (x::xs) H2
section
variable {X:Cx} {e:Expr} {es:N4} {te:TE} {t:TA} {pos:Pos}
def B5:PA X [] tD:=λ_ _ _ _ H Q I h=>Calls.spliced_nil {[],H,I,.nil,h}
def wJ(ha:PE X e te)(hr:PA X es t)(hs:starEach (e::es) X.env=(false,eval e X.env)::starEach es X.env:=by rfl):PA X (e::es) (Cu te t):=by intro pos pins s σ H Q I h;rw [hs];change wpAny _ _ (spliced ((false,eval e X.env)::backTo pos (starEach es X.env))) _ _ s;show Calls.spliced_cons (thn (ha pins s σ H _ I h) λu s1 hhx=>?_);obtain ⟨x,H1,I1,r1,q1⟩:=hhx;show thn (hr pos pins s1 σ H1 _ I1 q1) λus s2 ⟨xs,H2,I2,r2,q2⟩=>⟨x::xs,H2,I2,.cons r1 r2,q2⟩
def LS(t:TA):TE:=λσ H Q=>t σ H λxs H1=>xs.length<=sizeLine/\∀p,H1 p=none->Q (.ref p) (upd H1 p (.tup xs))
def LP(t:TA):TE:=λσ H Q=>t σ H λxs H1=>xs.length<=sizeLine/\∀p,H1 p=none->Q (.ref p) (upd H1 p (.lst xs))
end
abbrev Sp:=N7->Hp->VK->XK->Prop
abbrev CXT:=List Env->Hp->Shared->XK->Value->Shared->Prop
structure Env0(P:Program)(w:World)(K:N5)(mg:Str->N6)(base:Heap)(A:Around)(outer:List Env)(s:Shared)(H:Hp):Prop where
 frames:A.frames=some outer
 mod:Mod K mg base
 bs:∀b o,base.get? b=some o->s.heap.get? b=some o/\H b=none
 bsz:base.objs.size<=s.heap.objs.size
 funs:s.heap.FunFrames base outer
 frf:∀b∈frs outer,H b=none
 hok:HOk P w H s.heap
 bare:AllBare s.gens
def CE(outer:List Env)(P:Program)(w:World)(H:Hp)(s:Shared)(Q:VK)(u:Value)(s':Shared):Prop:=
 ∃v H',s'.os=s.os/\AllBare s'.gens/\Un (frs outer) [] H H' s.heap s'.heap/\HOk P w H' s'.heap/\RelV v u/\Q v H'
def CR(CX:CXT)(outer:List Env)(P:Program)(w:World)(H:Hp)(s:Shared)(Q:VK)(E:XK)(r:Result)(s':Shared):Prop:=
 match r with
 | .ok (.ret u)=>CE outer P w H s Q u s'
 | .ok _=>False
 | .error e=>CX outer H s E e s'
structure FnOk(P:Program)(w:World)(K:N5)(mg:Str->N6)(base:Heap)(CX:CXT)(k:Nat)(f:Addr)(fd:FuncData)(ps:N0)(sp:Sp):Prop where
 len:∀vs H Q E,sp vs H Q E->vs.length=ps.length
 run:∀(A:Around)(outer:List Env)(s:Shared)(H:Hp)(args:Args)(us:N1)(vs:N7)(Q:VK)(E:XK),Room k A->Env0 P w K mg base A outer s H->BindsTo s fd args (ps.zip us)->Vals vs us->sp vs H Q E->
  codeAny (model P w) A (.call (.ref f) args) (CR CX outer P w H s Q E) s
def FnOk.mono{P:Program}{w:World}{K:N5}{mg:Str->N6}{base:Heap}{CX:CXT}{j k:Nat}{f:Addr}{fd:FuncData}{ps:N0}{sp:Sp}(F:FnOk P w K mg base CX j f fd ps sp)(h:j<=k):
  FnOk P w K mg base CX k f fd ps sp:={F.len,λA outer s H args us vs Q E hr=>F.run A outer s H args us vs Q E (hr.mono h)}
def Env0.make{P:Program}{w:World}{K:N5}{mg:Str->N6}{base:Heap}{A:Around}{outer:List Env}{s:Shared}{H:Hp}(e:Env0 P w K mg base A outer s H)(C:Addr)(us:N1)(kw:List (Str×Value)):
  Env0 P w K mg base (A.under (.builtin "type.__call__" {.ref C::us,kw})) outer s H:={by first | show e.frames | (simpa [Around.under,Code.envs,Code.isFrame,pushEnvs] using e.frames),e.mod,e.bs,e.bsz,e.funs,e.frf,e.hok,e.bare}
section
variable {X:Cx} {pins:List (Addr×Obj)} {σ:St} {H:Hp} {s s':Shared}
def Inv.env0(I:Inv X pins σ H s):Env0 X.prog X.w X.K X.mg X.base X.A X.stack s H:=
 {I.ok.frames,I.ok.mod,I.bs,bF I.ok.bsz I.sz,I.stack,I.stkFree,I.hok,I.bare}
def Inv.after{Q:VK}{u:Value}(I:Inv X pins σ H s)(h:CE X.stack X.prog X.w H s Q u s'):EP X pins σ Q u s':=by obtain ⟨v,H',os,bare,un,hok,r,q⟩:=h;obtain ⟨hh,g,d,t,os'⟩:=s';obtain rfl:os'=s.os:=os;show {v,H',I.call (h':=hh) (g':=g) (d':=d) (t':=t) (ch:=[]) un hok bare (λb z=>absurd z Oq),r,q}
end
def mK(sp:Sp)(dvs:N7)(E:XK)(t:TA):TE:=λσ H Q=>t σ H λvs H1=>sp (vs++dvs) H1 Q E
def jk(C:Addr)(m:Str)(sp:Sp)(dvs:N7)(E:XK)(ta:TE)(t:TA):TE:=λσ H Q=>ta σ H λx H1=>∃a dx fs,x=.ref a/\H1 a=some (.ins C dx fs)/\fs.lookup m=none/\
 t σ H1 λvs H2=>sp (x::(vs++dvs)) H2 Q E
def mO(C:Addr)(sp:Sp)(dvs:N7)(E:XK)(t:TA):TE:=λσ H Q=>t σ H λvs H1=>∀x dx,H1 x=none->H1 dx=none->dx≠x->
 sp (.ref x::(vs++dvs)) (upd (upd H1 dx (.own x)) x (.ins C dx [])) (λv H2=>v=.non/\Q (.ref x) H2) E
def Binds(K:N5)(fd:FuncData)(ps:N0)(ds:N1):Prop:=
 ∀(s:Shared)(us:N1),K.In s.heap->(us++ds).length=ps.length->BindsTo s fd {us,[]} (ps.zip (us++ds))
def Binds.all{K:N5}{fd:FuncData}{ps:N0}(h:∀us:N1,us.length=ps.length->bindArgs fd {us,[]}=pure (ps.zip us)):Binds K fd ps []:=λs us _ hl=>by rw [iD] at hl ⊢;show .of_eq (h us hl)
def fV(CX:CXT)(X:Cx)(E:XK):Prop:=∀(pins:List (Addr×Obj)) (σ:St) (H:Hp) (s:Shared) (e:Value) (s':Shared),Inv X pins σ H s->CX X.stack H s E e s'->X.xe e s'
section
variable {X:Cx} {CX:CXT} {k:Nat} {f C:Addr} {fd:FuncData} {ps:N0} {sp:Sp} {dvs:N7} {ds:N1} {E:XK} {x m:Str} {p pos apos:Pos} {e o:Expr} {es:N4} {ta:TE} {t:TA}
def uR{pins:List (Addr×Obj)}{σ:St}{H:Hp}{s:Shared}{Q:VK}{us:N1}{vs:N7}(F:FnOk X.prog X.w X.K X.mg X.base CX k f fd ps sp)(hr:Room k X.A)(hb:Binds X.K fd ps ds)(hd:Vals dvs ds)(hx:fV CX X E)
  (I:Inv X pins σ H s) (r:Vals vs us) (h:sp (vs++dvs) H Q E):wpAny (model X.prog X.w) X.A (call (.ref f) us) (EP X pins σ Q) X.xe s:=by
 let r2:Vals (vs++dvs) (us++ds):=r.append hd;let hl:(us++ds).length=ps.length:=by rw [<- r2.length];show F.len _ _ _ _ h
 show wpAny_call (codeAny_mono (F.run X.A X.stack s H {us,[]} (us++ds) (vs++dvs) Q E hr I.env0 (hb s us I.kIn hl) r2 h) λr s' hq=>?_)
 cases r with
 |error e=>show hx pins σ H s e s' I hq
 |ok fl=>
  cases fl with
  |ret u=>show I.after hq
  |next=>show False.elim hq
  |brk=>show False.elim hq
  |cont=>show False.elim hq
def wK(F:FnOk X.prog X.w X.K X.mg X.base CX k f fd ps sp)(hr:Room k X.A)(hg:Gl X x)(hm:X.mg x=some (.ref f))(hk:W.keepIn X.K (.ref f)=true)(hb:Binds X.K fd ps ds)(hd:Vals dvs ds)(hx:fV CX X E)
  (ha:PA X (e::es) t) (hdb:(x==("__debug__":Str))=false:=by decide) (he:starEach (e::es) X.env=(false,eval e X.env)::starEach es X.env:=by rfl) (hpl:(backTo pos (starEach es X.env)).any (·.1)=false:=by rfl) :
  PE X (.Call (.Name x p) (e::es) [] pos) (mK sp dvs E t):=by
 intro pins s σ H Q I h;show wpAny_Call_Name_kw (iZ I hg hm ?_ hdb);show W.callWith_K (h₀:=X.base) I.ok.mod.kin hk (thn (ha pos pins s σ H _ I h) λus s1 ⟨vs,H1,I1,r,q⟩=>{I1.kIn,?_}) he hpl;show uR F hr hb hd hx I1 r q
def wL{pl:Sem Bool}(he:PE X o ta)(c:Cls X.K C)(hm:xU X.K C m f)(F:FnOk X.prog X.w X.K X.mg X.base CX k f fd ps sp)(hr:Room k X.A)(hb:Binds X.K fd ps ds)(hd:Vals dvs ds)(hx:fV CX X E)(ha:PA X (e::es) t)
  (hst:starEach (e::es) X.env=(false,eval e X.env)::starEach es X.env:=by rfl) (hpl:(backTo pos (starEach es X.env)).any (·.1)=false:=by rfl)
  (ht:eval (.Call (.Attribute o m apos) (e::es) [] pos) X.env=(do
   let ov <- eval o X.env
   standAt apos.atName
   let (f,first) <- holding [ov] (getMethod ov m pl)
   callWith pos f first (backTo pos (starEach (e::es) X.env)) (backToKw pos (keywordEach [] X.env))):=by rfl) :
  PE X (.Call (.Attribute o m apos) (e::es) [] pos) (jk C m sp dvs E ta t):=by
 intro pins s σ H Q I h;show W.methodCall_KW (pl:=pl) (thn (he pins s σ H _ I h) λu s1 hhx=>?_) ht;obtain ⟨x,H1,I1,rx,a,dx,fs,ex,ea,l,q⟩:=hhx;subst ex;obtain rfl:u=Value.ref a:=rx;show iw I1 ea c hm l ?_;show W.callWith_K (first:=[.ref a]) (h₀:=X.base) I.ok.mod.kin hm.kp (thn (ha pos pins s1 σ H1 _ I1 q) λus s2 ⟨vs,H2,I2,r,q2⟩=>{I2.kIn,?_}) hst hpl;show uR (us:=.ref a::us) (vs:=.ref a::vs) F hr hb hd hx I2 (.cons rfl r) q2
def Bc{pl:Sem Bool}(he:PE X o ta)(c:Cls X.K C)(hm:xU X.K C m f)(F:FnOk X.prog X.w X.K X.mg X.base CX k f fd ps sp)(hr:Room k X.A)(hb:Binds X.K fd ps ds)(hd:Vals dvs ds)(hx:fV CX X E)
  (ht:eval (.Call (.Attribute o m apos) [] [] pos) X.env=(do
   let ov <- eval o X.env
   standAt apos.atName
   let (f,first) <- holding [ov] (getMethod ov m pl)
   callWith pos f first (backTo pos (starEach [] X.env)) (backToKw pos (keywordEach [] X.env))):=by rfl) :
  PE X (.Call (.Attribute o m apos) [] [] pos) (jk C m sp dvs E ta tD):=by
 intro pins s σ H Q I h;show W.methodCall_KW (pl:=pl) (thn (he pins s σ H _ I h) λu s1 hhx=>?_) ht;obtain ⟨x,H1,I1,rx,a,dx,fs,ex,ea,l,q⟩:=hhx;subst ex;obtain rfl:u=Value.ref a:=rx;show iw I1 ea c hm l ?_;show W.callWith_K0 (first:=[.ref a]) I1.kIn hm.kp (uR (us:=[.ref a]) (vs:=[.ref a]) F hr hb hd hx I1 (.cons rfl .nil) q)
structure Mk(K:N5)(C f:Addr):Prop where
 makes:W.makesIn K C=true
 init:W.findIn K (.ref C) "__init__"=some (some (.ref f))
 fn:W.isFn K (.ref f)=true
 kp:W.keepIn K (.ref C)=true
def sF{pins:List (Addr×Obj)}{σ:St}{H:Hp}{s:Shared}{Q:VK}{us:N1}{vs:N7}(M:Mk X.K C f)(F:FnOk X.prog X.w X.K X.mg X.base CX k f fd ps sp)(hr:Room (k+1) X.A)(hb:Binds X.K fd ps ds)(hd:Vals dvs ds)
  (hx:fV CX X E) (I:Inv X pins σ H s) (r:Vals vs us)
  (h:∀x dx,H x=none->H dx=none->dx≠x->sp (.ref x::(vs++dvs)) (upd (upd H dx (.own x)) x (.ins C dx [])) (λv H2=>v=.non/\Q (.ref x) H2) E) :
  wpAny (model X.prog X.w) X.A (call (.ref C) us) (EP X pins σ Q) X.xe s:=by
 let hq:=h (s.heap.objs.size+1) s.heap.objs.size (I.hok.fresh (zq _)) (I.hok.fresh (zq4 _)) (dG (CY _));let I2:=Inv.made (C:=C) I;let r2:Vals (V.ref (s.heap.objs.size+1)::(vs++dvs)) (Value.ref (s.heap.objs.size+1)::(us++ds)):=.cons rfl (r.append hd);let hl:(Value.ref (s.heap.objs.size+1)::us++ds).length=ps.length:=by let e:=r2.length;rw [F.len _ _ _ _ hq] at e;show e.symm
 show wpAny_call (AA (f:=f) I.kIn M.makes M.init (zq65.mp M.fn) (codeAny_mono (F.run _ X.stack _ _ {Value.ref (s.heap.objs.size+1)::us,[]} (Value.ref (s.heap.objs.size+1)::(us++ds)) _ _ E (hr.make C us [])
  (I2.env0.make C us []) (hb _ (Value.ref (s.heap.objs.size+1)::us) I2.kIn hl) r2 hq) λr s' hq'=>?_))
 cases r with
 |error e=>show hx pins σ _ _ e s' I2 hq'
 |ok fl=>
  cases fl with
  |ret u=>
   obtain ⟨v,H',I3,rv,ev,q3⟩:=I2.after hq';subst ev;show {rv,{V.ref (s.heap.objs.size+1),H',I3,rfl,q3}}
  |next=>show False.elim hq'
  |brk=>show False.elim hq'
  |cont=>show False.elim hq'
def En(M:Mk X.K C f)(F:FnOk X.prog X.w X.K X.mg X.base CX k f fd ps sp)(hr:Room (k+1) X.A)(hg:Gl X x)(hm:X.mg x=some (.ref C))(hb:Binds X.K fd ps ds)(hd:Vals dvs ds)(hx:fV CX X E)
  (ha:PA X (e::es) t) (hdb:(x==("__debug__":Str))=false:=by decide) (he:starEach (e::es) X.env=(false,eval e X.env)::starEach es X.env:=by rfl) (hpl:(backTo pos (starEach es X.env)).any (·.1)=false:=by rfl) :
  PE X (.Call (.Name x p) (e::es) [] pos) (mO C sp dvs E t):=by
 intro pins s σ H Q I h;show wpAny_Call_Name_kw (iZ I hg hm ?_ hdb);show W.callWith_K (h₀:=X.base) I.ok.mod.kin M.kp (thn (ha pos pins s σ H _ I h) λus s1 ⟨vs,H1,I1,r,q⟩=>{I1.kIn,?_}) he hpl;show sF M F hr hb hd hx I1 r q
def Bb(M:Mk X.K C f)(F:FnOk X.prog X.w X.K X.mg X.base CX k f fd ps sp)(hr:Room (k+1) X.A)(hg:Gl X x)(hm:X.mg x=some (.ref C))(hb:Binds X.K fd ps ds)(hd:Vals dvs ds)(hx:fV CX X E)
  (hdb:(x==("__debug__":Str))=false:=by decide):PE X (.Call (.Name x p) [] [] pos) (mO C sp dvs E tD):=by
 intro pins s σ H Q I h;show wpAny_Call_Name_kw (iZ I hg hm ?_ hdb);show W.callWith_K0 I.kIn M.kp (sF (us:=[]) M F hr hb hd hx I .nil h)
end
section
variable {X:Cx} {CX:CXT} {k:Nat} {f C:Addr} {fd:FuncData} {ps ks:N0} {sp:Sp} {E:XK} {x m:Str} {p pos apos kpos:Pos} {e o:Expr} {es:N4} {kws:List Keyword} {te ta:TE} {t tk:TA} {nm:Option Str}
variable {g:N1->N1->N1} {gV:N7->N7->N7}
end
structure aB(N P:N0)(sc:Scope):Prop where
 kind:sc.kind=.function
 co:sc.isCoroutine=false
 gen:sc.isGenerator=false
 nd:N.Nodup
 pre:N.take P.length=P
 par:∀x∈P,sc.names.lookup x=some .local\/sc.names.lookup x=some .cell
 nofree:∀y∈sc.names,y.2≠.free
def nY{kindOf:Str->Option NameKind}{x:Str}:∀{binds:List (Str×Value)} {m:Str->N6},(∀v,(x,v)∉binds)->bindL kindOf binds m x=m x
 | [],_,_=>rfl
 | (n,v)::r,m,h=>by
  unfold bindL;rw [nY λw hw=>h w (zq8 _ hw)]
  split
  ·let this:x≠n:=by rintro rfl;show h v cS
   simp [this]
  ·rfl
def nV{kindOf:Str->Option NameKind}{x:Str}:∀{binds:List (Str×Value)} {m:Str->N6},(∀v,(x,v)∉binds)->bindC kindOf binds m x=m x
 | [],_,_=>rfl
 | (n,v)::r,m,h=>by
  unfold bindC;rw [nV λw hw=>h w (zq8 _ hw)]
  split
  ·rfl
  ·let this:x≠n:=by rintro rfl;show h v cS
   simp [this]
def nX{kindOf:Str->Option NameKind}{x:Str}{v:Value}:∀{P:N0} {vs:N1} {i:Nat} {m:Str->N6},P.Nodup->P[i]?=some x->vs[i]?=some v->kindOf x=some .local->
  bindL kindOf (P.zip vs) m x=some v
 | [],_,_,_,_,h,_,_=>by simp at h
 |_::_,[],_,_,_,_,h,_=>by simp at h
 |p::P,w::vs,0,m,nd,h1,h2,hk=>by
  simp at h1 h2;subst h1;subst h2;change bindL kindOf ((p,w)::P.zip vs) m p=_;unfold bindL;rw [nY λv hv=>(zq42.mp nd).1 (fU hv).1,zq1 hk];simp
 |p::P,w::vs,i+1,m,nd,h1,h2,hk=>by change bindL kindOf ((p,w)::P.zip vs) m x=_;unfold bindL;show nX (i:=i) (zq42.mp nd).2 (by simpa using h1) (by simpa using h2) hk
def nR{kindOf:Str->Option NameKind}{x:Str}{v:Value}:∀{P:N0} {vs:N1} {i:Nat} {m:Str->N6},P.Nodup->P[i]?=some x->vs[i]?=some v->kindOf x≠some .local->
  bindC kindOf (P.zip vs) m x=some v
 | [],_,_,_,_,h,_,_=>by simp at h
 |_::_,[],_,_,_,_,h,_=>by simp at h
 |p::P,w::vs,0,m,nd,h1,h2,hk=>by
  simp at h1 h2;subst h1;subst h2;change bindC kindOf ((p,w)::P.zip vs) m p=_;unfold bindC;rw [nV λv hv=>(zq42.mp nd).1 (fU hv).1,zq0 hk];simp
 |p::P,w::vs,i+1,m,nd,h1,h2,hk=>by change bindC kindOf ((p,w)::P.zip vs) m x=_;unfold bindC;show nR (i:=i) (zq42.mp nd).2 (by simpa using h1) (by simpa using h2) hk
def start(N:N0)(vs:N7):St:=vs.map some++List.replicate (N.length-vs.length) none
def pA(CX:CXT)(P:Program)(w:World)(K:N5)(mg:Str->N6)(base:Heap)(N:N0)(qual:Str)(scope:Scope)(f:Addr)(cd:Value)(A:Around)(outer:List Env)(s:Shared)(H:Hp)(E:XK):Cx where
 prog:=P
 w:=w
 K:=K
 mg:=mg
 base:=base
 A:=A.deeper (envOfC qual scope s.heap.objs.size f cd)
 N:=N
 s₀:=s
 H₀:=H
 env:=envOfC qual scope s.heap.objs.size f cd
 outer:=outer
 stack:=envOfC qual scope s.heap.objs.size f cd::outer
 ex:=[]
 calm:=true
 fn:=λ_=>true
 pn:=[]
 xe:=λe s'=>wpAny (model P w) (A.deeper (envOfC qual scope s.heap.objs.size f cd)) (leaving (envOfC qual scope s.heap.objs.size f cd) e) (λ_ s''=>CX outer H s E e s'') (λe' s''=>CX outer H s E e' s'') s'
def qU{sc:Scope}{n:Nat}{x:Str}(h:sc.names.lookup x=some .cell):∃c,(cellsFrom n sc.names []).lookup x=some c:=by let q:=W.cellsFrom_some sc.names n [] (.inl h);show Option.isSome_iff_exists.mp q
def yi{CX:CXT}{P:Program}{w:World}{K:N5}{mg:Str->N6}{base:Heap}{N ps:N0}{qual:Str}{scope:Scope}{f:Addr}{cd:Value}{A:Around}{outer:List Env}{s s1:Shared}{H:Hp}{E:XK}{us:N1}{vs:N7}
  (S:aB N ps scope) (hd:A.handled=none) (e0:Env0 P w K mg base A outer s H) (hl:vs.length=ps.length) (r:Vals vs us)
  (x:InCallC s s.heap.objs.size (bindL (envOfC qual scope s.heap.objs.size f cd).kindOf (ps.zip us) λ_=>none) (cellsFrom (s.heap.objs.size+1) scope.names []) (bindC (envOfC qual scope s.heap.objs.size f cd).kindOf (ps.zip us) λ_=>none) s1) :
  Inv (pA CX P w K mg base N qual scope f cd A outer s H E) [] (start N vs) H s1:=by
 let hpl:ps.length<=N.length:=by let this:=congrArg List.length S.pre;rw [dz] at this;omega
 obtain ⟨h1,tk,rfl,hk⟩:=x.done;let noA:∀b:Addr,b∉(pA CX P w K mg base N qual scope f cd A outer s H E).ex:=λb z=>absurd (show b∈([]:N2) from z) Oq;show ⟨{e0.mod,S.kind,rfl,rfl,zq4 _,λy z c h1 h2=>?_,λy hy=>?_,λy c _ h=>?_,λ_=>hd,Around.frames_deeper e0.frames,.inr ⟨rfl,rfl⟩,λb z=>absurd z (noA b),e0.bs,e0.bsz,λb _ _=>noA b,λb z=>absurd z (noA b),e0.funs,e0.frf},
  rfl,e0.bare,Un.kept hk,{_,x.toInCall.ns,λi y v h1 h2 h3=>?_},λy c h=>{_,x.cell y c h},e0.hok.fresh (zq4 _),λy c h=>?_,λp hp=>absurd (show p∈([]:List (Addr×Obj)) from hp) Oq,e0.hok.kept hk,?_⟩
 ·show name_of_addr x.apart (PySem.mem_of_lookup h1) (PySem.mem_of_lookup h2)
 ·let hy:scope.names.lookup y=some .cell\/scope.names.lookup y=some .free:=hy;rcases hy with hy | hy
  ·show qU hy
  ·show absurd rfl (S.nofree _ (PySem.mem_of_lookup hy))
 ·show xD (x.above y c (PySem.mem_of_lookup h))
 ·let hi:i<vs.length:=by
   unfold start at h2
   by_cases hi:i<vs.length
   ·show hi
   ·rw [tV (by simpa using hi)] at h2;rw [G6] at h2
    split at h2<;>cases h2
  let ha:vs[i]?=some v:=by
   unfold start at h2;rw [vm (by simpa using hi),bP] at h2
   cases e:vs[i]? with
   |none=>rw [e] at h2;cases h2
   |some a=>rw [e] at h2;cases h2;rfl
  obtain ⟨u,hu,rv⟩:=r.get ha;let hp:ps[i]?=some y:=by rw [<- S.pre,List.getElem?_take_of_lt Oo];show h1
  let ndP:ps.Nodup:=by rw [<- S.pre];show S.nd.sublist (CZ _ _)
  show {u,rv,?_};rcases S.par y (bR hp) with k | k
  ·show .inl {k,nX ndP hp hu k}
  ·obtain ⟨c,e⟩:=qU (n:=s.heap.objs.size+1) k;show .inr {.inl k,c,e,?_};let q:=x.cell y c e;rw [nR ndP hp hu (by change scope.names.lookup y≠_;rw [k];decide)] at q;show q
 ·show e0.hok.fresh (xD (x.above y c (PySem.mem_of_lookup h)))
 ·unfold start;change _=N.length;rw [bW,zq3,tW];omega
def Fi{CX:CXT}{P:Program}{w:World}{K:N5}{mg:Str->N6}{base:Heap}{k:Nat}{f:Addr}{name qual:Str}{params:Arguments}{body:List Stmt}{scope:Scope}{dV kV doc pm cdv ct oc:Value}{an od:Option Addr}
  {osl:Array N6} {N ps:N0} {sp:Sp} (lk:K.lookup f=some {oc,od,.func (W.fnOf name qual params body scope dV kV doc pm an cdv ct),osl}) (hcd:W.codeIn K cdv qual=true) (S:aB N ps scope)
  (len:∀vs H Q E,sp vs H Q E->vs.length=ps.length)
  (hbody:∀(A:Around)(outer:List Env)(s:Shared)(H:Hp)(vs:N7)(Q:VK)(E:XK),Room k (A.deeper (envOfC qual scope s.heap.objs.size f cdv))->sp vs H Q E->
   ∃t,PSs (pA CX P w K mg base N qual scope f cdv A outer s H E) body t/\t {nx:=λ_ H'=>Q .non H',rt:=Q} (start N vs) H) :
  FnOk P w K mg base CX (k+1) f (W.fnOf name qual params body scope dV kV doc pm an cdv ct) ps sp:=by
 show {len,λA outer s H args us vs Q E hr e0 hb r hsp=>?_};let hl:=len _ _ _ _ hsp;let KX:K.In s.heap:=e0.mod.kin.keeps λb o e=>(e0.bs b o e).1;let lim:s.heap.NoLimit:=e0.mod.nolimit.keeps λb o e=>(e0.bs b o e).1;let hkind:∀y∈ps.zip us,scope.names.lookup y.1=some .local\/(scope.names.lookup y.1=some .cell/\((cellsFrom (s.heap.objs.size+1) scope.names []).lookup y.1).isSome=true):=λ⟨n,v⟩ hy=>by
  rcases S.par n (fU hy).1 with q | q
  ·show .inl q
  ·show .inr {q,W.cellsFrom_some _ _ _ (.inl q)}
 show codeAny_call_function hr.depth (KX _ _ lk) rfl S.co S.gen rfl (W.codeRec_of KX hcd) (hb _ _ _ _ ?_);show wpAny_newFunctionEnv_cells S.kind hkind λenv he s1 x=>?_;subst he;show {lim.keeps x.toInCall.keep,codeAny_func ?_};obtain ⟨t,ht,hq⟩:=hbody A outer s H vs Q E (hr.deeper _) hsp;let I:Inv (pA CX P w K mg base N qual scope f cdv A outer s H E) [] (start N vs) H s1:=yi S hr.hd e0 hl r x;show jn (ht [] s1 (start N vs) H _ I hq) (λfl s' hs=>?_) λe s' hs=>hs;let fin:∀{σ':St} {H':Hp} {v:V} {u:Value},Inv (pA CX P w K mg base N qual scope f cdv A outer s H E) [] σ' H' s'->RelV v u->Q v H'->CE outer P w H s Q u s':=
  λ{σ' H' v u} J rv q=>⟨v,H',J.os,J.bare,J.base,J.hok,rv,q⟩
 cases fl with
 |ret u=>
  obtain ⟨v,σ',H',J,rv,q⟩:=hs;show fin J rv q
 |next=>
  obtain ⟨σ',H',J,q⟩:=hs;show fin (v:=V.non) (u:=Value.none) J rfl q
 |brk=>
  obtain ⟨_,_,_,q⟩:=hs;show False.elim q
 |cont=>obtain ⟨_,_,_,q⟩:=hs;show False.elim q
end L2
namespace L2
section
variable {X:Cx} {x:Str} {p pos:Pos} {e:Expr} {es:N4} {t:TA} {id T:String} {r:N7->Hp->VK->Prop}
def tCB(r:N7->Hp->VK->Prop)(t:TA):TE:=λσ H Q=>t σ H λvs H1=>r vs H1 Q
def B6(hc:eO X (.builtin id) r)(hg:Gl X x)(hm:X.mg x=none)(hv:bootBuiltins x=some (.builtin id))(ha:PA X (e::es) t)(hn:x≠"__name__":=by decide) (hdb:(x==("__debug__":Str))=false:=by decide)
  (he:starEach (e::es) X.env=(false,eval e X.env)::starEach es X.env:=by rfl) (hpl:(backTo pos (starEach es X.env)).any (·.1)=false:=by rfl):PE X (.Call (.Name x p) (e::es) [] pos) (tCB r t):=by
 intro pins s σ H Q I h;show wpAny_Call_Name_kw (fD I hg hm hv ?_ hn hdb);show PyProof.Rows.callWith_builtin1 (thn (ha pos pins s σ H _ I h) λus s1 ⟨vs,H1,I1,r1,q1⟩=>hc pins s1 σ H1 vs us Q I1 r1 q1) he hpl
def yE(hc:eO X (.type T) r)(hg:Gl X x)(hm:X.mg x=none)(hv:bootBuiltins x=some (.type T))(ha:PA X (e::es) t)(hn:x≠"__name__":=by decide) (hdb:(x==("__debug__":Str))=false:=by decide)
  (he:starEach (e::es) X.env=(false,eval e X.env)::starEach es X.env:=by rfl) (hpl:(backTo pos (starEach es X.env)).any (·.1)=false:=by rfl):PE X (.Call (.Name x p) (e::es) [] pos) (tCB r t):=by
 intro pins s σ H Q I h;show wpAny_Call_Name_kw (fD I hg hm hv ?_ hn hdb);show Nt (thn (ha pos pins s σ H _ I h) λus s1 ⟨vs,H1,I1,r1,q1⟩=>hc pins s1 σ H1 vs us Q I1 r1 q1) he hpl
end
end L2
end
namespace HT
open PySem PyProof.Rows
section
open PySem.SeqAt
open PySem.AutoSeq1 (wpAny_loadPart')
open PySem.MeetsSeq PySem.MeetsSeq2 PySem.MeetsSeq3
end
section
variable {prog:Program} {w:World} {A:Around} {E:Value->Shared->Prop} {s:Shared}
def sIx(n d:Nat):Option Int->Nat
 |none=>d
 |some v=>if v<0 then (v+(n:Int)).toNat else min v.toNat n
def gK(n d:Nat):sIx n d none=d:=rfl
def kP(n d k:Nat):sIx n d (some (k:Int))=min k n:=by change (if (k:Int)<0 then ((k:Int)+(n:Int)).toNat else min (k:Int).toNat n)=min k n;rw [zq0 Oo,eh]
def IA(n d:Nat)(hd:d<=n)(o:Option Int):sIx n d o<=n:=by
 cases o with
 |none=>show hd
 |some v=>
  change (if v<0 then (v+(n:Int)).toNat else min v.toNat n)<=n
  by_cases hv:v<0
  ·rw [zq1 hv];omega
  ·rw [zq0 hv];show Nat.min_le_right _ _
def vN(v:Int)(n d:Nat):(if v<0 then max (v+(n:Int)) 0 else min v (n:Int))=((sIx n d (some v):Nat):Int):=by
 change (if v<0 then max (v+(n:Int)) 0 else min v (n:Int))=(((if v<0 then (v+(n:Int)).toNat else min v.toNat n):Nat):Int)
 by_cases hv:v<0
 ·simp only [if_pos hv];omega
 ·simp only [if_neg hv];omega
def ud(lo hi:Option Int)(n:Nat):Builtin.Slice.sliceAdjust lo hi 1 (n:Int)=(((sIx n 0 lo:Nat):Int),((sIx n n hi:Nat):Int)):=by
 let h1:¬((1:Int)<0):=by omega
 unfold Builtin.Slice.sliceAdjust;simp only [h1,if_false];show Prod.ext ?_ ?_
 ·cases lo with
  |none=>rfl
  |some v=>show vN v n 0
 ·cases hi with
  |none=>rfl
  |some v=>show vN v n n
def uK(i j:Nat):Builtin.Slice.slicePlaces (i:Int) (j:Int) 1=j-i:=by
 unfold Builtin.Slice.slicePlaces;let h1:(1:Int)>0:=by omega
 simp only [h1,if_true,Int.ediv_one]
 split<;>omega
def mG{v:Value}{o:Option Int}{Q:Option Int->Shared->Prop}(p:IsPart v o)(h:Q o s):wpAny (model prog w) A (Builtin.Slice.slicePartIndex v) Q E s:=by
 cases p with
 |none=>show slicePart_none h
 |int i t=>show slicePart_int h
def jL{sl:Addr}{vl vu:Value}{lo hi:Option Int}{n:Nat}{Q:Int×Int×Nat->Shared->Prop}(hs:s.heap.IsSliceOf sl vl vu .none)(pl:IsPart vl lo)(pu:IsPart vu hi)
  (h:Q (((sIx n 0 lo:Nat):Int),1,sIx n n hi-sIx n 0 lo) s):wpAny (model prog w) A (Builtin.Slice.sliceApplied (.ref sl) (pure (n:Int))) Q E s:=by
 obtain ⟨os,hos,hcs,hds⟩:=id hs;unfold Builtin.Slice.sliceApplied Builtin.Slice.sliceFields;show zq2 (zq2 (wpAny_field hos hds (x:=vl) rfl (zq2 (wpAny_field hos hds (x:=vu) rfl (zq2 (wpAny_field hos hds (x:=.none) rfl (zq5 ?_)))))));show zq2 (slicePart_none ?_);change wpAny _ _ (if ((1:Int)==0)=true then _ else _) _ _ s;rw [zq0 On];show zq2 (mG pl (zq2 (mG pu (zq2 (zq5 ?_)))));change wpAny _ _ (match Builtin.Slice.sliceAdjust lo hi 1 (n:Int) with | (lo,hi)=>pure (lo,(1:Int),Builtin.Slice.slicePlaces lo hi 1)) _ _ s;rw [ud lo hi n];change wpAny _ _ (pure (((sIx n 0 lo:Nat):Int),(1:Int),Builtin.Slice.slicePlaces ((sIx n 0 lo:Nat):Int) ((sIx n n hi:Nat):Int) 1)) _ _ s;rw [uK];show zq5 h
def Bg(xs:Array Value)(i k:Nat):((List.range k).filterMap λ(m:Nat)=>xs[((i:Int)+(m:Int) * 1).toNat]?).toArray=((xs.toList.drop i).take k).toArray:=by
 let e:(λ(m:Nat)=>xs[((i:Int)+(m:Int) * 1).toNat]?)=λm=>xs[i+m]?:=by
  funext m
  let this:((i:Int)+(m:Int) * 1).toNat=i+m:=by omega
  rw [this]
 rw [e];let this:=pick_run xs i k;rw [List.filterMap_map] at this;let e2:((λx=>xs[x]?) ∘ λx=>i+x)=λm=>xs[i+m]?:=rfl;rw [e2] at this;rw [this]
def iU{t sl:Addr}{items:Array Value}{vl vu:Value}{lo hi:Option Int}{Q:Value->Shared->Prop}(ht:IsTup s.heap t items)(hs:s.heap.IsSliceOf sl vl vu .none)(pl:IsPart vl lo)(pu:IsPart vu hi)
  (hw:¬(sIx items.size 0 lo=0/\sIx items.size items.size hi=items.size))
  (h:Q (.ref s.heap.objs.size) {s with heap:=s.heap.push {cls:=.type "tuple",data:=.seq ((items.toList.drop (sIx items.size 0 lo)).take (sIx items.size items.size hi-sIx items.size 0 lo)).toArray}})
  (hsz:items.size<=sizeLine):wpAny (model prog w) A (getItem (.ref t) (.ref sl)) Q E s:=by
 let htake:sizeOk (.seq ((items.toList.drop (sIx items.size 0 lo)).take (sIx items.size items.size hi-sIx items.size 0 lo)).toArray):=by change ((items.toList.drop (sIx items.size 0 lo)).take (sIx items.size items.size hi-sIx items.size 0 lo)).toArray.size<=sizeLine;rw [gN,dz,xF,Du];omega
 let hj:sIx items.size items.size hi<=items.size:=IA _ _ (zq4 _) hi;obtain ⟨os,hos,hcs,hds⟩:=id hs;let hTs:s.TypeIs (.ref sl) "slice":=⟨os,hos,hcs⟩
 unfold getItem
 try with_reducible show vi ?_
 first | show zq2 (zq5 ?_) | skip
 show zq2 (wpAny_sequenceKey ht.typeIs On ?_);show zq2 (wpAny_callSpecial?_slot (name:=Str.ofString "__getitem__") ht.typeIs PyProof.Rows.slot_tuple_getitem
  (wpAny_call_entry PyProof.Rows.slot_tuple_getitem ht.typeIs entry_tuple_getitem ?_ (args_tuple_getitem _ _)))
 change wpAny _ _ (Builtin.Tuple.tupleItemsOf (.ref t) >>= _) _ _ s;show zq2 (tupleItemsOf_ ht ?_);show zq2 (wpAny_typeOf hTs ?_);rw [zq1 On];show zq2 (jL hs pl pu ?_);let hno:¬((((sIx items.size 0 lo:Nat):Int)==0&&(1:Int)==1&&(sIx items.size items.size hi-sIx items.size 0 lo)==items.size)=true):=by intro q;rw [eN,eN] at q;let q1:((sIx items.size 0 lo:Nat):Int)=0:=eq_of_beq q.1.1;let q2:sIx items.size items.size hi-sIx items.size 0 lo=items.size:=eq_of_beq q.2;show hw ⟨Oo,Oo⟩
 change wpAny _ _ (if (((sIx items.size 0 lo:Nat):Int)==0&&(1:Int)==1&&(sIx items.size items.size hi-sIx items.size 0 lo)==items.size)=true then _ else _) _ _ s;rw [zq0 hno,Bg]
 first
  |show zq2 (m:=Builtin.Tuple.tupleExact _) (wpAny_newObj_type (zq5 {_,rfl,zq5 h}) htake)
  |show zq2 (m:=Builtin.Tuple.tupleExact _) (wpAny_newObj_type (zq2 (zq5 (zq5 {_,rfl,zq5 h}))) htake)
  |show zq2 (zq2 (m:=Builtin.Tuple.tupleExact _) (wpAny_newObj_type (zq5 (zq5 {_,rfl,zq5 h})) htake))
  |show zq2 (zq2 (m:=Builtin.Tuple.tupleExact _) (wpAny_newObj_type (zq5 {_,rfl,zq5 h}) htake))
end
end HT
section
open PySem PySem.Spec PyProof.Rows
namespace L2
abbrev TO:=St->Hp->(Option Int->Hp->Prop)->Prop
def PO(X:Cx)(e:Option Expr)(t:TO):Prop:=
 ∀(pins:List (Addr×Obj)) (s:Shared) (σ:St) (H:Hp) (Q:Option Int->Hp->Prop),Inv X pins σ H s->t σ H Q->
  wpAny (model X.prog X.w) X.A (evalPart e X.env) (λu s'=>∃o H',Inv X pins σ H' s'/\IsPart u o/\Q o H') X.xe s
def xu:TO:=λ_ H Q=>Q none H
def G3(t:TE):TO:=λσ H Q=>t σ H λx H1=>∃i,x=.int i/\Q (some i) H1
section
variable {X:Cx} {e:Expr} {te:TE} {lo hi:Option Expr} {tl th:TO} {pos p2:Pos}
def SlR(X:Cx)(r:V->Option Int->Option Int->Hp->VK->Prop):Prop:=
 ∀(pins:List (Addr×Obj)) (s:Shared) (σ:St) (H:Hp) (x:V) (v vl vu:Value) (lo hi:Option Int) (sl:Addr) (Q:VK),Inv X pins σ H s->RelV x v->s.heap.IsSliceOf sl vl vu .none->IsPart vl lo->IsPart vu hi->r x lo hi H Q->
  ∃T id,typeLookup (.type T) "__getitem__"=pure (some (.builtin id))/\s.TypeIs v T/\wpAny (model X.prog X.w) X.A (getItem v (.ref sl)) (EP X pins σ Q) X.xe s
def tSl(r:V->Option Int->Option Int->Hp->VK->Prop)(te:TE)(tl th:TO):TE:=λσ H Q=>te σ H λx H1=>tl σ H1 λl H2=>th σ H2 λu H3=>r x l u H3 Q
def dY(xs:N7)(lo hi:Option Int):N7:=(xs.drop (HT.sIx xs.length 0 lo)).take (HT.sIx xs.length xs.length hi-HT.sIx xs.length 0 lo)
def jX(xs:N7)(lo hi:Option Int):(dY xs lo hi).length<=xs.length:=by unfold dY;rw [dz,xF];omega
def JB(K:N5):V->Option Int->Option Int->Hp->VK->Prop:=λx lo hi H Q=>∃a xs,x=.ref a/\SqT K H a xs/\
 ¬(HT.sIx xs.length 0 lo=0/\HT.sIx xs.length xs.length hi=xs.length)/\∀p,H p=none->Q (.ref p) (upd H p (.tup (dY xs lo hi)))
def BZ:SlR X (JB X.K):=by
 intro pins s σ H x v vl vu lo hi sl Q I rx hs pl pu h;obtain ⟨a,xs,rfl,hx,hw,q⟩:=h
 cases rx
 obtain ⟨its,r,ht,hz⟩:=I.tuple hx;let hlen:its.toArray.size=xs.length:=by rw [gN];show r.length.symm
 show {"tuple",_,PyProof.Rows.slot_tuple_getitem.lookup,ht.typeIs,?_};show HT.iU ht hs pl pu (by rw [hlen];show hw) ?_ (by rw [hlen];show hz);rw [hlen];show {.ref s.heap.objs.size,_,I.laid (t':=s.toks) (o:=.tup (dY xs lo hi)) (λb ob q=>cW _ q) (zq4 _) ?_,rfl,q _ (I.hok.fresh (zq4 _))};show {bF (jX xs lo hi) hz,_,(r.drop (HT.sIx xs.length 0 lo)).take (HT.sIx xs.length xs.length hi-HT.sIx xs.length 0 lo),IsTup.new _ _}
end
end L2
namespace L2
def ixN(n:Nat)(i:Int):Option Nat:=if 0<=i then (if i<n then some i.toNat else none) else if -(n:Int)<=i then some (i+n).toNat else none
def atI{α:Type}(xs:List α)(i:Int):Option α:=(ixN xs.length i).bind λj=>xs[j]?
def wk{n:Nat}{i:Int}{j:Nat}(h:ixN n i=some j):seqIndex? i n=some j/\j<n/\-(n:Int)<=i/\i<n:=by
 unfold ixN at h
 by_cases h0:0<=i
 ·rw [zq1 h0] at h
  by_cases h1:i<n
  ·rw [zq1 h1] at h;let e:i.toNat=j:=Option.some.inj h;show {by rw [seqIndex_of h0 h1,e],Oo,Oo,h1}
  ·rw [zq0 h1] at h;cases h
 ·rw [zq0 h0] at h
  by_cases h1:-(n:Int)<=i
  ·rw [zq1 h1] at h;let e:(i+n).toNat=j:=Option.some.inj h;show {by rw [seqIndex_neg Oo h1,e],Oo,h1,Oo}
  ·rw [zq0 h1] at h;cases h
def oY{α:Type}{xs:List α}{i:Int}{v:α}(h:atI xs i=some v):∃j,seqIndex? i xs.length=some j/\xs[j]?=some v/\j<xs.length/\-(xs.length:Int)<=i/\i<xs.length:=by
 unfold atI at h
 cases e:ixN xs.length i with
 |none=>rw [e] at h;cases h
 |some j=>rw [e] at h;obtain ⟨h1,h2,h3,h4⟩:=wk e;show ⟨j,h1,h,h2,h3,h4⟩
def bO{α:Type}{xs:List α}{j:Nat}{v:α}(h:xs[j]?=some v):atI xs (j:Int)=some v:=by
 let hj:j<xs.length:=(zq7.mp h).1;let e:ixN xs.length (j:Int)=some j:=by unfold ixN;rw [zq1 Oo,zq1 Oo];simp
 unfold atI;rw [e];show h
def iJ{α:Type}(xs:List α)(v:α):atI (xs++[v]) (-1)=some v:=by
 let hl:(xs++[v]).length=xs.length+1:=by simp
 let e:ixN (xs++[v]).length (-1)=some xs.length:=by unfold ixN;rw [hl,zq0 On,zq1 Oo];congr 1;omega
 unfold atI;rw [e];change (xs++[v])[xs.length]?=some v;simp
def Dx(b:Expr):Prop:=∀o i,subscripted b false o i=operate [o,i] (getItem o i)
def IxR(X:Cx)(r:R2):Prop:=
 ∀(value slice:Expr)(pins:List (Addr×Obj)) (s:Shared) (σ:St) (H:Hp) (x y:V) (v u:Value) (Q:VK),Inv X pins σ H s->RelV x v->RelV y u->r x y H Q->
  subscripted slice false v u=operate [v,u] (getItem v u)->wpAny (model X.prog X.w) X.A (subscriptTail value slice v u) (EP X pins σ Q) X.xe s
def MtR(X:Cx)(id:String)(r:V->N7->Hp->VK->Prop):Prop:=
 ∀(pins:List (Addr×Obj)) (s:Shared) (σ:St) (H:Hp) (x:V) (xs:N7) (v:Value) (us:N1) (Q:VK),Inv X pins σ H s->RelV x v->Vals xs us->r x xs H Q->
  wpAny (model X.prog X.w) X.A (call (.builtin id) (v::us)) (EP X pins σ Q) X.xe s
section
variable {X:Cx} {a b:Expr} {ta tb:TE} {pos:Pos}
def Eu(K:N5):R2:=λx y H Q=>∃p xs i v,x=.ref p/\y=.int i/\SqL K H p xs/\atI xs i=some v/\Q v H
def Hz(K:N5):R2:=λx y H Q=>∃p xs i v,x=.ref p/\y=.int i/\SqT K H p xs/\atI xs i=some v/\Q v H
def Jw:R2:=λx y H Q=>∃z i c,x=.str z/\y=.int i/\z.length<=sizeLine/\atI z.cps.toList i=some c/\Q (.str {#[c]}) H
def aP:IxR X (Eu X.K):=by
 intro value slice pins s σ H x y v u Q I rx ry h hs;obtain ⟨p,xs,i,z,rfl,rfl,hq,he,q⟩:=h
 cases rx
 obtain ⟨t,rfl⟩:=ry;obtain ⟨its,r,pl,hz⟩:=I.list hq;obtain ⟨j,h1,h2,h3,h4,h5⟩:=oY he;obtain ⟨w,ew,rw'⟩:=r.get h2;let hl:=r.length;let hn:=lY;let fin:EP X pins σ Q w s:=⟨z,H,I,rw',q⟩
 by_cases h0:0<=i
 ·let hj:i.toNat=j:=by rw [seqIndex_of h0 h5] at h1;show Option.some.inj h1
  show item_listR pl.isList h0 Oo (by rw [hj];simpa using ew) fin hs
 ·let hj:(i+(its.toArray.size:Int)).toNat=j:=by rw [seqIndex_neg Oo h4] at h1;rw [gN,<- hl];show Option.some.inj h1
  show subscriptTail_builtinR (x:=w) pl.isList.typeIs slot_list_getitem.lookup
   (wpAny_getItem_list_neg (Q:=λr s'=>r=w/\EP X pins σ Q r s') pl.isList Oo (by rw [gN]<;>omega) Oo (by rw [hj];simpa using ew) ⟨rfl,fin⟩) hs
def aD:IxR X (Hz X.K):=by
 intro value slice pins s σ H x y v u Q I rx ry h hs;obtain ⟨p,xs,i,z,rfl,rfl,hq,he,q⟩:=h
 cases rx
 obtain ⟨t,rfl⟩:=ry;obtain ⟨its,r,pl,hz⟩:=I.tuple hq;obtain ⟨j,h1,h2,h3,h4,h5⟩:=oY he;obtain ⟨w,ew,rw'⟩:=r.get h2;let hl:=r.length;let hn:=lY;let fin:EP X pins σ Q w s:=⟨z,H,I,rw',q⟩
 show subscriptTail_builtinR (x:=w) pl.typeIs slot_tuple_getitem.lookup
  (getItem_tuple (j:=j) (Q:=λr s'=>r=w/\EP X pins σ Q r s') pl Oo Oo (by rw [gN,<- hl];show h1) (by simpa using ew) ⟨rfl,fin⟩) hs
def GH:IxR X Jw:=by
 intro value slice pins s σ H x y v u Q I rx ry h hs;obtain ⟨z,i,c,rfl,rfl,hz,he,q⟩:=h;obtain ⟨t,rfl⟩:=rx;obtain ⟨t',rfl⟩:=ry;obtain ⟨j,h1,h2,h3,h4,h5⟩:=oY he;let hl:z.cps.toList.length=z.length:=by simp [Str.length]
 rw [hl] at h1 h4 h5;let hn:=lY;show tail_any (typeIs_str s z t) slot_str_getitem.lookup (getItem_str (c:=c) (by let e1:decide (i < -(2 ^ 63:Int))=false:=cR Oo;let e2:decide (i ≥ 2 ^ 63)=false:=cR Oo;rw [e1,e2,Bool.or_false]) (by rw [h1];simpa using h2) {.str {#[c]},H,I.tok _,{_,rfl},q}) hs
def uz(its:N1)(n j:Nat)(u:Value):Obj.mapSeq (·.setIfInBounds j u) {cls:=.type "list",data:=.seq its.toArray n}={cls:=.type "list",data:=.seq (its.set j u).toArray n}:=by simp [Obj.mapSeq]
def Inv.lst{pins:List (Addr×Obj)}{σ:St}{H:Hp}{s:Shared}{p:Addr}{xs:N7}(I:Inv X pins σ H s)(h:H p=some (.lst xs)):
  ∃(its:N1)(n:Nat),Vals xs its/\s.heap.get? p=some {cls:=.type "list",data:=.seq its.toArray n}/\xs.length<=sizeLine:=by
 obtain ⟨z,its,n,r,e⟩:=I.hok p _ h;show ⟨its,n,r,e,z⟩
def Inv.lstUpd{pins:List (Addr×Obj)}{σ:St}{H:Hp}{s:Shared}{p:Addr}{xs ys:N7}{its its':N1}{n n':Nat}{f:Obj->Obj}(I:Inv X pins σ H s)(h:H p=some (.lst xs))
  (ho:s.heap.get? p=some {cls:=.type "list",data:=.seq its.toArray n}) (hf:f {cls:=.type "list",data:=.seq its.toArray n}={cls:=.type "list",data:=.seq its'.toArray n'}) (r:Vals ys its') (hz:ys.length<=sizeLine) (t:Nat) :
  Inv X pins σ (upd H p (.lst ys)) {s with heap:=s.heap.update p f,toks:=t}:=by
 let e:(s.heap.update p f).get? p=some {cls:=.type "list",data:=.seq its'.toArray n'}:=by rw [D0 f ho (by rw [hf]<;>rfl),hf]
 show I.write (x:=p) (e:=p) (by rw [h];trivial) (.inl rfl) (λb u hb q=>(G7 _ _ (Ne.symm hb)).trans q) {_,e} ?_;show ⟨hz,its',n',r,e⟩
def Jy:V->V->V->Hp->(Hp->Prop)->Prop:=λo i v H Q=>∃p xs k j,o=.ref p/\i=.int k/\H p=some (.lst xs)/\ixN xs.length k=some j/\Q (upd H p (.lst (xs.set j v)))
def jf:Gm X Jy:=by
 intro pins s σ H o i v ov iv u Q I ro ri rv h;obtain ⟨p,xs,k,j,rfl,rfl,hp,hj,q⟩:=h
 cases ro
 obtain ⟨t,rfl⟩:=ri;obtain ⟨its,n,r,ho,hz⟩:=I.lst hp;obtain ⟨h1,h2,h3,h4⟩:=wk hj;let hl:=r.length;let hn:=lY;let I':Inv X pins σ (upd H p (.lst (xs.set j v))) {s with heap:=s.heap.update p (Obj.mapSeq (·.setIfInBounds j u))}:=
  I.lstUpd hp ho (uz its n j u) (r.set rv j) (by rw [kA];show hz) s.toks
 by_cases h0:0<=k
 ·let hk:k.toNat=j:=by rw [seqIndex_of h0 h4] at h1;show Option.some.inj h1
  show W.ki_setAt ho h0 Oo (by rw [gN,<- hl];show h4) (by rw [hk];show {_,I',q})
 ·let hk:(k+(its.toArray.size:Int)).toNat=j:=by rw [seqIndex_neg Oo h3] at h1;rw [gN,<- hl];show Option.some.inj h1
  show W.ki_setBack ho Oo (by rw [gN,<- hl];show h3) Oo (by rw [hk];show {_,I',q})
def qa(lo hi:Option Int)(n:Nat):(sliceBounds lo hi none n).1=((HT.sIx n 0 lo:Nat):Int)/\(sliceBounds lo hi none n).2.1=((HT.sIx n n hi:Nat):Int)/\(sliceBounds lo hi none n).2.2=1:=by
 show {?_,?_,rfl}
 ·cases lo with
  |none=>simp [sliceBounds,HT.sIx]
  |some i=>
   simp only [sliceBounds,HT.sIx,Option.getD_none,show (1:Int)>0 by decide,if_true]
   by_cases h:i<0
   ·simp only [h,if_true]<;>omega
   ·simp only [h,if_false]<;>omega
 ·cases hi with
  |none=>simp [sliceBounds,HT.sIx]
  |some i=>
   simp only [sliceBounds,HT.sIx,Option.getD_none,show (1:Int)>0 by decide,if_true]
   by_cases h:i<0
   ·simp only [h,if_true]<;>omega
   ·simp only [h,if_false]<;>omega
def nv(its:N1)(lo hi:Option Int):slicePick its.toArray lo hi none=((its.drop (HT.sIx its.length 0 lo)).take (HT.sIx its.length its.length hi-HT.sIx its.length 0 lo)).toArray:=by obtain ⟨h1,h2,h3⟩:=qa lo hi its.toArray.size;unfold slicePick;rw [h1,h2,h3];simp only [sliceRange_one,pick_run,List.size_toArray]<;>rfl
def JA(K:N5):V->Option Int->Option Int->Hp->VK->Prop:=λx lo hi H Q=>∃a xs,x=.ref a/\SqL K H a xs/\∀p,H p=none->Q (.ref p) (upd H p (.lst (dY xs lo hi)))
def cO:SlR X (JA X.K):=by
 intro pins s σ H x v vl vu lo hi sl Q I rx hs pl pu h;obtain ⟨a,xs,rfl,hx,q⟩:=h
 cases rx
 obtain ⟨its,r,ht,hz⟩:=I.list hx;let hlen:=r.length;show {"list",_,slot_list_getitem.lookup,ht.isList.typeIs,?_};show wpAny_getItem_list_slice ht.isList hs pl pu .none Oq ?_ (by rw [List.size_toArray]<;>omega);rw [nv,<- hlen];show {.ref s.heap.objs.size,_,I.laid (t':=s.toks) (o:=.lst (dY xs lo hi)) (λb ob q=>cW _ q) (zq4 _) ?_,rfl,q _ (I.hok.fresh (zq4 _))};show {bF (jX xs lo hi) hz,_,0,(r.drop (HT.sIx xs.length 0 lo)).take (HT.sIx xs.length xs.length hi-HT.sIx xs.length 0 lo),eg _ rfl}
def cf:V->Bool
 | .non=>true
 | .bl _=>true
 | .int _=>true
 | .str _=>true
 |_=>false
def eqV:V->V->Bool
 | .non,.non=>true
 | .bl a,.bl b=>a==b
 | .bl a,.int b=>(if a then 1 else 0)==b
 | .int a,.bl b=>a==(if b then 1 else 0)
 | .int a,.int b=>a==b
 | .str a,.str b=>a==b
 |_,_=>false
def A8{A:Around}{s:Shared}{y x:V}{u v:Value}(ry:RelV y u)(rx:RelV x v)(fy:cf y=true)(fx:cf x=true):SeqAt.EqAt A s u v (eqV y x):=by
 cases y with
 |non=>
  cases ry
  cases x with
  |non=>cases rx;show SeqAt.EqAt.same _
  |bl b=>cases rx;show SeqAt.EqAt.none_bool b
  |int b=>obtain ⟨t,rfl⟩:=rx;show SeqAt.EqAt.none_int b t
  |str b=>obtain ⟨t,rfl⟩:=rx;show SeqAt.EqAt.none_str b t
  |_=>show absurd (show false=true from fx) zq6
 |bl a=>
  cases ry
  cases x with
  |non=>cases rx;show SeqAt.EqAt.bool_none a
  |bl b=>cases rx;show SeqAt.EqAt.bool_bool a b
  |int b=>obtain ⟨t,rfl⟩:=rx;show SeqAt.EqAt.bool_int a b t
  |str b=>obtain ⟨t,rfl⟩:=rx;show SeqAt.EqAt.bool_str a b t
  |_=>show absurd (show false=true from fx) zq6
 |int a=>
  obtain ⟨t',rfl⟩:=ry
  cases x with
  |non=>cases rx;show SeqAt.EqAt.int_none a t'
  |bl b=>cases rx;show SeqAt.EqAt.int_bool a t' b
  |int b=>obtain ⟨t,rfl⟩:=rx;show SeqAt.EqAt.int_int a t' b t
  |str b=>obtain ⟨t,rfl⟩:=rx;show SeqAt.EqAt.int_str a t' b t
  |_=>show absurd (show false=true from fx) zq6
 |str a=>
  obtain ⟨t',rfl⟩:=ry
  cases x with
  |non=>cases rx;show SeqAt.EqAt.str_none a t'
  |bl b=>cases rx;show SeqAt.EqAt.str_bool a t' b
  |int b=>obtain ⟨t,rfl⟩:=rx;show SeqAt.EqAt.str_int a t' b t
  |str b=>obtain ⟨t,rfl⟩:=rx;show SeqAt.EqAt.str_str a t' b t
  |_=>show absurd (show false=true from fx) zq6
 |_=>show absurd (show false=true from fy) zq6
def eqU(x:V)(u:Value):Bool:=match u with
 | .none=>eqV .non x
 | .bool b=>eqV (.bl b) x
 | .int i _=>eqV (.int i) x
 | .str z _=>eqV (.str z) x
 |_=>false
def um{x y:V}{u:Value}(r:RelV y u)(f:cf y=true):eqU x u=eqV y x:=by
 cases y with
 |non=>cases r;rfl
 |bl b=>cases r;rfl
 |int i=>obtain ⟨t,rfl⟩:=r;rfl
 |str z=>obtain ⟨t,rfl⟩:=r;rfl
 |_=>show absurd (show false=true from f) zq6
def iH{x:V}:∀{xs:N7} {us:N1},Vals xs us->xs.all cf=true->us.any (eqU x)=xs.any λy=>eqV y x
 |_,_,.nil,_=>rfl
 |y::xs,u::us,.cons r t,f=>by rw [vn,eN] at f;rw [tX,tX,um r f.1,iH t f.2]
def fJ{A:Around}{s:Shared}{x:V}{v:Value}(rx:RelV x v)(fx:cf x=true):∀{xs:N7} {us:N1},Vals xs us->xs.all cf=true->∀u∈us,SeqAt.EqAt A s u v (eqU x u)
 |_,_,.nil,_=>λu hu=>by cases hu
 |y::xs,u::us,.cons r t,f=>λu' hu=>by
  rw [vn,eN] at f;rcases zq9.mp hu with rfl | hu
  ·rw [um r f.1];show A8 r rx f.1 fx
  ·show fJ rx fx t f.2 u' hu
def inV(x:V)(xs:N7):Bool:=xs.any λy=>eqV y x
def rIn(K:N5)(neg:Bool):R2:=λx y H Q=>∃p xs,y=.ref p/\(SqL K H p xs\/SqT K H p xs)/\cf x=true/\xs.all cf=true/\Q (.bl (if neg then ! inV x xs else inV x xs)) H
def dZ:OpR X (compareOp .In) (rIn X.K false):=by
 intro pins s σ H x y v u Q I rx ry h;obtain ⟨p,xs,rfl,hq,fx,fs,q⟩:=h
 cases ry
 rcases hq with hq | hq
 ·obtain ⟨its,r,pl,hz⟩:=I.list hq;show SeqAt.in_listAt (eqU x) pl.isList (λw hw=>fJ rx fx r fs w (by simpa using hw)) {.bl _,H,I,rfl,?_};rw [show its.toArray.any (eqU x)=its.any (eqU x) by simp,iH r fs];show q
 ·obtain ⟨its,r,pl,hz⟩:=I.tuple hq;show SeqAt.in_tupleAt (eqU x) pl (λw hw=>fJ rx fx r fs w (by simpa using hw)) {.bl _,H,I,rfl,?_};rw [show its.toArray.any (eqU x)=its.any (eqU x) by simp,iH r fs];show q
def j8:OpR X (compareOp .NotIn) (rIn X.K true):=by
 intro pins s σ H x y v u Q I rx ry h;obtain ⟨p,xs,rfl,hq,fx,fs,q⟩:=h
 cases ry
 rcases hq with hq | hq
 ·obtain ⟨its,r,pl,hz⟩:=I.list hq;show SeqAt.notIn_listAt (eqU x) pl.isList (λw hw=>fJ rx fx r fs w (by simpa using hw)) {.bl _,H,I,rfl,?_};rw [show its.toArray.any (eqU x)=its.any (eqU x) by simp,iH r fs];show q
 ·obtain ⟨its,r,pl,hz⟩:=I.tuple hq;show SeqAt.notIn_tupleAt (eqU x) pl (λw hw=>fJ rx fx r fs w (by simpa using hw)) {.bl _,H,I,rfl,?_};rw [show its.toArray.any (eqU x)=its.any (eqU x) by simp,iH r fs];show q
def aC:eO X (.builtin "len") (λxs H Q=>∃p ys,xs=[.ref p]/\(SqL X.K H p ys\/SqT X.K H p ys)/\Q (.int ys.length) H):=by
 intro pins s σ H xs us Q I r h;obtain ⟨p,ys,rfl,hq,q⟩:=h;obtain ⟨u,rfl,rx⟩:=io r
 cases rx
 let hn:=lY;rcases hq with hq | hq
 ·obtain ⟨its,r',pl,hz⟩:=I.list hq;let hlen:=r'.length;show Calls.call_len_list pl.isList (by simp only [List.size_toArray]<;>omega) {.int ys.length,H,I.tok _,{s.toks+1,by rw [gN,hlen]},q}
 ·obtain ⟨its,r',pl,hz⟩:=I.tuple hq;let hlen:=r'.length;show len_tuple pl (by simp only [List.size_toArray]<;>omega) {.int ys.length,H,I.tok _,{s.toks+1,by rw [gN,hlen]},q}
def cc:eO X (.type "list") (λxs H Q=>∃p ys,xs=[.ref p]/\(SqL X.K H p ys\/SqT X.K H p ys)/\∀l,H l=none->Q (.ref l) (upd H l (.lst ys))):=by
 intro pins s σ H xs us Q I r h;obtain ⟨p,ys,rfl,hq,q⟩:=h;obtain ⟨u,rfl,rx⟩:=io r
 cases rx
 let fin:∀(its:N1),Vals ys its->ys.length<=sizeLine->∀(h':Heap)(c':Nat),(∀b o',s.heap.get? b=some o'->h'.get? b=some o')->
   h'.get? s.heap.objs.size=some {cls:=.type "list",dict:=none,data:=.seq its.toArray c',slots:=#[]}->EP X pins σ Q (.ref s.heap.objs.size) {s with heap:=h'}:=λits r' hz h' c' kp e=>
  {.ref s.heap.objs.size,_,I.laid (t':=s.toks) kp (zq4 _) (show ObjOk X.prog X.w _ h' _ (.lst ys) from ⟨hz,its,c',r',e⟩),rfl,q _ (I.hok.fresh (zq4 _))}
 rcases hq with hq | hq
 ·obtain ⟨its,r',pl,hz⟩:=I.list hq;let hlen:=r'.length;obtain ⟨o,ho,hc,n,hd⟩:=pl.isList;show call_list_seq p (.inl rfl) ho hc hd (λh' c' kp e=>fin its r' hz h' c' kp e) (by simp only [List.size_toArray]<;>omega)
 ·obtain ⟨its,r',pl,hz⟩:=I.tuple hq;let hlen:=r'.length;obtain ⟨o,ho,hc,n,hd⟩:=pl;show call_list_seq p (.inr rfl) ho hc hd (λh' c' kp e=>fin its r' hz h' c' kp e) (by simp only [List.size_toArray]<;>omega)
def mX:eO X (.type "tuple") (λxs H Q=>∃p ys,xs=[.ref p]/\((SqL X.K H p ys/\∀l,H l=none->Q (.ref l) (upd H l (.tup ys)))\/(SqT X.K H p ys/\Q (.ref p) H))):=by
 intro pins s σ H xs us Q I r h;obtain ⟨p,ys,rfl,h⟩:=h;obtain ⟨u,rfl,rx⟩:=io r
 cases rx
 rcases h with ⟨hq,q⟩ | ⟨hq,q⟩
 ·obtain ⟨its,r',pl,hz⟩:=I.list hq;let hlen:=r'.length;show call_tuple_list pl.isList (λh' kp=>?_) (by simp only [List.size_toArray]<;>omega);let I1:Inv X pins σ H {s with heap:=h'}:=I.kept (t':=s.toks) kp;let I2:Inv X pins σ (upd H h'.objs.size (.tup ys)) {s with heap:=h'.push {cls:=.type "tuple",data:=.seq its.toArray}}:=
   I1.laid (t':=s.toks) (λb o e=>cW _ e) (zq4 _) (show ObjOk X.prog X.w _ _ _ (.tup ys) from {hz,its,r',IsTup.new _ _})
  show {.ref h'.objs.size,_,I2,rfl,q _ (I1.hok.fresh (zq4 _))}
 ·obtain ⟨its,r',pl,hz⟩:=I.tuple hq;show call_tuple_same pl {.ref p,H,I,rfl,q}
def tyV(K:N5)(T:String)(x:V)(H:Hp):Prop:=match x with
 | .str _=>T="str"
 | .int _=>T="int"
 | .ref p=>(T="list"/\∃xs,SqL K H p xs)\/(T="tuple"/\∃o,K.lookup p=some o/\o.cls=.type "tuple"/\o.dict=none)\/
   (T="dict"/\((∃kvs,H p=some (.dK kvs))\/∃kvs,H p=some (.dT kvs)))\/(T="set"/\∃S n,H p=some (.set S n))
 |_=>False
def CI{pins:List (Addr×Obj)}{σ:St}{H:Hp}{s:Shared}{T:String}{x:V}{v:Value}(I:Inv X pins σ H s)(r:RelV x v)(ty:tyV X.K T x H):
  s.TypeIs v T/\∀a,v=.ref a->∃ob,s.heap.get? a=some ob/\ob.dict=none:=by
 cases x with
 |str z=>
  obtain ⟨t,rfl⟩:=r
  cases (show T="str" from ty)
  show {typeIs_str s z t,λ_ e=>nomatch e}
 |int i=>
  obtain ⟨t,rfl⟩:=r
  cases (show T="int" from ty)
  show {typeIs_int s i t,λ_ e=>nomatch e}
 |ref p=>
  cases r
  rcases ty with ⟨rfl,xs,hq⟩ | ⟨rfl,o,hk,hc,hd⟩ | ⟨rfl,hk⟩ | ⟨rfl,S,n,hk⟩
  ·obtain ⟨its,_,pl,_⟩:=I.list hq;show {pl.isList.typeIs,λa e=>?_}
   cases e
   obtain ⟨o,n,e,c,hd,_⟩:=pl;show ⟨o,e,hd⟩
  ·show {{o,I.kIn p o hk,hc},λa e=>?_}
   cases e
   show {o,I.kIn _ o hk,hd}
  ·let z:∃o,s.heap.get? p=some o/\o.ExactDict:=by
    rcases hk with ⟨kvs,hk⟩ | ⟨kvs,hk⟩
    ·obtain ⟨_,_,_,_,o,_,_,e,ex,_⟩:=I.hok p _ hk;show ⟨o,e,ex⟩
    ·obtain ⟨_,_,_,_,o,_,_,e,ex,_⟩:=I.hok p _ hk;show ⟨o,e,ex⟩
   obtain ⟨o,e,ex⟩:=z;show {⟨o,e,ex.1⟩,λa e2=>?_}
   cases e2
   show ⟨o,e,ex.2.1⟩
  ·obtain ⟨o,_,_,_,e,ex,_⟩:=I.hok p _ hk;show {⟨o,e,ex.1⟩,λa e2=>?_}
   cases e2
   show ⟨o,e,ex.2.1⟩
 |_=>show False.elim ty
def tBM(K:N5)(T:String)(r:V->N7->Hp->VK->Prop)(to:TE)(t:TA):TE:=λσ H Q=>to σ H λx H1=>tyV K T x H1/\t σ H1 λxs H2=>r x xs H2 Q
variable {o e:Expr} {es:N4} {to:TE} {t:TA} {name:Str} {apos cpos:Pos} {T id:String} {r:V->N7->Hp->VK->Prop}
def Js(pa:PlainAttrs T)(slot:Slot T name id)(hty:typeOf (.builtin id)=pure (.type "method_descriptor")) (hm:MtR X id r) (ho:PE X o to) (ha:PA X (e::es) t)
  (hbase:attributeBase o name X.env (eval o X.env)=eval o X.env:=by rfl)
  (hfew:((backTo cpos (starEach (e::es) X.env)).all (λx=>! x.1)&&(backToKw cpos (keywordEach [] X.env)).all (λx=>x.1.isSome)
   && decide ((e::es).length+([]:List Keyword).length+(if ([]:List Keyword).isEmpty then 0 else 1)<30))=true:=by rfl)
  (hline:(apos.endLine==cpos.line)=true:=by rfl) (hs:starEach (e::es) X.env=(false,eval e X.env)::starEach es X.env:=by rfl) (hplain:(backTo cpos (starEach es X.env)).any (·.1)=false:=by rfl) :
  PE X (.Call (.Attribute o name apos) (e::es) [] cpos) (tBM X.K T r to t):=by
 intro pins s σ H Q I h;show wpAny_Call_method_late hbase hfew hline rfl (thn (ho pins s σ H _ I h) λv s1 hhx=>?_);obtain ⟨x,H1,I1,r1,ty,q1⟩:=hhx;obtain ⟨h1,h2⟩:=CI I1 r1 ty;show {T,id,pa,slot,hty,h1,h2,?_};let hA:=ha cpos pins s1 σ H1 _ I1 q1;rw [hs] at hA ⊢;show Calls.callWith_builtin (by change (false || (backTo cpos (starEach es X.env)).any (·.1))=false;rw [hplain]<;>rfl) (Calls.evalArgs_plain ?_);show thn hA λus s2 ⟨vs,H2,I2,r2,q2⟩=>hm pins s2 σ H2 x vs v us Q I2 r1 r2 q2
/- xs.append(e),list.index on a module's tuple .. are MtR facts of 06m -/
end
end L2
namespace L2
def MtM(X:Cx)(id:String)(r:V->N7->Hp->VK->Prop):Prop:=
 ∀(pins:List (Addr×Obj)) (s:Shared) (σ:St) (H:Hp) (x:V) (xs:N7) (v:Value) (us:N1) (Q:VK),Inv X pins σ H s->RelV x v->Vals xs us->r x xs H Q->
  wpAny (model X.prog X.w) X.A (call (.builtin id) (v::us)) (EP X pins σ Q) X.xe s
def Vals.one:∀{x:V} {us:N1},Vals [x] us->∃u,us=[u]/\RelV x u
 |_,_,.cons r .nil=>{_,rfl,r}
section
variable {X:Cx} {pins:List (Addr×Obj)} {σ:St} {H:Hp} {s:Shared} {l b:Addr} {xs ys zs:N7}
def Inv.lset{its its':N1}{n:Nat}{f:Array Value->Array Value}{t':Nat}(I:Inv X pins σ H s)(hH:H l=some (.lst xs))
  (e:s.heap.get? l=some {cls:=.type "list",data:=.seq its.toArray n}) (hf:f its.toArray=its'.toArray) (hv:Vals ys its') (hz:ys.length<=sizeLine) :
  Inv X pins σ (upd H l (.lst ys)) {s with heap:=s.heap.update l (Obj.mapSeq f),toks:=t'}:=by
 let q:=PySem.IsL.update e f;rw [hf] at q;show I.write (x:=l) (e:=l) (by rw [hH];show trivial) (.inl rfl) (λb' u hb hu=>(G7 s.heap (Obj.mapSeq f) (Ne.symm hb)).trans hu) {_,q} ?_;show {hz,its',_,hv,q}
def Inv.lnew{its:N1}{t':Nat}(I:Inv X pins σ H s)(hv:Vals ys its)(hz:ys.length<=sizeLine):
  Inv X pins σ (upd H s.heap.objs.size (.lst ys)) {s with heap:=s.heap.push {cls:=.type "list",data:=.seq its.toArray},toks:=t'}:=
 I.laid (λ_ _ q=>cW _ q) (zq4 _) {hz,its,0,hv,eg _ rfl}
def Inv.fresh(I:Inv X pins σ H s):H s.heap.objs.size=none:=I.hok.fresh (zq4 _)
def Inv.lstM(I:Inv X pins σ H s)(hH:H l=some (.lst xs)):xs.length<=sizeLine/\∃(its:N1)(n:Nat),Vals xs its/\xs.length=its.length/\s.heap.get? l=some {cls:=.type "list",data:=.seq its.toArray n}:=by obtain ⟨z,its,n,r,e⟩:=I.hok l _ hH;show ⟨z,its,n,r,r.length,e⟩
def AN{n:Nat}(h:n<=sizeLine):Builtin.List.listTooLong n=false:=by unfold Builtin.List.listTooLong;show cR Oo
end
section
variable {X:Cx}
def pY:V->N7->Hp->VK->Prop:=λx vs H Q=>∃l xs y,x=.ref l/\vs=[y]/\H l=some (.lst xs)/\xs.length<sizeLine/\Q .non (upd H l (.lst (xs++[y])))
def aS:MtM X "list.append" pY:=by
 intro pins s σ H x vs v us Q I rx rv h;obtain ⟨l,xs,y,rfl,rfl,hH,hz,q⟩:=h
 cases rx
 obtain ⟨u,rfl,ru⟩:=rv.one;obtain ⟨z,its,n,r,hl,e⟩:=I.lstM hH;show call_meets F.slot_list_append {_,e,rfl} F.entry_list_append (F.args_list_append_2 _ _) (PySem.list_append l its.toArray n u (by rw [gN];omega)) {e,?_};show {.non,_,I.lset (its':=its++[u]) hH e Oq (r.append (.cons ru .nil)) ?_,rfl,q};rw [bW,dc];omega
def Et:V->N7->Hp->VK->Prop:=λx vs H Q=>∃l b xs zs,x=.ref l/\vs=[.ref b]/\H l=some (.lst xs)/\H b=some (.lst zs)/\xs.length+zs.length<=sizeLine/\Q .non (upd H l (.lst (xs++zs)))
def IR:MtM X "list.extend" Et:=by
 intro pins s σ H x vs v us Q I rx rv h;obtain ⟨l,b,xs,zs,rfl,rfl,hH,hB,hz,q⟩:=h
 cases rx
 obtain ⟨u,rfl,ru⟩:=rv.one
 cases ru
 obtain ⟨z,its,n,r,hl,e⟩:=I.lstM hH;obtain ⟨z2,its2,n2,r2,hl2,e2⟩:=I.lstM hB;let hsz:its.toArray.size+its2.toArray.size<=sizeLine:=by rw [gN,gN];omega
 let hlong:¬(! its.toArray.isEmpty&&Builtin.List.listTooLong (its.toArray.size+its2.toArray.size))=true:=by rw [AN hsz,Bool.and_false];show zq6
 show call_meets F.slot_list_extend {_,e,rfl} F.entry_list_extend (F.args_list_extend_2 _ _)
  (AutoSeq1.list_extend_list_list_0 l its.toArray n b its2.toArray n2 hlong (by rw [gN];omega) Oo) {e,e2,?_}
 show {.non,_,I.lset (its':=its++its2) hH e Oq (r.append r2) ?_,rfl,q};rw [bW];omega
def Ju:R2:=λx y H Q=>∃l b xs zs,x=.ref l/\y=.ref b/\H l=some (.lst xs)/\H b=some (.lst zs)/\xs.length+zs.length<=sizeLine/\∀p,H p=none->Q (.ref p) (upd H p (.lst (xs++zs)))
def eM:OpR X (binaryOp .Add) Ju:=by
 intro pins s σ H x y v u Q I rx ry h;obtain ⟨l,b,xs,zs,rfl,rfl,hH,hB,hz,q⟩:=h
 cases rx
 cases ry
 obtain ⟨z,its,n,r,hl,e⟩:=I.lstM hH;obtain ⟨z2,its2,n2,r2,hl2,e2⟩:=I.lstM hB;show PySem.P.add_list e e2 ?_ (by rw [gN,gN];omega);let ea:its.toArray++its2.toArray=(its++its2).toArray:=by simp
 rw [ea];show {.ref _,_,I.lnew (t':=s.toks) (r.append r2) (by rw [bW];omega),rfl,q _ I.fresh}
end
section
variable {prog:Program} {w:World} {A:Around} {E:Value->Shared->Prop} {s:Shared}
end
section
variable {X:Cx}
end
end L2
namespace L2
section
variable {κ:Type} [DecidableEq κ]
def cn(kvs:List (κ×V))(k:κ):N8:=(kvs.find? λkv=>decide (kv.1=k)).map (·.2)
def i6(kvs:List (κ×V))(k:κ)(v:V):List (κ×V):=
 if (kvs.any λkv=>decide (kv.1=k))=true then kvs.map (λkv=>if kv.1=k then (kv.1,v) else kv) else kvs++[(k,v)]
def dU{p:κ×V}{r:List (κ×V)}{k:κ}(e:p.1=k):cn (p::r) k=some p.2:=by simp [cn,List.find?_cons,e]
def dw{p:κ×V}{r:List (κ×V)}{k:κ}(e:¬p.1=k):cn (p::r) k=cn r k:=by simp [cn,List.find?_cons,e]
def tH(k:κ):∀kvs:List (κ×V),(kvs.any λkv=>decide (kv.1=k))=(cn kvs k).isSome
 | []=>rfl
 |p::r=>by
  rw [tX]
  by_cases e:p.1=k
  ·simp only [dU e,decide_eq_true e,Bool.true_or,Option.isSome_some]
  ·rw [dw e,cR e,D1];show tH k r
def ka(kvs:List (κ×V))(k:κ)(v:V):(i6 kvs k v).length<=kvs.length+1:=by
 unfold i6
 split
 ·rw [zq3];omega
 ·rw [bW,cG,Dv];omega
def RelO.isSome_eq{o:N8}{u:N6}(r:RelO o u):o.isSome=u.isSome:=by
 cases o with
 |none=>cases u with
  |none=>rfl
  |some _=>show (show False from r).elim
 |some _=>cases u with
  |none=>show (show False from r).elim
  |some _=>rfl
def RelO.getD{o:N8}{u:N6}{d:V}{d':Value}(r:RelO o u)(rd:RelV d d'):RelV (o.getD d) (u.getD d'):=by
 cases o with
 |none=>cases u with
  |none=>show rd
  |some _=>show (show False from r).elim
 |some _=>cases u with
  |none=>show (show False from r).elim
  |some _=>show r
def KV.val{kvs:List (κ×V)}{vs:List (κ×Value)}(r:KV kvs vs)(k:κ):RelO (cn kvs k) (valueAt vs k):=by
 unfold KV at r
 induction r with
 |nil=>show True.intro
 | @cons p q ps qs h t ih=>
  obtain ⟨h1,h2⟩:=h
  by_cases e:p.1=k
  ·let e':q.1=k:=h1.symm.trans e;let b:valueAt (q::qs) k=some q.2:=by simp [valueAt,List.find?_cons,e']
   rw [dU e,b];show h2
  ·let e':¬q.1=k:=λz=>e (h1.trans z);let b:valueAt (q::qs) k=valueAt qs k:=by simp [valueAt,List.find?_cons,e']
   rw [dw e,b];show ih
def KV.any{kvs:List (κ×V)}{vs:List (κ×Value)}(r:KV kvs vs)(k:κ):(kvs.any λkv=>decide (kv.1=k))=vs.any λkv=>decide (kv.1=k):=by
 unfold KV at r
 induction r with
 |nil=>rfl
 |cons h t ih=>rw [tX,tX,ih,h.1]
def KV.repl{kvs:List (κ×V)}{vs:List (κ×Value)}(r:KV kvs vs)(k:κ){y:V}{u:Value}(ry:RelV y u):
  KV (kvs.map λkv=>if kv.1=k then (kv.1,y) else kv) (vs.map λkv=>if kv.1=k then (kv.1,u) else kv):=by
 unfold KV at r ⊢
 induction r with
 |nil=>show .nil
 | @cons p q ps qs h t ih=>
  rw [cH,cH];show .cons ?_ ih;obtain ⟨h1,h2⟩:=h
  by_cases e:p.1=k
  ·rw [zq1 e,zq1 (h1.symm.trans e)];show ⟨h1,ry⟩
  ·rw [zq0 e,zq0 (λz=>e (h1.trans z))];show ⟨h1,h2⟩
def KV.put{kvs:List (κ×V)}{vs:List (κ×Value)}(r:KV kvs vs)(k:κ){y:V}{u:Value}(ry:RelV y u):KV (i6 kvs k y) (stored vs k u):=by
 unfold i6 stored;rw [r.any k]
 by_cases e:(vs.any λkv=>decide (kv.1=k))=true
 ·rw [zq1 e,zq1 e];show r.repl k ry
 ·rw [zq0 e,zq0 e];show Paired.snoc r ⟨rfl,ry⟩
def KV.keys{kvs:List (κ×V)}{vs:List (κ×Value)}(r:KV kvs vs):kvs.map (·.1)=vs.map (·.1):=by
 unfold KV at r
 induction r with
 |nil=>rfl
 |cons h t ih=>rw [cH,cH,ih,h.1]
def KV.length{kvs:List (κ×V)}{vs:List (κ×Value)}(r:KV kvs vs):kvs.length=vs.length:=Paired.length r
end
def rK{P:Program}{w:World}{k:Key}{u:Value}(r:RelV (kV k) u):(bG P w).is k u=true:=by
 cases k with
 |inl i=>obtain ⟨t,e⟩:=(show ∃t,u=Value.int i t from r);subst e;show rT P w i t
 |inr x=>obtain ⟨t,e⟩:=(show ∃t,u=Value.str x t from r);subst e;show rV P w x t
def om{P:Program}{w:World}:∀{ks:List Key} {us:N1},Vals (ks.map kV) us->ItemsAre (bG P w) ks us
 | [],_,r=>by rw [D2] at r;cases r;show .nil
 |k::ks,_,r=>by
  rw [cH] at r
  cases r with
  |cons h t=>show .cons (rK h) (om t)
abbrev KT (H:Hp):List (List Key×V)->List (List Key×Addr×Value)->Prop:=Paired λp q=>p.1=q.1/\H q.2.1=some (.tup (p.1.map kV))/\RelV p.2 q.2.2
def KT.val{H:Hp}{kvs:List (List Key×V)}{xs:List (List Key×Addr×Value)}(r:KT H kvs xs)(k:List Key):RelO (cn kvs k) ((atKey xs k).map (·.2)):=by
 induction r with
 |nil=>show True.intro
 | @cons p q ps qs h t ih=>
  obtain ⟨h1,_,h2⟩:=h
  by_cases e:p.1=k
  ·let e':q.1=k:=h1.symm.trans e;let b:atKey (q::qs) k=some q.2:=by simp [atKey,List.find?_cons,e']
   rw [dU e,b];show h2
  ·let e':¬q.1=k:=λz=>e (h1.trans z);let b:atKey (q::qs) k=atKey qs k:=by simp [atKey,List.find?_cons,e']
   rw [dw e,b];show ih
def KT.repl{H:Hp}{kvs:List (List Key×V)}{xs:List (List Key×Addr×Value)}(r:KT H kvs xs)(k:List Key){y:V}{u:Value}(ry:RelV y u):
  KT H (kvs.map λkv=>if kv.1=k then (kv.1,y) else kv) (xs.map (putAt k u)):=by
 induction r with
 |nil=>show .nil
 | @cons p q ps qs h t ih=>
  rw [cH,cH];show .cons ?_ ih;obtain ⟨h1,h2,h3⟩:=h;unfold putAt
  by_cases e:p.1=k
  ·rw [zq1 e,zq1 (h1.symm.trans e)];show ⟨h1,h2,ry⟩
  ·rw [zq0 e,zq0 (λz=>e (h1.trans z))];show ⟨h1,h2,h3⟩
def KT.put{H:Hp}{kvs:List (List Key×V)}{xs:List (List Key×Addr×Value)}(r:KT H kvs xs)(k:List Key){b:Addr}{y:V}{u:Value}(hb:H b=some (.tup (k.map kV)))(ry:RelV y u):
  KT H (i6 kvs k y) (storedH xs k b u):=by
 let e:(kvs.any λkv=>decide (kv.1=k))=(atKey xs k).isSome:=by rw [tH,(r.val k).isSome_eq,Option.isSome_map]
 unfold i6 storedH;rw [e]
 by_cases q:(atKey xs k).isSome=true
 ·rw [zq1 q,zq1 q];show r.repl k ry
 ·rw [zq0 q,zq0 q];show Paired.snoc r ⟨rfl,hb,ry⟩
def KT.keeps{H H':Hp}{kvs:List (List Key×V)}{xs:List (List Key×Addr×Value)}(r:KT H kvs xs)(ht:∀b ys,H b=some (.tup ys)->H' b=some (.tup ys)):KT H' kvs xs:=
 Nx r λ_ _ z=>{z.1,ht _ _ z.2.1,z.2.2}
section
variable {P:Program} {w:World} {H:Hp} {h:Heap} {a:Addr}
def FE{u:HO}(ok:HOk P w H h)(e:Rd H a u):ObjOk P w H h a u:=e.ok ok
def rh{kvs:List (Key×V)}(ok:HOk P w H h)(e:Rd H a (.dK kvs)):kvs.length<=sizeLine/\(a==sysModules)=false/\∃vs,KV kvs vs/\h.DictOf (bG P w) a vs:=
 show ObjOk P w H h a (.dK kvs) from FE ok e
def Fg{kvs:List (Key×V)}(ok:HOk P w H h)(e:H a=some (.dK kvs)):kvs.length<=sizeLine/\(a==sysModules)=false/\∃vs,KV kvs vs/\h.DictOf (bG P w) a vs:=rh ok (.inl e)
def jA{ks:List Key}(ok:HOk P w H h)(e:H a=some (.tup (ks.map kV))):(tupleKind (bG P w)).is h ks a:=by
 obtain ⟨_,its,r,o,h1,h2,n,h3⟩:=(show ObjOk P w H h a (.tup (ks.map kV)) from ok a _ e)
 show {o,its.toArray,n,h1,h2,h3,by simpa using om r}
def rm{kvs:List (List Key×V)}(ok:HOk P w H h)(e:Rd H a (.dT kvs)):kvs.length<=sizeLine/\(a==sysModules)=false/\
  ∃xs,KT H kvs xs/\h.DictOfH (tupleKind (bG P w)) a xs:=by
 obtain ⟨z,y,xs,r,o,es,ep,h1,h2,h3,h4,h5⟩:=(show ObjOk P w H h a (.dT kvs) from FE ok e)
 show {z,y,xs,r,o,es,ep,h1,h2,h3,h4,λx hx=>?_,h5};let all:∀{l:List (List Key×V)} {m:List (List Key×Addr×Value)},KT H l m->∀x∈m,(tupleKind (bG P w)).is h x.1 x.2.1:=by
  intro l m q
  induction q with
  |nil=>intro x hx;show nomatch hx
  | @cons p q ps qs hq t ih=>
   intro x hx;rcases zq9.mp hx with e | hx
   ·subst e;show jA ok (by rw [<- hq.1];show hq.2.1)
   ·show ih x hx
 show all r x hx
def A7{kvs:List (List Key×V)}(ok:HOk P w H h)(e:H a=some (.dT kvs)):kvs.length<=sizeLine/\(a==sysModules)=false/\
  ∃xs,KT H kvs xs/\h.DictOfH (tupleKind (bG P w)) a xs:=rm ok (.inl e)
end
def DGet(H:Hp)(a:Addr)(y:V)(r:N8):Prop:=
 (∃kvs k,Rd H a (.dK kvs)/\y=kV k/\r=cn kvs k)\/∃kvs k b,Rd H a (.dT kvs)/\y=.ref b/\H b=some (.tup (k.map kV))/\r=cn kvs k
def DPut(H:Hp)(a:Addr)(y v:V)(H':Hp):Prop:=
 (∃kvs k,H a=some (.dK kvs)/\y=kV k/\kvs.length<sizeLine/\H'=upd H a (.dK (i6 kvs k v)))\/
 ∃kvs k b,H a=some (.dT kvs)/\y=.ref b/\H b=some (.tup (k.map kV))/\kvs.length<sizeLine/\H'=upd H a (.dT (i6 kvs k v))
def DGet.t{H:Hp}{a b:Addr}{kvs:List (List Key×V)}{k:List Key}(e:H a=some (.dT kvs))(eb:H b=some (.tup (k.map kV))):DGet H a (.ref b) (cn kvs k):=.inr {kvs,k,b,.inl e,rfl,eb,rfl}
def DPut.k{H:Hp}{a:Addr}{kvs:List (Key×V)}{k:Key}{v:V}(e:H a=some (.dK kvs))(hl:kvs.length<sizeLine):DPut H a (kV k) v (upd H a (.dK (i6 kvs k v))):=.inl ⟨kvs,k,e,rfl,hl,rfl⟩
section
variable {X:Cx} {pins:List (Addr×Obj)} {σ:St} {H:Hp} {s:Shared} {a:Addr} {y v:V} {u r:Value} {o:N8} {A:Around} {E:Value->Shared->Prop}
def Inv.big(I:Inv X pins σ H s):sysModules<s.heap.objs.size:=by let h:mainGlobals<s.heap.objs.size:=(I.mod.glob.keeps I.bk).lt;show Nat.lt_trans On h
def y8{Q:Value->Shared->Prop}(hu:A.units+1<cLine)(I:Inv X pins σ H s)(g:DGet H a y (some v))(ry:RelV y u)(h:∀w' s',Inv X pins σ H s'->RelV v w'->Q w' s'):
  wpAny (model X.prog X.w) A (getItem (.ref a) u) Q E s:=by
 rcases g with ⟨kvs,k,e,ey,l⟩ | ⟨kvs,k,b,e,ey,eb,l⟩
 ·subst ey;obtain ⟨z,hd,vs,rel,dd⟩:=rh I.hok e;obtain ⟨w',hw,rw'⟩:=NH (v:=v) (o:=valueAt vs k) (by rw [l];show rel.val k);show wpAny_getItem_of (rK ry) dd.mapOf hw (h w' _ (I.tok _) rw')
 ·subst ey
  cases (show u=Value.ref b from ry)
  obtain ⟨z,hd,xs,rel,dd⟩:=rm I.hok e;obtain ⟨w',hw,rw'⟩:=NH (v:=v) (o:=(atKey xs k).map (·.2)) (by rw [l];show rel.val k);obtain ⟨p,hp,hp2⟩:=zq30.mp hw;show wpAny_getItem_heap (tupleKind_room_in1 hu) (jA I.hok eb) dd hp ?_;rw [hp2];show h w' _ (I.tok _) rw'
def DJ{Q:Value->Shared->Prop}(hu:A.units+1<cLine)(I:Inv X pins σ H s)(g:DGet H a y o)(ry:RelV y u)(h:∀s',Inv X pins σ H s'->Q (.bool (! o.isSome)) s'):
  wpAny (model X.prog X.w) A (compareOp .NotIn u (.ref a)) Q E s:=by
 rcases g with ⟨kvs,k,e,ey,l⟩ | ⟨kvs,k,b,e,ey,eb,l⟩
 ·subst ey;obtain ⟨z,hd,vs,rel,dd⟩:=rh I.hok e;show wpAny_notIn_of (rK ry) hd dd.mapOf ?_;rw [<- (rel.val k).isSome_eq,<- l];show h _ (I.tok _)
 ·subst ey
  cases (show u=Value.ref b from ry)
  obtain ⟨z,hd,xs,rel,dd⟩:=rm I.hok e;show wpAny_notIn_heap (tupleKind_room_in1 hu) (jA I.hok eb) hd dd ?_;let q:=(rel.val k).isSome_eq;rw [Option.isSome_map] at q;rw [<- q,<- l];show h _ (I.tok _)
def iQ{h':Heap}{t':Nat}{ob:HO}(I:Inv X pins σ H s)(mu:Mut (H a))(hs:Heap.SameBut a s.heap h')(he:∃q,h'.get? a=some q)(new:ObjOk X.prog X.w (upd H a ob) h' a ob):
  Inv X pins σ (upd H a ob) {s with heap:=h',toks:=t'}:=
 I.write (x:=a) (e:=a) mu (.inl rfl) (λb q hb z=>(hs.2 b hb).trans z) he new
def Gx{P:Program}{w:World}{H':Hp}{h':Heap}{kvs:List (Key×V)}{vs:List (Key×Value)}(z:kvs.length<=sizeLine)(hd:(a==sysModules)=false)(rel:KV kvs vs)(dd:h'.DictOf (bG P w) a vs):
  ObjOk P w H' h' a (.dK kvs):=⟨z,hd,vs,rel,dd⟩
def y9{H':Hp}{Q:Unit->Shared->Prop}(hu:A.units+1<cLine)(I:Inv X pins σ H s)(g:DPut H a y v H')(ry:RelV y u)(rv:RelV v r)(h:∀s',Inv X pins σ H' s'->Q () s'):
  wpAny (model X.prog X.w) A (setItem (.ref a) u r) Q E s:=by
 rcases g with ⟨kvs,k,e,ey,l,eH⟩ | ⟨kvs,k,b,e,ey,eb,l,eH⟩
 ·subst ey eH;obtain ⟨z,hd,vs,rel,dd⟩:=Fg I.hok e;let hz:vs.length<=sizeLine:=by rw [<- rel.length];show z
  let hl:(i6 kvs k v).length<=sizeLine:=by let this:=ka kvs k v;omega
  show wpAny_setItem_pairs (hsz:=hz) (rK ry) dd λh' dd' hs=>h _ ?_;let he:∃q,h'.get? a=some q:=let ⟨q,_,_,hq,_⟩:=dd';⟨q,hq⟩;show iQ I (by rw [e];show True.intro) hs he (Gx hl hd (rel.put k rv) dd')
 ·subst ey eH
  cases (show u=Value.ref b from ry)
  obtain ⟨z,hd,xs,rel,dd⟩:=A7 I.hok e;let hz:xs.length<=sizeLine:=by rw [<- Paired.length rel];show z
  let hl:(i6 kvs k v).length<=sizeLine:=by let this:=ka kvs k v;omega
  show wpAny_setItem_heap (hsz:=hz) (tupleKind_room_in1 hu) (jA I.hok eb) dd λh' dd' hs=>h _ ?_;obtain ⟨q,es,ep,hq,h2,h3,h4,_,h5⟩:=dd';show iQ I (by rw [e];show True.intro) hs ⟨q,hq⟩ {hl,hd,_,(rel.put k eb rv).keeps λc ys ec=>?_,q,es,ep,hq,h2,h3,h4,h5};rw [ak (aO ec e (λz=>nomatch z))];show ec
end
section
variable {X:Cx} {pins:List (Addr×Obj)} {σ:St} {H:Hp} {s:Shared} {a:Addr} {kvs:List (Key×V)} {k:Key} {u:Value} {A:Around} {E:Value->Shared->Prop}
end
def Gj(i:Expr):Prop:=∀ov iv,subscripted i false ov iv=operate [ov,iv] (getItem ov iv)
def xp{prog:Program}{w:World}{A:Around}{E:Value->Shared->Prop}{s:Shared}{env:Env}{value slice:Expr}{pos:Pos}{T id:String}{Q:Value->Shared->Prop}
  (hl:typeLookup (.type T) "__getitem__"=pure (some (.builtin id))) (hs:Gj slice)
  (h:wpAny (model prog w) A (eval value env) (λo s₁=>wpAny (model prog w) A (eval slice env) (λi s₂=>s₂.TypeIs o T/\wpAny (model prog w) A (getItem o i) Q E s₂) E s₁) E s) :
  wpAny (model prog w) A (eval (.Subscript value slice pos) env) Q E s:=by
 show Subscript_ (jn h (λo s₁ h₁=>jn h₁ (λi s₂ h₂=>?_) λ_ _ x=>x) λ_ _ x=>x);obtain ⟨hT,h₂⟩:=h₂;unfold subscriptTail;show zq2 ?_;rw [getitemInPython_of_ne hT.not_modules];show zq2 (wpAny_specialOf hT hl ?_);let fin:wpAny (model prog w) A (subscripted slice false o i) (λr s₃=>wpAny (model prog w) A (letTemporaryGo value o r >>= λ_=>pure r) Q E s₃) E s₂:=by rw [hs o i];show wpAny_operating (jn h₂ (λr s₃ h₃=>zq2 (wpAny_letTemporaryGo (zq5 h₃))) λ_ _ x=>x)
 first
  |show zq5 (zq2 fin)
  |show zq2 (zq5 (zq2 fin))
  |show zq2 fin
def rf{X:Cx}{pins:List (Addr×Obj)}{σ:St}{H:Hp}{s:Shared}{a:Addr}{y:V}{o:N8}(I:Inv X pins σ H s)(g:DGet H a y o):s.TypeIs (.ref a) "dict":=by
 rcases g with ⟨kvs,k,e,_,_⟩ | ⟨kvs,k,b,e,_,_,_⟩
 ·obtain ⟨_,_,vs,_,dd⟩:=rh I.hok e;show dd.typeIs
 ·obtain ⟨_,_,xs,_,dd⟩:=rm I.hok e;show dd.typeIs
def FV(td ty:TE):TE:=λσ H Q=>td σ H λx H1=>ty σ H1 λy H2=>∃a v,x=.ref a/\DGet H2 a y (some v)/\Q v H2
def xr(ty td:TE):TE:=λσ H Q=>ty σ H λy H1=>td σ H1 λx H2=>∃a o,x=.ref a/\DGet H2 a y o/\Q (.bl (! o.isSome)) H2
def BV(td ty tv:TE):TS:=λD σ H=>tv σ H λv H1=>td σ H1 λx H2=>ty σ H2 λy H3=>∃a H4,x=.ref a/\DPut H3 a y v H4/\D.nx σ H4
section
variable {X:Cx} {o i e value:Expr} {pos pos' tpos:Pos} {td ty tv:TE}
def Er(hu:X.A.units+1<cLine)(ho:PE X o td)(hi:PE X i ty)(hv:PE X value tv)(hs:swapsWith value (some (.Subscript o i pos')) pos.line X.env=pure false):
  PS X (.Assign [.Subscript o i pos'] value pos) (BV td ty tv):=by
 intro pins s σ H D I h;show wpAny_Assign_Subscript (thn (hv pins s σ H _ I h) λr s1 ⟨v,H1,I1,rv,q1⟩=>thn (ho pins s1 σ H1 _ I1 q1) λu s2 ⟨x,H2,I2,rx,q2⟩=>thn (hi pins s2 σ H2 _ I2 q2) λiv s3 hhx=>?_) hs;obtain ⟨y,H3,I3,ry,a,H4,ex,g,q3⟩:=hhx;subst ex;obtain rfl:u=Value.ref a:=rx;show y9 hu I3 g ry rv λs4 I4=>⟨σ,H4,I4,q3⟩
end
def A5{P:Program}{w:World}{H:Hp}(h:Heap)(hb:sysModules<h.objs.size):ObjOk P w H (h.push {cls:=.type "dict",data:=.dict #[]}) h.objs.size (.dK []):=
 {cE _,beq_eq_false_iff_ne.mpr (Ne.symm (dG hb)),[],.nil,Heap.DictOf.new h}
def rj{P:Program}{w:World}{H:Hp}(h:Heap)(hb:sysModules<h.objs.size):ObjOk P w H (h.push {cls:=.type "dict",data:=.dict #[]}) h.objs.size (.dT []):=
 {cE _,beq_eq_false_iff_ne.mpr (Ne.symm (dG hb)),[],.nil,_,#[],0,eg _ rfl,⟨rfl,rfl,rfl⟩,rfl,rfl,List.nodup_nil}
def Cw:TE:=λ_ H Q=>∀p,H p=none->Q (.ref p) (upd H p (.dK []))
def Cz:TE:=λ_ H Q=>∀p,H p=none->Q (.ref p) (upd H p (.dT []))
section
variable {X:Cx} {pos:Pos}
end
structure M1(X:Cx)(o:Expr)(m:Str)(apos:Pos)(e:Expr)(cpos:Pos):Prop where
 base:attributeBase o m X.env (eval o X.env)=eval o X.env
 few:((backTo cpos (starEach [e] X.env)).all (λx=>! x.1)&&(backToKw cpos (keywordEach [] X.env)).all (λx=>x.1.isSome)
  && decide (([e]:N4).length+([]:List Keyword).length+(if ([]:List Keyword).isEmpty then 0 else 1)<30))=true
 line:(apos.endLine==cpos.line)=true
 trees:backTo cpos (starEach [e] X.env)=[(false,eval e X.env)]
def IsD(H:Hp)(a:Addr):Prop:=(∃kvs,Rd H a (.dK kvs))\/∃kvs,Rd H a (.dT kvs)
def GG{X:Cx}{pins:List (Addr×Obj)}{σ:St}{H:Hp}{s:Shared}{a:Addr}(I:Inv X pins σ H s)(d:IsD H a):
  s.TypeIs (.ref a) "dict"/\(∀b,Value.ref a=.ref b->∃ob,s.heap.get? b=some ob/\ob.dict=none)/\(a==sysModules)=false:=by
 rcases d with ⟨kvs,e⟩ | ⟨kvs,e⟩
 ·obtain ⟨_,hd,vs,_,dd⟩:=rh I.hok e;show {dd.typeIs,λb q=>?_,hd}
  cases q
  obtain ⟨ob,_,_,h1,h2,_⟩:=dd;show ⟨ob,h1,h2.2.1⟩
 ·obtain ⟨_,hd,xs,_,dd⟩:=rm I.hok e;show {dd.typeIs,λb q=>?_,hd}
  cases q
  obtain ⟨ob,_,_,h1,h2,_⟩:=dd;show ⟨ob,h1,h2.2.1⟩
section
variable {X:Cx} {pins:List (Addr×Obj)} {σ:St} {H:Hp} {s:Shared} {a:Addr} {y d:V} {u r:Value} {o:N8} {A:Around} {E:Value->Shared->Prop}
end
section
variable {X:Cx} {o e f:Expr} {apos cpos:Pos} {td ty tx:TE}
end
section
variable {X:Cx} {pins:List (Addr×Obj)} {σ:St} {H:Hp} {s:Shared} {a:Addr} {kvs:List (Key×V)} {A:Around} {E:Value->Shared->Prop}
end
section
variable {X:Cx} {pins:List (Addr×Obj)} {σ:St} {H:Hp} {s:Shared} {a:Addr} {y:V} {u:Value} {A:Around} {E:Value->Shared->Prop}
end
end L2
end
namespace Att
open PySem PySem.W PySem.Calls PyProof.Rows
def ko{P:Params}{h:Heap}:∀(ns:N3)(vs:N1),WellAll P h vs (ns.map WData.int)->IntsAre vs ns:=by
 intro ns
 induction ns with
 |nil=>
  intro vs w;rw [D2] at w
  cases w
  show .nil
 |cons n ns ih=>
  intro vs w;rw [cH] at w
  cases w with
  |cons a b=>
   cases a
   show .cons _ _ (ih _ b)
def yW{l:OpenLaw}{n:Nat}(hn:l.most=some n){P:Params}{h:Heap}{args:List WData}{vals:N1}
  (hpre:l.row.toRowW.claim.pre args=true) (hwl:WellAll P h vals args) :
  ∃a vs ns,vals=[Value.ref a]/\args=[WData.list (ns.map WData.int)]/\h.get? a=some {cls:=.type "list",data:=.seq vs.toArray}/\IntsAre vs ns/\ns.length<=n:=by
 let hsh:WShape.hasAll [] args [.list .int]=true:=(pre_splitW hpre).1;let hc:l.pre.holds [] {args:=args}=true:=(pre_splitW hpre).2;obtain ⟨d,r,rfl,h1,h2⟩:=hasAllW_cons hsh;obtain rfl:=hasAllW_nil h2;obtain ⟨xs,rfl,h3⟩:=hasW_list h1;obtain ⟨ns,rfl⟩:=items_int h3;let hlen:ns.length<=n:=by
  unfold OpenLaw.pre at hc;let h4:(WTm.not (.lt (.lit (.int (n:Int))) (.len (.arg 0)))).holds [] {args:=[.list (ns.map .int)]}=true:=by let h4:=(holds_andW hc).1;rw [hn] at h4;show h4
  let h5:=condW_of h4 (w_not (w_lt w_lit (w_len_list (w_arg rfl))));rw [zq3] at h5;show Nat.le_of_not_lt λq=>?_;let q':(n:Int)<((ns.length:Nat):Int):=by omega
  first
   | (rw [bX q'] at h5;show absurd h5 On)
   | (simp at h5;omega)
 cases hwl with
 |cons w1 w2=>
  cases w2
  cases w1 with
  |list ho hall=>show {_,_,ns,rfl,rfl,ho,ko ns _ hall,hlen}
def yK(l:OpenLaw)(args:List WData):l.row.toRowW.claim.post args (.bool true) args=true:=
 postW_of (r:=l.row.toRowW) (X:=(true==true))
  (show WShape.has [] (.bool true) .bool=true by first | rfl | decide | simp [WShape.has,WShape.arms,WShape.armsAll])
  (show (WTm.eq .res (.lit (.bool true))).value [] {args:=args,res:=some (.bool true),after:=args}=some (.bool (true==true)) from w_eq_bool (w_res rfl) w_lit) rfl
section
variable {prog:Program} {w:World} {A:Around} {E:Value->Shared->Prop} {s:Shared} {K:Frag}
end
end Att
namespace L2
open PySem PySem.Spec PyProof.Rows
def jQ:∀{vs:N1} {ns:N3},IntsAre vs ns->Vals (ns.map V.int) vs
 |_,_,.nil=>.nil
 |_,_,.cons n t h=>.cons ⟨t,rfl⟩ (jQ h)
def Gk(H:Hp):Prop:=∀b,H b=none\/∃o xs,H b=some (.frz o (.lst xs))
def Aw{P:Program}{w:World}{K:N5}{mg mb:Str->N6}{CX:CXT}{k:Nat}{fa a:Addr}{fd:FuncData}{x:Str}{sp:Sp}{s₁:Shared}{vs:N1}{ns:N3}
  (KX:K.In s₁.heap) (hns:s₁.heap.Ns mainGlobals mg) (hb:s₁.heap.Ns builtinsNs mb) (hbb:∀x:Str,x≠"__name__"->mb x=bootBuiltins x) (hlim:s₁.heap.NoLimit) (hg:s₁.gens=#[])
  (ha:s₁.heap.get? a=some {cls:=.type "list",data:=.seq vs.toArray}) (hi:IntsAre vs ns) (hl:ns.length<=sizeLine) (hr:Room k callerA)
  (F:∀base:Heap,K.In base->base.Ns mainGlobals mg->FnOk P w K mg base CX k fa fd [x] sp) (hbind:∀(s:Shared)(u:Value),BindsTo s fd {[u],[]} [(x,u)])
  (hsp:∀H:Hp,Gk H->SqL K H a (ns.map V.int)->sp [.ref a] H (λv _=>v=.bl true) λ_ _ _=>False)
  (hCX:∀H e s',CX [] H s₁ (λ_ _ _=>False) e s'->False) :
  codeAny (model P w) callerA (.call (.ref fa) {[.ref a],[]}) (λr s'=>r=.ok (.ret (.bool true))/\OldK s₁.heap s'.heap/\s'.os=s₁.os/\AllBare s'.gens) s₁:=by
 let rv:=jQ hi;let lenV:=hi.length;let core:∀H:Hp,Gk H->SqL K H a (ns.map V.int)->HOk P w H s₁.heap->(∀b,H b≠none->b=a)->(H a≠none->K.lookup a=none)->
   codeAny (model P w) callerA (.call (.ref fa) {[.ref a],[]}) (λr s'=>r=.ok (.ret (.bool true))/\OldK s₁.heap s'.heap/\s'.os=s₁.os/\AllBare s'.gens) s₁:=by
  intro H hO hS hok hA hK;let base_of:∀{b:Addr} {o:Obj},s₁.heap.get? b=some o->H b=none->(pH s₁.heap H).get? b=some o:=λe n=>Ak e n;let noA:∀{b:Addr} {o:Obj} {es:Array DictEntry} {ep:Nat},s₁.heap.get? b=some o->o.data=.dict es ep->H b=none:=λ{b o es ep} e d=>by
   cases q:H b with
   |none=>rfl
   |some u=>
    let e':b=a:=hA b (by rw [q];simp);subst e';rw [ha] at e;cases e;let d':Data.seq vs.toArray _=Data.dict es ep:=d
    cases d'
  let nsK:∀{b:Addr} {m:Str->N6},s₁.heap.Ns b m->(pH s₁.heap H).Ns b m:=λ{b m} ⟨o,es,ep,e,d,r⟩=>{o,es,ep,base_of e (noA e d),d,r}
  let hKb:K.In (pH s₁.heap H):=λb o e=>base_of (KX b o e) (by
   cases q:H b with
   |none=>rfl
   |some u=>have e':b=a:=hA b (by rw [q];simp);subst e';rw [hK (by rw [q];simp)] at e;cases e)
  let hM:Mod K mg (pH s₁.heap H):={hKb,nsK hns,{mb,nsK hb,hbb},let ⟨mc,h1,h2⟩:=hlim;{mc,nsK h1,h2}}
  let e0:Env0 P w K mg (pH s₁.heap H) callerA [] s₁ H:={rfl,hM,λb o e=>E5 e,Dt (yh _ _),trivial,λb hb=>absurd (show b∈([]:N2) from hb) Oq,hok,.of_eq hg}
  show codeAny_mono ((F _ hKb (nsK hns)).run callerA [] s₁ H {[.ref a],[]} [.ref a] [.ref a] _ _ hr e0 (hbind s₁ (.ref a)) (.cons rfl .nil) (hsp H hO hS)) λr s' h=>?_
  cases r with
  |error e=>show (hCX H e s' h).elim
  |ok fl=>
   cases fl with
   |next=>show False.elim h
   |brk=>show False.elim h
   |cont=>show False.elim h
   |ret u=>
    obtain ⟨v,H',os,bare,un,hok',r',q⟩:=h;let q':v=.bl true:=q;subst q';obtain rfl:u=Value.bool true:=r';show {rfl,OldK.of_keep λb o e=>?_,os,bare}
    cases q:H b with
    |none=>show un.keep b o e q (by intro z;show absurd (show b∈([]:N2) from z) Oq) Oq
    |some u=>
     rcases hO b with z | ⟨ob,xs,z⟩
     ·rw [q] at z;cases z
     ·let z2:=un.frzs b ob _ z;obtain ⟨e1,_⟩:=hok b _ z;obtain ⟨e2,_⟩:=hok' b _ z2;rw [e] at e1;cases e1;show e2
 cases hk:K.lookup a with
 |some o=>
  let e:=KX a o hk;rw [ha] at e
  cases e
  show core (λ_=>none) (λ_=>.inl rfl) (.inr {_,vs.toArray,_,hk,rfl,rfl,rfl,by rw [gN,lenV];show hl,by simpa using rv}) (λb u z=>by let z':(none:Option HO)=some u:=z;cases z') (λb z=>absurd rfl z) λz=>absurd rfl z
 |none=>
  show core (λb=>if b=a then some (.frz {cls:=.type "list",data:=.seq vs.toArray} (.lst (ns.map V.int))) else none) (λb=>?_) (.inl (.inr {{cls:=.type "list",data:=.seq vs.toArray},zq1 rfl})) (λb u z=>?_) (λb z=>?_) λ_=>hk
  ·by_cases hb:b=a
   ·show .inr {_,_,zq1 hb}
   ·show .inl (zq0 hb)
  ·by_cases hb:b=a
   ·let z':=(zq1 hb).symm.trans z
    cases z'
    subst hb;show {ha,by rw [zq3];show hl,vs,_,rv,ha}
   ·let z':=(zq0 hb).symm.trans z
    cases z'
  ·by_cases hb:b=a
   ·show hb
   ·show absurd (zq0 hb) z
end L2
namespace L2
open PySem PySem.Spec PyProof.Rows
end L2
/- THE LAST THEOREM (shape;LID,My.* are yours):
   My.Adr: a structure of the addresses that your layer names (classes,functions);My.Txt K t: a structure (Prop) of the equations over K;
   My.txt_mk:{K} {implicit addresses ..} (e1:nsIn K mainGlobals "law"=some (some (.ref f))) (e2:K.lookup f=some {oc,od,.func (fnOf "law" "law" params body scope dV kV doc pm an cdv ct),sl}) (e3:codeIn K cdv "law"=true) ..:∃t,My.Txt K t
set_option maxRecDepth 100000 in
set_option maxHeartbeats 0 in
def PySem.Challenge.cw_LID_holds:PySem.Challenge.rw_LID.Holds:=by
 w_on;o_law;k_head;(case hw=>w_witness2)
 k_fill
 show L2.walk_of (l:=PySem.Challenge.rw_LID) (n:=63) (k:=40) (x:="script") (CX:=λw=>..) (sp:=λ_=>My.sp_law) rfl On rfl ⟨rfl,On,On⟩ (λw h Y=>W.kIn_of Y) ?F ?S ?C
 case F=>
  intro w mg fa h KX G hmg;let T:∃t,My.Txt (L2.KOf KX) t:=by
   dsimp only [L2.KOf]                          -- K must stand as «<heap const> w.params» for k_is;refine' My.txt_mk ?e1 ?e2 ?e3 ..
   (case e1=>W.k_is)                    -- in the order: a name->its address->its object->its parts
   (case e2=>W.k_is)
   ..
  obtain ⟨t,T⟩:=T;let e0:=hmg.symm.trans (W.mg_of KX G T.law)
  cases e0                                       -- fa is the law's own address
  show {_,λs u=>.of_eq rfl,λbase kb nb=>My.law_fn T kb nb}     -- if «.of_eq rfl» comes too early: refine' {_,?b,λbase kb nb=>My.law_fn T kb nb};show λs u=>.of_eq rfl
 case S=>show λw H a ns hl hO hS=>..
 case C=>show ..
(the tactic k_is has no namespace: write k_is) -/
section
open PySem PySem.Spec PyProof.Rows
namespace L2
variable {H:Hp} {f:Addr} {qual x:Str}
def bj(s:Stmt)(j:Nat):Stmt:=match s with
 | .ClassDef _ _ _ body _ _ _ _ _ _ _=>body.getD j (.Pass ⟨0,0,0,0⟩)
 |_=>.Pass ⟨0,0,0,0⟩
def df(s:Stmt):Arguments:=match s with
 | .FunctionDef _ a _ _ _ _ _ _ _ _=>a
 |_=>{posonlyargs:=[],args:=[],vararg:=none,kwonlyargs:=[],kw_defaults:=[],kwarg:=none,defaults:=[]}
def cM(s:Stmt):List Stmt:=match s with
 | .FunctionDef _ _ b _ _ _ _ _ _ _=>b
 |_=>[]
def ar(s:Stmt):Scope:=match s with
 | .FunctionDef _ _ _ _ _ _ sc _ _ _=>sc
 |_=>{kind:=.function,names:=[],isGenerator:=false,isCoroutine:=false}
abbrev CX0:CXT:=λ_ _ _ _ _ _=>False
abbrev E0:XK:=λ_ _ _=>False
def oy{X:Cx}:fV CX0 X E0:=λ_ _ _ _ _ _ _ h=>h.elim
structure Fun(K:N5)(x qual:Str)(st:Stmt)(f:Addr)(fd:FuncData):Prop where
 ex:∃(oc:Value)(od:Option Addr)(kV doc pm:Value)(an:Option Addr)(cdv ct:Value)(osl:Array N6),
  fd=W.fnOf x qual (df st) (cM st) (ar st) .none kV doc pm an cdv ct/\K.lookup f=some {oc,od,.func fd,osl}/\W.codeIn K cdv qual=true
 kp:W.keepIn K (.ref f)=true
section
variable {P:Program} {w:World} {K:N5} {mg:Str->N6} {base:Heap}
def Fun.ok{st:Stmt}{fd:FuncData}{N ps:N0}{k:Nat}{sp:Sp}(F:Fun K x qual st f fd)(S:aB N ps (ar st))(len:∀vs H Q E,sp vs H Q E->vs.length=ps.length)
 (hbody:∀(cdv:Value)(A:Around)(outer:List Env)(s:Shared)(H:Hp)(vs:N7)(Q:VK)(E:XK),Room k (A.deeper (envOfC qual (ar st) s.heap.objs.size f cdv))->sp vs H Q E->
 ∃t,PSs (pA CX0 P w K mg base N qual (ar st) f cdv A outer s H E).nox (cM st) t/\t {nx:=λ_ H'=>Q .non H',rt:=Q} (start N vs) H):FnOk P w K mg base CX0 (k+1) f fd ps sp:=by
 obtain ⟨oc,od,kV,doc,pm,an,cdv,ct,osl,rfl,lk,hcd⟩:=F.ex;show Fi lk hcd S len λA outer s H vs Q E hr hsp=>?_;obtain ⟨t,h,q⟩:=hbody cdv A outer s H vs Q E hr hsp;show ⟨t,h.nox,q⟩
def Fun.binds{st:Stmt}{fd:FuncData}{ps:N0}(F:Fun K x qual st f fd)
 (h:∀(kV doc pm:Value)(an:Option Addr)(cdv ct:Value)(us:N1),us.length=ps.length->bindArgs (W.fnOf x qual (df st) (cM st) (ar st) .none kV doc pm an cdv ct) {us,[]}=pure (ps.zip us)):Binds K fd ps []:=by
 obtain ⟨oc,od,kV,doc,pm,an,cdv,ct,osl,rfl,lk,hcd⟩:=F.ex;show .all (h kV doc pm an cdv ct)
def pG{st:Stmt}{oc:Value}{od an:Option Addr}{osl:Array N6}{kV doc pm cdv ct:Value}(l:K.lookup f=some {oc,od,.func (W.fnOf x qual (df st) (cM st) (ar st) .none kV doc pm an cdv ct),osl})
 (c:W.codeIn K cdv qual=true) (k:W.keepIn K (.ref f)=true):Fun K x qual st f (W.fnOf x qual (df st) (cM st) (ar st) .none kV doc pm an cdv ct):={⟨oc,od,kV,doc,pm,an,cdv,ct,osl,rfl,l,c⟩,k}
end
def ii{A:Around}{k:Nat}(hr:Room k A):A.units+1<cLine:=tR (xG (by decide:1<=64) _) hr.units
section
variable {X:Cx}
end
def Jd{A B:Prop}(h:B):if false=true then A else B:=by rw [zq0 zq6];show h
def M6{A B:Prop}(h:A):if true=true then A else B:=by rw [zq1 rfl];show h
def Same(H H':Hp):Prop:=∀b o,H b=some o->H' b=some o
def Same.refl(H:Hp):Same H H:=λ_ _ h=>h
def Nq:=@Same.refl
def Same.trans{H1 H2:Hp}(a:Same H H1)(b:Same H1 H2):Same H H2:=λc o h=>b c o (a c o h)
def Same.free{H':Hp}(e:Same H H'){l:Addr}(h:H' l=Option.none):H l=Option.none:=by
 cases q:H l with
 |none=>rfl
 |some o=>
  rw [e l o q] at h
  cases h
def Same.seq{K:N5}{H':Hp}{a:Addr}{xs:N7}(e:Same H H')(h:SqL K H a xs):SqL K H' a xs:=by
 rcases h with (h | ⟨o,h⟩) | h
 ·show .inl (.inl (e _ _ h))
 ·show .inl (.inr {o,e _ _ h})
 ·show .inr h
end L2
namespace L2
section
variable {X:Cx}
end
section
variable {κ:Type} [DecidableEq κ]
end
end L2
namespace L2
section
variable {X:Cx}
def CDivB(i j:Int):Prop:=0<j/\j.natAbs.log2<9000
def B3:OpR X (binaryOp .FloorDiv) (rI CDivB λi j=>.int (i / j)):=opI λi j _ _ _ _ _ hc q=>by let h1:(0:Int)<j:=hc.1;show floordiv_int Oo (by rw [G5 i Oo];show q) (.inl (PyProof.noPylong_of_log2 hc.2))
def CDivB.small{i j:Int}(h:0<j)(h2:j<1073741824):CDivB i j:=⟨h,by let h3:j.natAbs.log2<30:=(Nat.log2_lt Oo).mpr Oo;omega⟩
def Nr:=@CDivB.small
end
def aJ{c A B:Prop}[Decidable c](h1:c->A)(h2:¬c->B):if decide c=true then A else B:=by
 by_cases h:c
 ·rw [zq1 (bX h)];show h1 h
 ·rw [zq0 (λq=>h (of_decide_eq_true q))];show h2 h
def rH{c A B:Prop}[Decidable c](h1:¬c->A)(h2:c->B):if (! decide c)=true then A else B:=by
 by_cases h:c
 ·rw [bX h];show Jd (h2 h)
 ·rw [cR h];show M6 (h1 h)
structure br(K:N5)(mg:Str->N6)(x:Str)(st:Stmt)(ps:N0)(f:Addr)(fd:FuncData):Prop where
 F:Fun K x x st f fd
 B:Binds K fd ps []
 M:mg x=some (.ref f)
def B7{X:Cx}{k:Nat}{f:Addr}{fd:FuncData}{ps:N0}{sp:Sp}{x:Str}{st:Stmt}{p pos:Pos}{e:Expr}{es:N4}{t:TA}(D:br X.K X.mg x st ps f fd)(G:FnOk X.prog X.w X.K X.mg X.base CX0 k f fd ps sp)(hr:Room k X.A)
  (ha:PA X (e::es) t) (hg:Gl X x:=by rfl) (hdb:(x==("__debug__":Str))=false:=by decide) (he:starEach (e::es) X.env=(false,eval e X.env)::starEach es X.env:=by rfl) (hpl:(backTo pos (starEach es X.env)).any (·.1)=false:=by rfl) :
  PE X (.Call (.Name x p) (e::es) [] pos) (mK sp [] E0 t):=wK G hr hg D.M D.F.kp D.B .nil oy ha hdb he hpl
def Ite(K:N5)(a:Addr):It:=
  ⟨λi H=>∃xs x,SqL K H a xs/\xs[i]?=some x,
   λi H x H'=>∃p y,x=.ref p/\H p=none/\H'=upd H p (.tup [.int i,y])/\∀xs,SqL K H a xs->xs[i]?=some y,
   λi H=>∃xs,SqL K H a xs/\xs.length<=i⟩
def zd{P:Program}{w:World}{K:N5}{elts:N4}{k0:Nat}{pos0:Pos}(a e it:Addr)(hei:e≠it):
  mU P w K (.Tuple elts k0 pos0) (Ite K a) [e,it] e (λi h=>(∃old,IsEnum h e it i old)/\h.IsListIter it a i) where
 mem:=by simp
 obj:=λi h ⟨⟨old,he⟩,hit⟩ b hb=>by
  rcases zq9.mp hb with rfl | hb
  ·show ⟨_,he,λv z=>by
    let z':Data.fields _=Data.cell v:=z
    cases z'⟩
  ·let e':b=it:=by simpa using hb
   subst e';obtain ⟨o,q,c,d⟩:=hit;show {o,q,λv z=>by rw [d] at z;cases z}
 keep:=λi h h' ⟨⟨old,he⟩,hit⟩ k=>{{old,k e Oq _ he},hit.at λo q=>k it Oq o q}
 item:=by
  intro X hP hw hK hc i pins s σ H E I hf st hg;subst hP hw hK;obtain ⟨xs,x,hq,hx⟩:=hg;obtain ⟨its,rv,p,hz⟩:=I.list hq;obtain ⟨u,hu,ru⟩:=rv.get hx;obtain ⟨⟨old,he⟩,hit⟩:=st;obtain ⟨f0,f1,f2,f3,f4,f5⟩:=hf e Oq;obtain ⟨g0,g1,g2,g3,g4,g5⟩:=hf it Oq;show wpAny_pyNext_enum_item he hit p.isList (x:=u) (by simpa using hu) hei λh1 ho hit1 hT hsz hk=>?_;show {_,rfl,wpAny_letOwnedTupleGo_enum ho λh2 he2 hs2=>?_};replace hs2:Heap.SameBut e h1 h2:=hs2;let helt:e<s.heap.objs.size:=cu he;let hk2:∀b o,b≠e->b≠it->s.heap.get? b=some o->h2.get? b=some o:=λb o b1 b2 q=>(hs2.2 b b1).trans (hk b o b1 b2 q);let hT2:h2.get? s.heap.objs.size=some {cls:=.type "tuple",data:=.seq #[.int i s.toks,u]}:=(hs2.2 _ (vj helt)).trans hT;let hn:H s.heap.objs.size=none:=I.hok.fresh (zq4 _);let nE:∀b v,H b=some v->b≠e:=λb v q z=>by rw [z,f0] at q;cases q
  let nI:∀b v,H b=some v->b≠it:=λb v q z=>by rw [z,g0] at q;cases q
  let ok2:HOk X.prog X.w H h2:=λb v q=>(I.hok b v q).stay (λc v' hc r=>by
   rcases hc with z | z
   ·show hk2 c v' (by rw [z];show nE b v q) (by rw [z];show nI b v q) r
   ·show hk2 c v' (nE c _ z) (nI c _ z) r) (λ_ r=>r) λ_ _ r=>r
  let ok3:HOk X.prog X.w (upd H s.heap.objs.size (.tup [.int i,x])) h2:=λb v q=>by
   by_cases hb:b=s.heap.objs.size
   ·subst hb;rw [ae] at q
    cases q
    show {by change 2<=sizeLine;decide,[.int i s.toks,u],.cons {_,rfl} (.cons ru .nil),{_,hT2,rfl,_,rfl}}
   ·rw [ak hb] at q;show (ok2 b v q).stay (λc v' _ r=>r) (λc r=>by rw [ak (au r hn)];show r) λc ys r=>by rw [ak (au r hn)];show r
  let nlt:∀{b:Addr} {o:Obj},s.heap.get? b=some o->b≠s.heap.objs.size:=λq=>dG (cu q);let I2:Inv X pins σ (upd H s.heap.objs.size (.tup [.int i,x])) {s with heap:=h2,toks:=s.toks+1}:=
   I.step (g':=s.gens) (d':=s.drawn) (ch:=[e,it]) (λb hb=>by
     rcases zq9.mp hb with rfl | hb
     ·show ⟨f3,f1,f4,f5⟩
     ·let e':b=it:=by simpa using hb
      subst e';show ⟨g3,g1,g4,g5⟩)
    (λb o _ _ hc q _=>hk2 b o (λz=>hc (by simp [z])) (λz=>hc (by simp [z])) q)
    (λb o _ _ hc q _=>{o.slots,hk2 b o (λz=>hc (by simp [z])) (λz=>hc (by simp [z])) q})
    (λb o _ q n=>by rw [ak (nlt q)];show n)
    (λb o hc q=>{o,hk2 b o (λz=>hc (by simp [z])) (λz=>hc (by simp [z])) q})
    (λb ys q=>by rw [ak (au q hn)];show q) (λb o v q=>by rw [ak (au q hn)];show q) (λb ps q=>{#[],by rw [ak (au q hn),q];simp})
    (λm ⟨o,es,ep,hm,r⟩=>{o,es,ep,hk2 _ o (Ne.symm f1) (Ne.symm g1) hm,r}) ok3 I.bare
  show {.ref s.heap.objs.size,_,I2,rfl,{_,x,rfl,hn,rfl,λys hy=>by rw [I.list_inj hy hq];show hx},{{_,by simpa using he2},hit1.at λo y=>(hs2.2 it hei.symm).trans y},λb hb=>?_};rcases zq9.mp hb with rfl | hb
  ·rw [ak (dG helt)];show f0
  ·let e':b=it:=by simpa using hb
   subst e';obtain ⟨o,q,_⟩:=hit;rw [ak (nlt q)];show g0
 done:=by intro X hP hw hK hc i pins s σ H E I hf st hg;subst hP hw hK;obtain ⟨xs,hq,hx⟩:=hg;obtain ⟨its,rv,p,hz⟩:=I.list hq;obtain ⟨⟨old,he⟩,hit⟩:=st;obtain ⟨g0,g1,g2,g3,g4,g5⟩:=hf it Oq;let hl:=rv.length;show wpAny_pyNext_enum_end (I.ok.hd hc) he hit p.isList (by simp;omega) λh' eb=>{rfl,I.turned (t':=s.toks) (it:=it) (λb o hb q=>eb b o hb q) g0 g1 g3 g4 g5}
 self:=λ_ _ _ _ _ ⟨⟨_,he⟩,_⟩ h=>wpAny_pyIter_enum he h
def Al(K:N5)(ta:TA):TI:=λσ H R=>ta σ H λvs H1=>∃a,vs=[.ref a]/\(∃xs,SqL K H1 a xs)/\R (Ite K a) H1
def Eo{X:Cx}{a:Expr}{ta:TA}{p pos pos0:Pos}{elts:N4}{k0:Nat}(hm:X.mg "enumerate"=none) (ha:PA X [a] ta) (hg:Gl X "enumerate":=by rfl) (hs:starEach [a] X.env=[(false,eval a X.env)]:=by rfl) :
  PI X (.Tuple elts k0 pos0) (.Call (.Name "enumerate" p) [a] [] pos) (Al X.K ta):=by
 intro pins s σ H R I h;show Call_ (fD I hg hm boot_enumerate (Nt (thn (ha pos pins s σ H _ I h) λus s1 hhx=>?_) hs rfl));obtain ⟨vs,H1,I1,r1,q1⟩:=hhx;obtain ⟨l,e,⟨xs,hq⟩,q⟩:=q1;subst e
 cases r1 with
 |cons r rr=>
  cases rr
  cases r
  obtain ⟨its,rv,pl,hz⟩:=I1.list hq;show call_enumerate_list pl.isList λh' he hit hsz hk=>?_;show wpAny_pyIter_enum he ?_;let I2:Inv X pins σ H1 {s1 with heap:=h'}:=I1.kept (t':=s1.toks) hk;show {s1.heap.objs.size+1,[s1.heap.objs.size+1,s1.heap.objs.size],_,_,H1,rfl,I2,zd l _ _ (Nat.succ_ne_self _),{{_,he},hit},λb hb=>?_,q};let hle:s1.heap.objs.size<=b:=by
   rcases zq9.mp hb with rfl | hb
   ·show zq _
   ·rw [zq15.mp hb];show zq4 _
  show I1.fpOk hle (I1.hok.fresh hle)
def Aa{K:N5}{a:Addr}{xs:N7}{g:TG}{tb:TS}{D:dJ}{σ:St}{H:Hp}(Pv:Nat->St->Hp->Prop)(h0:Pv 0 σ H)(hl:∀i σ H,i<=xs.length->Pv i σ H->SqL K H a xs)
  (hs:∀(i:Nat)x σ H p,xs[i]?=some x->H p=none->Pv i σ H->g (.ref p) σ (upd H p (.tup [.int i,x])) λσ2 H2=>tb {D with nx:=Pv (i+1),ct:=Pv (i+1),bk:=D.nx} σ2 H2) (hd:∀σ H,Pv xs.length σ H->D.nx σ H) :
  ∃W:Nat->Nat->St->Hp->Prop,(∃m,W 0 m σ H)/\∀i m σ H,W i m σ H->
   ((Ite K a).stop i H/\D.nx σ H)\/((Ite K a).go i H/\∃N:St->Hp->Prop,(∀σ' H',N σ' H'->∃m',m'<m/\W (i+1) m' σ' H')/\∀x H',(Ite K a).yld i H x H'->g x σ H' λσ2 H2=>tb {D with nx:=N,ct:=N,bk:=D.nx} σ2 H2):=by
 show {λi m σ H=>m=xs.length-i/\i<=xs.length/\Pv i σ H,{xs.length,Oq,cE _,h0},?_};rintro i m σ H ⟨rfl,hi,p⟩;let q:=hl i σ H hi p
 by_cases hlt:i<xs.length
 ·show .inr {{xs,xs[i],q,by simp [hlt]},Pv (i+1),λσ' H' p'=>{xs.length-(i+1),Oo,rfl,hlt,p'},λx H' y=>?_};obtain ⟨pp,z,ex,hn,eH,y⟩:=y;subst ex eH;show hs i z σ H pp (y xs q) hn p
 ·let e:i=xs.length:=by omega
  subst e;show .inl {{xs,q,zq4 _},hd σ H p}
def qM{ns:N3}(h:W.WData.layableAll [W.WData.list (ns.map W.WData.int)]=true):∀n∈ns,Builtin.Int.intBits n<=2 ^ 20:=λn hn=>by let h1:=(W.layW_cons h).1;let h2:=W.layableW_item h1 (W.WData.int n) (zq32.mpr ⟨n,hn,rfl⟩);show PyData.bits_of_layable (W.layable0_of_all (W.lay0_int h2))
section
open PySem.W PySem.Calls
def CL{l:W.OpenLaw}{n k:Nat}{q:Program}{loose:N0}{XP:(Str->N6)->Heap->Prop}{YP:World->Heap->Prop}{d:DefRec}{K:Params->N5}{CX:World->CXT}{sp:World->Sp}{x:Str}
  (hn:l.most=some n) (hn2:n<=sizeLine) (hdf:d.params.defaults=[]) (hr:Room k callerA)
  (hY:∀(w:World)(h:Heap),YP w h->(K w.params).In h)
  (F:∀(w:World)(mg:Str->N6)(fa:Addr)(h:Heap),(K w.params).In h->h.Ns mainGlobals mg->mg d.name=some (.ref fa)->
   ∃fd:FuncData,(∀(s:Shared)(u:Value),BindsTo s fd {[u],[]} [(x,u)])/\
    ∀base:Heap,(K w.params).In base->base.Ns mainGlobals mg->FnOk l.prog w (K w.params) mg base (CX w) k fa fd [x] (sp w))
  (hsp:∀(w:World)(H:Hp)(a:Addr)(ns:N3),ns.length<=n->(∀z∈ns,Builtin.Int.intBits z<=2 ^ 20)->Gk H->SqL (K w.params) H a (ns.map V.int)->sp w [.ref a] H (λv _=>v=.bl true) λ_ _ _=>False)
  (hCX:∀(w:World)(H:Hp)(s:Shared)(e:Value)(s':Shared),CX w [] H s (λ_ _ _=>False) e s'->False) :
  W.WalkO q loose XP YP l.row.toRowW d [] (λf vs=>PySem.call f vs):=by
 intro w s₀ s₁ mg mb G Y fa o pm cd doc dV kV ho hd hcd hD hmg hg args vals as hpre hlay hrd hwl hlo;obtain rfl:dV=.none:=Dflts.none hD hdf;obtain rfl:kV=.none:=Dflts.noKw hD;obtain ⟨a,vs,ns,rfl,rfl,hobj,hints,hlen⟩:=Att.yW hn hpre hwl;let KX:=hY w _ Y;obtain ⟨fd,hb,hF⟩:=F w mg fa _ KX G.T.g hmg;show enter_call (codeAny_mono (Aw KX G.T.g G.T.b G.T.builtins G.T.nolimit hg hobj hints (bF hlen hn2) hr hF hb (λH hO hS=>hsp w H a ns hlen (qM hlay) hO hS) λH e s'=>hCX w H s₁ e s') λr s' hq=>?_);obtain ⟨rfl,h2,h3,h4⟩:=hq;show {.inl {.bool true,.bool true,[],rfl,λ_=>rfl,.bool true,Att.yK l _,λ_=>{List.Pairwise.nil,λ_ hm=>(nomatch hm)}},h2,h3,h4}
end
end L2
namespace L2
variable {a p:Addr} {a0 a1 a10 a11 a2 a3 a4 a5 a6 a7 a8 a9 b:N8} {c i j:Int} {n:Nat} {r:St} {ta:TE} {xs:N7}
section
variable {H:Hp} {Q:VK} {σ:St} {D:dJ}
def Mf{v:V}{Z:St->Hp->Prop}:bI 0 v (b::r) H Z=Z (some v::r) H:=rfl
def Mg{v:V}{Z:St->Hp->Prop}:bI 1 v (a0::b::r) H Z=Z (a0::some v::r) H:=rfl
def Mh{v:V}{Z:St->Hp->Prop}:bI 2 v (a0::a1::b::r) H Z=Z (a0::a1::some v::r) H:=rfl
def Mi{v:V}{Z:St->Hp->Prop}:bI 3 v (a0::a1::a2::b::r) H Z=Z (a0::a1::a2::some v::r) H:=rfl
def Mj{v:V}{Z:St->Hp->Prop}:bI 4 v (a0::a1::a2::a3::b::r) H Z=Z (a0::a1::a2::a3::some v::r) H:=rfl
def Ml{v:V}{Z:St->Hp->Prop}:bI 5 v (a0::a1::a2::a3::a4::b::r) H Z=Z (a0::a1::a2::a3::a4::some v::r) H:=rfl
def Mm{v:V}{Z:St->Hp->Prop}:bI 6 v (a0::a1::a2::a3::a4::a5::b::r) H Z=Z (a0::a1::a2::a3::a4::a5::some v::r) H:=rfl
def Mn{v:V}{Z:St->Hp->Prop}:bI 7 v (a0::a1::a2::a3::a4::a5::a6::b::r) H Z=Z (a0::a1::a2::a3::a4::a5::a6::some v::r) H:=rfl
def Mo{v:V}{Z:St->Hp->Prop}:bI 8 v (a0::a1::a2::a3::a4::a5::a6::a7::b::r) H Z=Z (a0::a1::a2::a3::a4::a5::a6::a7::some v::r) H:=rfl
def Mp{v:V}{Z:St->Hp->Prop}:bI 9 v (a0::a1::a2::a3::a4::a5::a6::a7::a8::b::r) H Z=Z (a0::a1::a2::a3::a4::a5::a6::a7::a8::some v::r) H:=rfl
def JM{v:V}{Z:St->Hp->Prop}:bI 10 v (a0::a1::a2::a3::a4::a5::a6::a7::a8::a9::b::r) H Z=Z (a0::a1::a2::a3::a4::a5::a6::a7::a8::a9::some v::r) H:=rfl
def JN{v:V}{Z:St->Hp->Prop}:bI 11 v (a0::a1::a2::a3::a4::a5::a6::a7::a8::a9::a10::b::r) H Z=Z (a0::a1::a2::a3::a4::a5::a6::a7::a8::a9::a10::some v::r) H:=rfl
def JO{v:V}{Z:St->Hp->Prop}:bI 12 v (a0::a1::a2::a3::a4::a5::a6::a7::a8::a9::a10::a11::b::r) H Z=Z (a0::a1::a2::a3::a4::a5::a6::a7::a8::a9::a10::a11::some v::r) H:=rfl
def JP{v:V}{Z:St->Hp->Prop}{a12:N8}:bI 13 v (a0::a1::a2::a3::a4::a5::a6::a7::a8::a9::a10::a11::a12::b::r) H Z=Z (a0::a1::a2::a3::a4::a5::a6::a7::a8::a9::a10::a11::a12::some v::r) H:=rfl
def JQ{v:V}{Z:St->Hp->Prop}{a12:N8}{a13:N8}:bI 14 v (a0::a1::a2::a3::a4::a5::a6::a7::a8::a9::a10::a11::a12::a13::b::r) H Z=Z (a0::a1::a2::a3::a4::a5::a6::a7::a8::a9::a10::a11::a12::a13::some v::r) H:=rfl
def r_c{v:V}:tC v σ H Q=Q v H:=rfl
def Mv{r:R2}{tb:TE}:tOp r ta tb σ H Q=ta σ H λx H1=>tb σ H1 λy H2=>r x y H2 Q:=rfl
def MA{r:V->Hp->VK->Prop}:tUn r ta σ H Q=ta σ H λx H1=>r x H1 Q:=rfl
def qZ:decide (V.int i=V.int j)=decide (i=j):=by
 by_cases h:i=j
 ·rw [bX h,bX (congrArg V.int h)]
 ·rw [cR h,cR λq=>h (V.int.inj q)]
def A2{i j:Str}:decide (V.str i=V.str j)=decide (i=j):=by
 by_cases h:i=j
 ·rw [bX h,bX (congrArg V.str h)]
 ·rw [cR h,cR λq=>h (V.str.inj q)]
def JI:rEq (.int i) (.int j) H Q=Q (.bl (decide (i=j))) H:=by change (yV (.int i) (.int j)=true/\Q (.bl (decide (V.int i=V.int j))) H)=_;rw [qZ];show propext {λh=>h.2,λh=>⟨rfl,h⟩}
def JJ{i j:Str}:rEq (.str i) (.str j) H Q=Q (.bl (decide (i=j))) H:=by change (yV (.str i) (.str j)=true/\Q (.bl (decide (V.str i=V.str j))) H)=_;rw [A2];show propext {λh=>h.2,λh=>⟨rfl,h⟩}
def JZ:rNe (.int i) (.int j) H Q=Q (.bl (! decide (i=j))) H:=by change (yV (.int i) (.int j)=true/\Q (.bl (! decide (V.int i=V.int j))) H)=_;rw [qZ];show propext {λh=>h.2,λh=>⟨rfl,h⟩}
def HM{c:Bool}{Z:Bool->Prop}:(∃k,V.bl c=V.bl k/\Z k)=Z c:=propext {by rintro ⟨_,e,q⟩;cases e;show q,by intro q;show ⟨c,rfl,q⟩}
def ED{Z:Int->Prop}:(∃k,V.int c=V.int k/\Z k)=Z c:=propext {by rintro ⟨_,e,q⟩;cases e;show q,by intro q;show ⟨c,rfl,q⟩}
def Iy{t:TE}{Z:Bool->Hp->Prop}:G4 t σ H Z=t σ H λx H'=>∃k,x=.bl k/\Z k H':=rfl
def r_B{t:TE}{Z:Bool->Hp->Prop}:tB t σ H Z=t σ H λx H'=>∃k,x=.bl k/\Z k H':=rfl
def JC{t u:TT}{Z:Bool->Hp->Prop}:LN t u σ H Z=t σ H λc H1=>if c=true then u σ H1 Z else Z false H1:=rfl
def Mw{t u:TT}{Z:Bool->Hp->Prop}:tOr t u σ H Z=t σ H λc H1=>if c=true then Z true H1 else u σ H1 Z:=rfl
def K3{t:TT}{Z:Bool->Hp->Prop}:LQ t σ H Z=t σ H λc H1=>Z (! c) H1:=rfl
def HA{tb:TE}:FU ta tb σ H Q=ta σ H λx H1=>∃c,x=.bl c/\if c=true then tb σ H1 Q else Q (.bl false) H1:=rfl
def K5{tb:TE}:LR ta tb σ H Q=ta σ H λx H1=>∃c,x=.bl c/\if c=true then Q (.bl true) H1 else tb σ H1 Q:=rfl
def Ip:G1 ta σ H Q=ta σ H λx H1=>∃c,x=.bl c/\Q (.bl (! c)) H1:=rfl
def Mq{t:TT}{tb:TE}:tIf t ta tb σ H Q=t σ H λc H1=>if c=true then ta σ H1 Q else tb σ H1 Q:=rfl
def Im:G0 D σ H=D.nx σ H:=rfl
def BH{t u:TS}:CB t u D σ H=t {D with nx:=u D} σ H:=rfl
def HH{te:TE}:FY te D σ H=te σ H λ_ H1=>D.nx σ H1:=rfl
def K7{te:TE}:CA te D σ H=te σ H D.rt:=rfl
def Fw{c:TT}{t u:TS}:IE c t u D σ H=c σ H λb H1=>if b=true then t D σ H1 else u D σ H1:=rfl
def JE{te:TE}{g:TG}:F1 te g D σ H=te σ H λx H1=>g x σ H1 D.nx:=rfl
def Mc{r:N7->Hp->VK->Prop}{t:TA}:tCB r t σ H Q=t σ H λvs H1=>r vs H1 Q:=rfl
def K1{Z:N7->Hp->Prop}:tD σ H Z=Z [] H:=rfl
def HE{tr:TA}{Z:N7->Hp->Prop}:Cu ta tr σ H Z=ta σ H λx H1=>tr σ H1 λxs H2=>Z (x::xs) H2:=rfl
def HD{sp:Sp}{E:XK}{t:TA}:mK sp [] E t σ H Q=t σ H λvs H1=>sp vs H1 Q E:=by change (t σ H λvs H1=>sp (vs++[]) H1 Q E)=_;simp only [List.append_nil]
def Kb{t:TA}:LS t σ H Q=t σ H λxs H1=>xs.length<=sizeLine/\∀p,H1 p=none->Q (.ref p) (upd H1 p (.tup xs)):=rfl
def JY{t:TA}:LP t σ H Q=t σ H λxs H1=>xs.length<=sizeLine/\∀p,H1 p=none->Q (.ref p) (upd H1 p (.lst xs)):=rfl
def HF{td ty:TE}:FV td ty σ H Q=td σ H λx H1=>ty σ H1 λy H2=>∃a v,x=.ref a/\DGet H2 a y (some v)/\Q v H2:=rfl
def Mx{r:V->Option Int->Option Int->Hp->VK->Prop}{te:TE}{tl th:TO}:tSl r te tl th σ H Q=te σ H λx H1=>tl σ H1 λl H2=>th σ H2 λu H3=>r x l u H3 Q:=rfl
def BC{Z:Option Int->Hp->Prop}:xu σ H Z=Z none H:=rfl
def Iq{te:TE}{Z:Option Int->Hp->Prop}:G3 te σ H Z=te σ H λx H1=>∃i,x=.int i/\Z (some i) H1:=rfl
def HN{Z:St->Hp->Prop}:Ag [] σ H Z=Z σ H:=propext {λh=>h.2,λh=>⟨rfl,h⟩}
def EF{t:TG}{u:TGs}{v:V}{r:N7}{Z:St->Hp->Prop}:jZ t u (v::r) σ H Z=t v σ H λσ' H'=>u r σ' H' Z:=propext {by rintro ⟨_,_,e,q⟩;cases e;show q,by intro q;show ⟨v,r,rfl,q⟩}
def JT{A B:Prop}:(if false=true then A else B)=B:=zq0 zq6
def Mu:(! true)=false:=rfl
def Mt:(! false)=true:=rfl
def I0:(([]:N7).length<=sizeLine)=True:=eq_true (by change 0<=sizeLine;decide)
def Ia{a0:V}:(([a0]:N7).length<=sizeLine)=True:=eq_true (by change 1<=sizeLine;decide)
def Ib{a0 a1:V}:(([a0,a1]:N7).length<=sizeLine)=True:=eq_true (by change 2<=sizeLine;decide)
def Ic{a0 a1 a2:V}:(([a0,a1,a2]:N7).length<=sizeLine)=True:=eq_true (by change 3<=sizeLine;decide)
def Id{a0 a1 a2 a3:V}:(([a0,a1,a2,a3]:N7).length<=sizeLine)=True:=eq_true (by change 4<=sizeLine;decide)
def Ie{a0 a1 a2 a3 a4 a5 a6:V}:(([a0,a1,a2,a3,a4,a5,a6]:N7).length<=sizeLine)=True:=eq_true (by change 7<=sizeLine;decide)
def Ig{a0 a1 a2 a3 a4 a5 a6 a7:V}:(([a0,a1,a2,a3,a4,a5,a6,a7]:N7).length<=sizeLine)=True:=eq_true (by change 8<=sizeLine;decide)
end
def kj(J:It)(g:TG)(tb:TS)(D:dJ)(σ:St)(H1:Hp):Prop:=∃W:Nat->Nat->St->Hp->Prop,(∃m,W 0 m σ H1)/\∀i m σ H,W i m σ H->
 (J.stop i H/\D.nx σ H)\/(J.go i H/\∃N:St->Hp->Prop,(∀σ' H',N σ' H'->∃m',m'<m/\W (i+1) m' σ' H')/\∀x H',J.yld i H x H'->g x σ H' λσ2 H2=>tb {D with nx:=N,ct:=N,bk:=D.nx} σ2 H2)
section
variable {g:TG} {tb:TS} {D:dJ} {σ:St} {H:Hp}
def JL{wi:TI}:ID wi g tb D σ H=wi σ H λJ H1=>kj J g tb D σ H1:=rfl
def EG{K:N5}{ta:TA}{R:It->Hp->Prop}:Al K ta σ H R=ta σ H λvs H1=>∃a,vs=[.ref a]/\(∃xs,SqL K H1 a xs)/\R (Ite K a) H1:=rfl
def EI{K:N5}{tl:TE}{R:It->Hp->Prop}:Fk K tl σ H R=tl σ H λx H1=>∃a,x=.ref a/\(∃xs,SqL K H1 a xs)/\R (Itl K a) H1:=rfl
def HU{K:N5}{tl:TE}{R:It->Hp->Prop}:J9 K tl σ H R=tl σ H λx H1=>∃a,x=.ref a/\(∃xs,SqT K H1 a xs)/\R (Itt K a) H1:=rfl
def EJ{ta:TA}{R:It->Hp->Prop}:Fl ta σ H R=ta σ H λvs H1=>∃j:Int,vs=[.int j]/\-(2 ^ 62)<=j/\j<2 ^ 62/\R (Itr 0 j.toNat) H1:=rfl
def EK{ta:TA}{R:It->Hp->Prop}:Am ta σ H R=ta σ H λvs H1=>∃i j:Int,vs=[.int i,.int j]/\(-(2 ^ 62)<=i/\i<2 ^ 62/\-(2 ^ 62)<=j/\j<2 ^ 62)/\R (Itr i (j-i).toNat) H1:=rfl
def HI{Z:Int->Prop}:(∃k,[V.int c]=[V.int k]/\Z k)=Z c:=propext {by rintro ⟨_,e,q⟩;cases e;show q,by intro q;show ⟨c,rfl,q⟩}
def HJ{d:Int}{Z:Int->Int->Prop}:(∃k l,[V.int c,V.int d]=[V.int k,V.int l]/\Z k l)=Z c d:=propext {by rintro ⟨_,_,e,q⟩;cases e;show q,by intro q;show ⟨c,d,rfl,q⟩}
def JK{c:Addr}{Z:Addr->Prop}:(∃k,V.ref c=V.ref k/\Z k)=Z c:=propext {by rintro ⟨_,e,q⟩;cases e;show q,by intro q;show ⟨c,rfl,q⟩}
def rB{lo:Int}(Pv:Nat->St->Hp->Prop)(h0:Pv 0 σ H)
 (hs:∀(i:Nat)σ H,i<n->Pv i σ H->g (.int (lo+i)) σ H λσ2 H2=>tb {D with nx:=Pv (i+1),ct:=Pv (i+1),bk:=D.nx} σ2 H2) (hd:∀σ H,Pv n σ H->D.nx σ H):kj (Itr lo n) g tb D σ H:=yd Pv h0 hs hd
def jx(Pv:Nat->St->Hp->Prop)(h0:Pv 0 σ H)
 (hs:∀(i:Nat)σ H,i<n->Pv i σ H->g (.int (i:Int)) σ H λσ2 H2=>tb {D with nx:=Pv (i+1),ct:=Pv (i+1),bk:=D.nx} σ2 H2) (hd:∀σ H,Pv n σ H->D.nx σ H):kj (Itr 0 n) g tb D σ H:=
 rB Pv h0 (λi σ H hi p=>by rw [xH];show hs i σ H hi p) hd
def DP{K:N5}(Pv:Nat->St->Hp->Prop)(h0:Pv 0 σ H)(hl:∀i σ H,i<=xs.length->Pv i σ H->SqL K H a xs)
 (hs:∀(i:Nat)x σ H p,xs[i]?=some x->H p=none->Pv i σ H->g (.ref p) σ (upd H p (.tup [.int i,x])) λσ2 H2=>tb {D with nx:=Pv (i+1),ct:=Pv (i+1),bk:=D.nx} σ2 H2) (hd:∀σ H,Pv xs.length σ H->D.nx σ H):kj (Ite K a) g tb D σ H:=Aa Pv h0 hl hs hd
def eC{K:N5}(Pv:Nat->St->Hp->Prop)(h0:Pv 0 σ H)(hl:∀i σ H,i<=xs.length->Pv i σ H->SqL K H a xs)
 (hs:∀(i:Nat)x σ H,xs[i]?=some x->Pv i σ H->g x σ H λσ2 H2=>tb {D with nx:=Pv (i+1),ct:=Pv (i+1),bk:=D.nx} σ2 H2) (hd:∀σ H,Pv xs.length σ H->D.nx σ H):kj (Itl K a) g tb D σ H:=Ab Pv h0 hl hs hd
def GB{K:N5}(Pv:Nat->St->Hp->Prop)(h0:Pv 0 σ H)(hl:∀i σ H,i<=xs.length->Pv i σ H->SqT K H a xs)
 (hs:∀(i:Nat)x σ H,xs[i]?=some x->Pv i σ H->g x σ H λσ2 H2=>tb {D with nx:=Pv (i+1),ct:=Pv (i+1),bk:=D.nx} σ2 H2) (hd:∀σ H,Pv xs.length σ H->D.nx σ H):kj (Itt K a) g tb D σ H:=DO Pv h0 hl hs hd
def Same.upd{H:Hp}{o:HO}(h:H p=none):Same H (upd H p o):=λb u e=>by rw [ak (au e h)];show e
def Ng:=@Same.upd
def Same.seqT{K:N5}{H H':Hp}(e:Same H H')(h:SqT K H a xs):SqT K H' a xs:=by
 rcases h with (h | ⟨o,h⟩) | h
 ·show .inl (.inl (e _ _ h))
 ·show .inl (.inr {o,e _ _ h})
 ·show .inr h
end
section
variable {H:Hp} {Q:VK} {σ:St} {D:dJ} {K:N5}
def Me{T:String}{r:V->N7->Hp->VK->Prop}{to:TE}{t:TA}:tBM K T r to t σ H Q=to σ H λx H1=>tyV K T x H1/\t σ H1 λxs H2=>r x xs H2 Q:=rfl
def JV{z:Str}:Jw (.str z) (.int i) H Q=(z.length<=sizeLine/\∃c,atI z.cps.toList i=some c/\Q (.str {#[c]}) H):=propext {by rintro ⟨_,_,c,e1,e2,h1,h2,q⟩;cases e1;cases e2;show ⟨h1,c,h2,q⟩,by rintro ⟨h1,c,h2,q⟩;show {_,_,c,rfl,rfl,h1,h2,q}}
def JU:Eu K (.ref p) (.int i) H Q=∃xs v,SqL K H p xs/\atI xs i=some v/\Q v H:=propext {by rintro ⟨_,xs,_,v,e1,e2,h1,h2,q⟩;cases e1;cases e2;show ⟨xs,v,h1,h2,q⟩,by rintro ⟨xs,v,h1,h2,q⟩;show {_,xs,_,v,rfl,rfl,h1,h2,q}}
def JW:Hz K (.ref p) (.int i) H Q=∃xs v,SqT K H p xs/\atI xs i=some v/\Q v H:=propext {by rintro ⟨_,xs,_,v,e1,e2,h1,h2,q⟩;cases e1;cases e2;show ⟨xs,v,h1,h2,q⟩,by rintro ⟨xs,v,h1,h2,q⟩;show {_,xs,_,v,rfl,rfl,h1,h2,q}}
def JG{b:Addr}:Ju (.ref a) (.ref b) H Q=∃xs zs,H a=some (.lst xs)/\H b=some (.lst zs)/\xs.length+zs.length<=sizeLine/\∀p,H p=none->Q (.ref p) (upd H p (.lst (xs++zs))):=propext {by rintro ⟨_,_,xs,zs,e1,e2,h⟩;cases e1;cases e2;show ⟨xs,zs,h⟩,by rintro ⟨xs,zs,h⟩;show {_,_,xs,zs,rfl,rfl,h}}
def K9{lo hi:Option Int}:JA K (.ref a) lo hi H Q=∃xs,SqL K H a xs/\∀p,H p=none->Q (.ref p) (upd H p (.lst (dY xs lo hi))):=propext {by rintro ⟨_,xs,e1,h⟩;cases e1;show ⟨xs,h⟩,by rintro ⟨xs,h⟩;show {_,xs,rfl,h}}
def Br{y:V}:pY (.ref a) [y] H Q=∃xs,H a=some (.lst xs)/\xs.length<sizeLine/\Q .non (upd H a (.lst (xs++[y]))):=propext {by rintro ⟨_,xs,_,e1,e2,h⟩;cases e1;cases e2;show ⟨xs,h⟩,by rintro ⟨xs,h⟩;show {_,xs,_,rfl,rfl,h}}
def HK{Z:Addr->N7->Prop}:(∃p ys,[V.ref a]=[V.ref p]/\Z p ys)=∃ys,Z a ys:=propext {by rintro ⟨_,ys,e1,q⟩;cases e1;show ⟨ys,q⟩,by rintro ⟨ys,q⟩;show ⟨a,ys,rfl,q⟩}
def HY{c:Bool}{Z:Int->Prop}{Y:Bool->Prop}:((∃i,[V.bl c]=[V.int i]/\Z i)\/∃k,[V.bl c]=[V.bl k]/\Y k)=Y c:=propext {λh=>(by rcases h with ⟨_,e,q⟩ | ⟨_,e,q⟩<;>cases e<;>show q),λq=>Or.inr ⟨c,rfl,q⟩}
def HQ{t:TGs}{Z:St->Hp->Prop}:Ah K n t (.ref a) σ H Z=∃xs,SqT K H a xs/\xs.length=n/\t xs σ H Z:=propext {by rintro ⟨_,xs,e,h⟩;cases e;show ⟨xs,h⟩,by rintro ⟨xs,h⟩;show ⟨a,xs,rfl,h⟩}
end
end L2
namespace L2
section
variable {prog:Program} {w:World} {A:Around} {R:Result->Shared->Prop} {s:Shared}
end
end L2
namespace L2
inductive Dq (K:N5) (H:Hp):Nat->V->V->Bool->Prop where
 |flat {n:Nat} {x y:V} (fx:cf x=true) (fy:cf y=true):Dq K H n x y (eqV x y)
 |same {n:Nat} {a:Addr}:Dq K H n (.ref a) (.ref a) true
 |lists {n:Nat} {a b:Addr} {xs ys:N7} (e:Nat->Bool) (ne:a≠b) (ha:SqL K H a xs) (hb:SqL K H b ys) (hl:xs.length=ys.length)
   (he:∀(j:Nat)x y,xs[j]?=some x->ys[j]?=some y->Dq K H n x y (e j)):Dq K H (n+1) (.ref a) (.ref b) ((List.range xs.length).all e)
 |lens {n:Nat} {a b:Addr} {xs ys:N7} (ne:a≠b) (ha:SqL K H a xs) (hb:SqL K H b ys) (hl:¬xs.length=ys.length):Dq K H (n+1) (.ref a) (.ref b) false
 |tups {n:Nat} {a b:Addr} {xs ys:N7} (e:Nat->Bool) (ne:a≠b) (ha:SqT K H a xs) (hb:SqT K H b ys)
   (he:∀(j:Nat)x y,xs[j]?=some x->ys[j]?=some y->Dq K H n x y (e j)):Dq K H (n+1) (.ref a) (.ref b) ((List.range (min xs.length ys.length)).all e&&xs.length==ys.length)
section
variable {X:Cx} {pins:List (Addr×Obj)} {σ:St} {H:Hp} {s:Shared}
def gu{xs:N7}{its:N1}(r:Vals xs its){j:Nat}(h:j<its.toArray.size):∃x,xs[j]?=some x/\RelV x its.toArray[j]:=by
 let hl:=r.length;let hj:j<xs.length:=by simpa [hl] using h
 obtain ⟨u,hu,ru⟩:=r.get (bN hj);let e:its.toArray[j]=u:=by
  let h2:its[j]?=some u:=hu;let h3:j<its.length:=by simpa using h
  rw [bN h3] at h2;simpa using h2
 show {xs[j],bN hj,by rw [e];show ru}
def Dq.at(I:Inv X pins σ H s){n:Nat}{x y:V}{b:Bool}(d:Dq X.K H n x y b):∀{A:Around} {v u:Value},RelV x v->RelV y u->A.units+n<cLine->SeqAt.EqAt A s v u b:=by
 induction d with
 |flat fx fy=>intro A v u rv ru _;show A8 rv ru fx fy
 |same=>intro A v u rv ru _;cases rv;cases ru;show SeqAt.EqAt.same _
 | @lists n a b xs ys e ne ha hb hl he ih=>
  intro A v u rv ru hu
  cases rv;cases ru
  obtain ⟨its,r,p,_⟩:=I.list ha;obtain ⟨its2,r2,p2,_⟩:=I.list hb;let e1:=r.length;let e2:=r2.length;let z:=SeqAt.RcAt.lists (A:=A) (e:=e) p.isList p2.isList (by simp;omega) Oo λj h1 h2=>by obtain ⟨x,hx,rx⟩:=gu r h1;obtain ⟨y,hy,ry⟩:=gu r2 h2;show ih j x y hx hy rx ry (by change A.units+1+n<cLine;omega)
  let e3:its.toArray.size=xs.length:=by simp [e1]
  rw [e3] at z;show SeqAt.EqAt.of_refs ne z
 | @lens n a b xs ys ne ha hb hl=>
  intro A v u rv ru hu
  cases rv;cases ru
  obtain ⟨its,r,p,_⟩:=I.list ha;obtain ⟨its2,r2,p2,_⟩:=I.list hb;let e1:=r.length;let e2:=r2.length;show SeqAt.EqAt.of_refs ne (SeqAt.RcAt.lists_lengths (A:=A) p.isList p2.isList (by simp;omega) Oo)
 | @tups n a b xs ys e ne ha hb he ih=>
  intro A v u rv ru hu
  cases rv;cases ru
  obtain ⟨its,r,p,_⟩:=I.tuple ha;obtain ⟨its2,r2,p2,_⟩:=I.tuple hb;let e1:=r.length;let e2:=r2.length;let z:=SeqAt.RcAt.tuples (A:=A) (e:=e) (show s.heap.IsTuple a its.toArray from p) (show s.heap.IsTuple b its2.toArray from p2) Oo λj h1 h2=>by obtain ⟨x,hx,rx⟩:=gu r h1;obtain ⟨y,hy,ry⟩:=gu r2 h2;show ih j x y hx hy rx ry (by change A.units+1+n<cLine;omega)
  let e3:its.toArray.size=xs.length:=by simp [e1]
  let e4:its2.toArray.size=ys.length:=by simp [e2]
  rw [e3,e4] at z;show SeqAt.EqAt.of_refs ne z
end
inductive Rq (K:N5) (H:Hp) (n:Nat):V->V->Bool->Prop where
 |lists {a b:Addr} {xs ys:N7} (e:Nat->Bool) (ha:SqL K H a xs) (hb:SqL K H b ys) (hl:xs.length=ys.length)
   (he:∀(j:Nat)x y,xs[j]?=some x->ys[j]?=some y->Dq K H n x y (e j)):Rq K H n (.ref a) (.ref b) ((List.range xs.length).all e)
 |lens {a b:Addr} {xs ys:N7} (ha:SqL K H a xs) (hb:SqL K H b ys) (hl:¬xs.length=ys.length):Rq K H n (.ref a) (.ref b) false
 |tups {a b:Addr} {xs ys:N7} (e:Nat->Bool) (ha:SqT K H a xs) (hb:SqT K H b ys)
   (he:∀(j:Nat)x y,xs[j]?=some x->ys[j]?=some y->Dq K H n x y (e j)):Rq K H n (.ref a) (.ref b) ((List.range (min xs.length ys.length)).all e&&xs.length==ys.length)
def M9(K:N5)(n:Nat):R2:=λx y H Q=>∃b,Rq K H n x y b/\Q (.bl b) H
def Mb(K:N5)(n:Nat):R2:=λx y H Q=>∃b,Rq K H n x y b/\Q (.bl (! b)) H
section
variable {X:Cx}
def iA{n:Nat}(hu:X.A.units+(n+1)<cLine):OpR X (compareOp .Eq) (M9 X.K n):=by
 intro pins s σ H x y v u Q I rx ry h;obtain ⟨b,d,q⟩:=h
 cases d with
 | @lists a c xs ys e ha hb hl he=>
  cases rx;cases ry
  obtain ⟨its,r,p,_⟩:=I.list ha;obtain ⟨its2,r2,p2,_⟩:=I.list hb;let e1:=r.length;let e2:=r2.length;let e3:its.toArray.size=xs.length:=by simp [e1]
  show SeqAt.eq_listAt (e:=e) p.isList p2.isList (by simp;omega) Oo (λj h1 h2=>?_) {.bl _,H,I,rfl,by rw [e3];show q};obtain ⟨x,hx,rx⟩:=gu r h1;obtain ⟨y,hy,ry⟩:=gu r2 h2;show (he j x y hx hy).at I rx ry (by change X.A.units+1+n<cLine;omega)
 | @lens a c xs ys ha hb hl=>
  cases rx;cases ry
  obtain ⟨its,r,p,_⟩:=I.list ha;obtain ⟨its2,r2,p2,_⟩:=I.list hb;let e1:=r.length;let e2:=r2.length;show SeqAt.eq_list_lengthsAt p.isList p2.isList (by simp;omega) Oo {.bl _,H,I,rfl,q}
 | @tups a c xs ys e ha hb he=>
  cases rx;cases ry
  obtain ⟨its,r,p,_⟩:=I.tuple ha;obtain ⟨its2,r2,p2,_⟩:=I.tuple hb;let e1:=r.length;let e2:=r2.length;let e3:its.toArray.size=xs.length:=by simp [e1]
  let e4:its2.toArray.size=ys.length:=by simp [e2]
  show SeqAt.eq_tupleAt (e:=e) (show s.heap.IsTuple a its.toArray from p) (show s.heap.IsTuple c its2.toArray from p2) Oo (λj h1 h2=>?_) {.bl _,H,I,rfl,by rw [e3,e4];show q};obtain ⟨x,hx,rx⟩:=gu r h1;obtain ⟨y,hy,ry⟩:=gu r2 h2;show (he j x y hx hy).at I rx ry (by change X.A.units+1+n<cLine;omega)
def B4{n:Nat}(hu:X.A.units+(n+1)<cLine):OpR X (compareOp .NotEq) (Mb X.K n):=by
 intro pins s σ H x y v u Q I rx ry h;obtain ⟨b,d,q⟩:=h
 cases d with
 | @lists a c xs ys e ha hb hl he=>
  cases rx;cases ry
  obtain ⟨its,r,p,_⟩:=I.list ha;obtain ⟨its2,r2,p2,_⟩:=I.list hb;let e1:=r.length;let e2:=r2.length;let e3:its.toArray.size=xs.length:=by simp [e1]
  show SeqAt.RcNeAt.lists (A:=X.A) (e:=e) p.isList p2.isList (by simp;omega) Oo (λj h1 h2=>?_) X.prog X.w X.xe _ {.bl _,H,I,rfl,by rw [e3];show q};obtain ⟨x,hx,rx⟩:=gu r h1;obtain ⟨y,hy,ry⟩:=gu r2 h2;show (he j x y hx hy).at I rx ry (by change X.A.units+1+n<cLine;omega)
 | @lens a c xs ys ha hb hl=>
  cases rx;cases ry
  obtain ⟨its,r,p,_⟩:=I.list ha;obtain ⟨its2,r2,p2,_⟩:=I.list hb;let e1:=r.length;let e2:=r2.length;show SeqAt.RcNeAt.lists_lengths (A:=X.A) p.isList p2.isList (by simp;omega) Oo X.prog X.w X.xe _ {.bl _,H,I,rfl,q}
 | @tups a c xs ys e ha hb he=>
  cases rx;cases ry
  obtain ⟨its,r,p,_⟩:=I.tuple ha;obtain ⟨its2,r2,p2,_⟩:=I.tuple hb;let e1:=r.length;let e2:=r2.length;let e3:its.toArray.size=xs.length:=by simp [e1]
  let e4:its2.toArray.size=ys.length:=by simp [e2]
  show SeqAt.RcNeAt.tuples (A:=X.A) (e:=e) (show s.heap.IsTuple a its.toArray from p) (show s.heap.IsTuple c its2.toArray from p2) Oo (λj h1 h2=>?_) X.prog X.w X.xe _ {.bl _,H,I,rfl,by rw [e3,e4];show q};obtain ⟨x,hx,rx⟩:=gu r h1;obtain ⟨y,hy,ry⟩:=gu r2 h2;show (he j x y hx hy).at I rx ry (by change X.A.units+1+n<cLine;omega)
end
end L2
namespace L2
def f7(cells:List (Str×Addr)):List (Str×NameKind)->List (Str×Addr)->List (Str×Addr)
 | [],acc=>acc
 | (n,k)::r,acc=>if k==.free then f7 cells r ((n,(cells.lookup n).getD 0)::acc) else f7 cells r acc
def fz{scope:Scope}{env:Env}(h:∀y∈scope.names,y.2=.free->∃c,env.cells.lookup y.1=some c):closureFor scope env=pure (f7 env.cells scope.names []):=by
 let key:∀(names:List (Str×NameKind)) (acc:List (Str×Addr)),(∀y∈names,y.2=.free->∃c,env.cells.lookup y.1=some c)->
   (forIn names acc λx (r:List (Str×Addr))=>match x with
    | (name,kind)=>if (kind==.free)=true then do let c <- cellOf env name;pure (ForInStep.yield ((name,c)::r)) else pure (ForInStep.yield r))=(pure (f7 env.cells names acc):Sem (List (Str×Addr))):=by
  intro names
  induction names with
  |nil=>intro acc _;rfl
  |cons y r ih=>
   intro acc hy;obtain ⟨n,k⟩:=y;rw [D3]
   cases hk:(k==NameKind.free) with
   |true=>
    let hk':k=.free:=by simpa using hk
    obtain ⟨c,hc⟩:=hy (n,k) cS hk';let e:cellOf env n=pure c:=by unfold cellOf;rw [show env.cells.lookup n=some c from hc]
    simp only [hk,if_true,e,pure_bind];rw [ih _ λz hz=>hy z (zq8 _ hz)];simp only [f7,hk,if_true];rw [show env.cells.lookup n=some c from hc];rfl
   |false=>simp only [hk,Bool.false_eq_true,if_false,pure_bind];rw [ih _ λz hz=>hy z (zq8 _ hz)];simp only [f7,hk,Bool.false_eq_true,if_false]
 show (show closureFor scope env=((forIn scope.names [] λx (r:List (Str×Addr))=>match x with
    | (name,kind)=>if (kind==.free)=true then do let c <- cellOf env name;pure (ForInStep.yield ((name,c)::r)) else pure (ForInStep.yield r)) >>= λcs=>pure cs) from rfl).trans ?_
 rw [key scope.names [] h];rfl
def lH{cells:List (Str×Addr)}:∀{names:List (Str×NameKind)} {acc:List (Str×Addr)},(∀y∈names,y.2=.free->∃c,cells.lookup y.1=some c)->(∀y c,acc.lookup y=some c->cells.lookup y=some c)->
  ∀y c,(f7 cells names acc).lookup y=some c->cells.lookup y=some c
 | [],_,_,ha=>ha
 | (n,k)::r,acc,hn,ha=>by
  intro y c;unfold f7
  split
  ·next hk=>
   show lH (λz hz=>hn z (zq8 _ hz)) (λz d hz=>?_) y c;obtain ⟨e,he⟩:=hn (n,k) cS (by simpa using hk);rw [mT] at hz
   split at hz
   ·next hq=>
    let this:z=n:=by simpa using hq
    subst this;let he':cells.lookup z=some e:=he;rw [he'] at hz ⊢;show hz
   ·show ha z d hz
  ·show lH (λz hz=>hn z (zq8 _ hz)) ha y c
def lE{cells:List (Str×Addr)}{y:Str}:∀{names:List (Str×NameKind)} {acc:List (Str×Addr)},(∃c,acc.lookup y=some c)->∃c,(f7 cells names acc).lookup y=some c
 | [],_,h=>h
 | (n,k)::r,acc,h=>by
  unfold f7
  split
  ·show lE ?_;rw [mT]
   split
   ·show {_,rfl}
   ·show h
  ·show lE h
def iP{cells:List (Str×Addr)}{y:Str}:∀{names:List (Str×NameKind)} {acc:List (Str×Addr)},(y,NameKind.free)∈names->∃c,(f7 cells names acc).lookup y=some c
 | (n,k)::r,acc,h=>by
  unfold f7;rcases zq9.mp h with e | e
  ·cases e
   rw [zq1 Os];show lE {(cells.lookup y).getD 0,by rw [mT,beq_self_eq_true]}
  ·split
   ·show iP e
   ·show iP e
structure Bk where
 C:Addr
 fp:N2
 s₂:Shared
 H₂:Hp
def Cx.blk(X:Cx)(N':N0)(scope:Scope)(b:Bk):Cx:=
 {prog:=X.prog,w:=X.w,K:=X.K,mg:=X.mg,base:=X.base,A:=X.A,N:=N',s₀:=b.s₂,H₀:=b.H₂,env:=compEnvC scope (f7 X.env.cells scope.names []) b.C X.env,outer:=X.stack,stack:=X.stack,ex:=b.fp,fn:=λ_=>false,calm:=X.calm,pn:=[],xe:=λ_ _=>False}
def aI(os:List N8)(ci:be)(σ:St):St:=none::(os++ci.map λi=>(σ[i]?).join)
def c5(J:It)(g:TG)(tt:TT)(te:TE)(nt:Nat)(ci:be)(σ:St)(acc:Addr)(Q:Hp->Prop)(H0:Hp):Prop:=∃W:Nat->Nat->N7->Hp->Prop,(∃m,W 0 m [] H0)/\∀i m ys H,W i m ys H->
 (J.stop i H/\Q H)\/(J.go i H/\∃N:N7->Hp->Prop,(∀zs H',N zs H'->∃m',m'<m/\W (i+1) m' zs H')/\∀y H' os,os.length=nt->J.yld i H y H'->g y (aI os ci σ) H' λσ1 H1=>(∃os',os'.length=nt/\σ1=aI os' ci σ)/\tt σ1 H1 λb H2=>if b=true then te σ1 H2 λz H3=>H3 acc=some (.lst ys)/\ys.length<sizeLine/\N (ys++[z]) (upd H3 acc (.lst (ys++[z]))) else N ys H2)
def mN(wi:TI)(g:Bk->TG)(tt:Bk->TT)(te:Bk->TE)(nt:Nat)(ci:be):TE:=λσ H Q=>wi σ H λJ H1=>∀acc,H1 acc=none->∀bk:Bk,c5 J (g bk) (tt bk) (te bk) nt ci σ acc (λH'=>Q (.ref acc) H') (upd H1 acc (.lst []))
def zB(X:Cx)(ifs:N4)(t:TT):Prop:=
 ∀(pins:List (Addr×Obj)) (s:Shared) (σ:St) (H:Hp) (Q:Bool->Hp->Prop),Inv X pins σ H s->t σ H Q->
  wpAny (model X.prog X.w) X.A (forIn ifs true λc r=>if r=true then do let ok <- isTrue c X.env (eval c X.env);pure (ForInStep.yield ok) else pure (ForInStep.yield r)) (TP X pins σ Q) X.xe s
def ff:TT:=λ_ H Q=>Q true H
structure CompSc(X:Cx)(scope:Scope)(cns:N0)(ci:be):Prop where
 kind:scope.kind=.function
 cell:∀y∈scope.names,y.2≠.cell
 names:∀y∈scope.names,y.2=.local->scope.names.lookup y.1=some .local
 free:∀y∈scope.names,y.2=.free->X.env.kindOf y.1=some .cell\/X.env.kindOf y.1=some .free
 cap:∀(j:Nat)x,cns[j]?=some x->∃i,ci[j]?=some i/\X.N[i]?=some x/\(x,NameKind.free)∈scope.names
 len:cns.length=ci.length
 noloc:∀y,(y,NameKind.free)∈scope.names->¬(relabel scope X.env).names.lookup y=some .local
def eX{env:Env}:∀{names:List (Str×NameKind)} {y:Str} {k:NameKind},(names.map λ(n,k)=>if (k==NameKind.free&&env.scope.kind==.function&&env.kindOf n==some .cell) then (n,NameKind.cell) else (n,k)).lookup y=some k->k=.cell\/k=.free->
  (y,NameKind.cell)∈names\/(y,NameKind.free)∈names
 | [],_,_,h,_=>by simp at h
 | (n,k0)::r,y,k,h,hk=>by
  rw [cH,mT] at h
  by_cases hf:(k0==NameKind.free&&env.scope.kind==.function&&env.kindOf n==some .cell)=true
  ·simp only [hf,if_true] at h;let k0f:k0=.free:=by let this:=hf;simp only [Bool.and_eq_true] at this;simpa using this.1.1
   split at h
   ·next hq=>
    let this:y=n:=by simpa using hq
    subst this;subst k0f;show .inr cS
   ·show (eX h hk).imp (zq8 _) (zq8 _)
  ·simp only [hf] at h
   split at h
   ·next hq=>
    let this:y=n:=by simpa using hq
    subst this;let e:k0=k:=by simpa using h
    subst e;rcases hk with z | z
    ·subst z;show .inl cS
    ·subst z;show .inr cS
   ·show (eX h hk).imp (zq8 _) (zq8 _)
section
variable {prog:Program} {w:World} {A:Around} {R:Result->Shared->Prop} {s:Shared}
def pz{elt target iter:Expr}{ifs:N4}{scope:Scope}{pos:Pos}{it acc:Value}{env:Env}(I:Nat->Shared->Prop)
  (turn:∀n s,I n s->wpAny (model prog w) A (pyNext it) (λr s₁=>match r with
   |none=>R (.ok .next) s₁
   |some v=>wpAny (model prog w) A (letOwnedTupleGo target it v) (λ_ s₅=>wpAny (model prog w) A (assign target env v) (λ_ s₂=>
     wpAny (model prog w) A (forIn ifs true λc r=>if r=true then do let ok <- isTrue c env (eval c env);pure (ForInStep.yield ok) else pure (ForInStep.yield r)) (λok s₃=>
      if ok=true then wpAny (model prog w) A (eval elt env) (λx s₄=>wpAny (model prog w) A (call (.builtin "list.append") [acc,x]) (λ_ s₅=>∃m,m<n/\I m s₅) (λ_ _=>False) s₄) (λ_ _=>False) s₃
      else ∃m,m<n/\I m s₃) (λ_ _=>False) s₂) (λ_ _=>False) s₅) (λ_ _=>False) s₁) (λ_ _=>False) s)
  (n:Nat) (h:I n s) :
  codeAny (model prog w) A (.compLoop (.ListComp elt [⟨target,iter,ifs,0⟩] scope pos) 0 it acc env) R s:=by
 show codeAny_loop rfl I (λn s hI=>?_) n h;change wpAny _ _ ((compTurn (.ListComp elt [⟨target,iter,ifs,0⟩] scope pos) 0 it acc env).onRaise (λx=>do noteFrame x env;theTreesLotGoes x)) _ _ s;show wpAny_noted ?_;rw [compTurn_list];show zq2 (wpAny_standAt (zq2 (jn (turn n s hI) (λr s₁ h₁=>?_) λ_ _ h'=>h'.elim)))
 cases r with
 |none=>show zq5 h₁
 |some v=>
  show zq2 (jn h₁ (λ_ s₅ h₅=>?_) λ_ _ h'=>h'.elim);show zq2 (jn h₅ (λ_ s₂ h₂=>zq2 (jn h₂ (λok s₃ h₃=>?_) λ_ _ h'=>h'.elim)) λ_ _ h'=>h'.elim)
  cases ok with
  |true=>
   rw [zq1 rfl] at h₃;show zq2 (zq2 (jn h₃ (λx s₃ h₃=>zq2 (jn h₃ (λ_ s₄ h₄=>zq5 (zq5 ⟨rfl,h₄⟩)) λ_ _ h'=>h'.elim)) λ_ _ h'=>h'.elim))
  |false=>rw [zq0 zq6] at h₃;show zq2 (zq5 (zq5 ⟨rfl,h₃⟩))
end
def exZ(z:Option Str)(C:Addr):List (Str×Addr):=match z with
 |none=>[]
 |some y=>[(y,C+1)]
def fnZ(z:Option Str)(x:Str):Bool:=match z with
 |none=>false
 |some y=>x==y
def Cx.blkY(X:Cx)(z:Option Str)(N':N0)(scope:Scope)(b:Bk):Cx:=
 {prog:=X.prog,w:=X.w,K:=X.K,mg:=X.mg,base:=X.base,A:=X.A,N:=N',s₀:=b.s₂,H₀:=b.H₂,env:=compEnvC scope (exZ z b.C++f7 X.env.cells scope.names []) b.C X.env,outer:=X.stack,stack:=X.stack,ex:=b.fp,fn:=fnZ z,calm:=X.calm,pn:=[],xe:=λ_ _=>False}
def yb{z:Option Str}{C c:Addr}{l:List (Str×Addr)}{y:Str}(e:(exZ z C++l).lookup y=some c):(z=some y/\c=C+1)\/(z≠some y/\l.lookup y=some c):=by
 cases z with
 |none=>show .inr ⟨Oq,e⟩
 |some x=>
  let e':((x,C+1)::l).lookup y=some c:=e;rw [mT] at e'
  cases hb:y==x with
  |true=>rw [hb] at e';cases e';show .inl {by rw [show y=x by simpa using hb],rfl}
  |false=>rw [hb] at e';show .inr {λh=>by cases h;simp at hb,e'}
def rn{z:Option Str}{C c:Addr}{l:List (Str×Addr)}{y:Str}(n:z≠some y)(e:l.lookup y=some c):(exZ z C++l).lookup y=some c:=by
 cases z with
 |none=>show e
 |some x=>change ((x,C+1)::l).lookup y=some c;rw [mT,beq_eq_false_iff_ne.mpr λh=>n (by rw [h])];show e
def vW{z:Option Str}{C:Addr}{l:List (Str×Addr)}{y:Str}(h:z=some y):(exZ z C++l).lookup y=some (C+1):=by subst h;change ((y,C+1)::l).lookup y=_;rw [mT,beq_self_eq_true]
def DM{z:Option Str}{C:Addr}{l:List (Str×Addr)}{y:Str}(h:∃c,l.lookup y=some c):∃c,(exZ z C++l).lookup y=some c:=by
 by_cases e:z=some y
 ·show {_,vW e}
 ·show let ⟨c,hc⟩:=h;{c,rn e hc}
def Gy{z:Option Str}{y:Str}(h:fnZ z y=true):z=some y:=by
 cases z with
 |none=>cases h
 |some x=>rw [show y=x by simpa [fnZ] using h]
structure oQ(X:Cx)(z:Option Str)(scope:Scope)(cns:N0)(ci:be):Prop where
 kind:scope.kind=.function
 free:∀y∈scope.names,y.2=.free->X.env.kindOf y.1=some .cell\/X.env.kindOf y.1=some .free
 cap:∀(j:Nat)x,cns[j]?=some x->∃i,ci[j]?=some i/\X.N[i]?=some x/\(x,NameKind.free)∈scope.names
 len:cns.length=ci.length
 noloc:∀y,(y,NameKind.free)∈scope.names->¬(relabel scope X.env).names.lookup y=some .local
 nofree:∀y,z=some y->(y,NameKind.free)∉scope.names
 seen:∀y,(relabel scope X.env).names.lookup y=some .cell\/(relabel scope X.env).names.lookup y=some .free->z=some y\/(y,NameKind.free)∈scope.names
 env:∀{M:Model} {A:Around} {E:Value->Shared->Prop} {s:Shared} {cl:List (Str×Addr)} {Q:Env->Shared->Prop},(∀h₁:Heap,h₁.Ns s.heap.objs.size (λ_=>none)->(∀b o,s.heap.get? b=some o->h₁.get? b=some o)->(z≠none->h₁.IsCell (s.heap.objs.size+1) none)->
   Q {scope:=scope,locals:=s.heap.objs.size,globals:=X.env.globals,cells:=exZ z s.heap.objs.size++cl,qual:=X.env.qual,func:=none,code:=X.env.code,frame:=X.env.frame,builtins:=X.env.builtins} {s with heap:=h₁})->
  wpAny M A (newFunctionEnv scope X.env.globals cl [] X.env.qual none .none (some X.env)) Q E s
def jr{X:Cx}{elt iter tgt:Expr}{ifs:N4}{pos:Pos}{scope:Scope}{z:Option Str}{g:Bk->TG}{tt:Bk->TT}{te:Bk->TE}{tns cns:N0}{ci:be}{RR:Value->Addr->Result->Shared->Prop}{E:Value->Shared->Prop}
  {pins:List (Addr×Obj)} {σ:St} {H2:Hp} {s2:Shared} {it:Addr} {fp:N2} {tn:Nat->Heap->Prop} {J:It} {Q:Addr->Hp->Prop}
  (hc:X.calm=true) (S:oQ X z scope cns ci)
  (hg:∀bk:Bk,PG (X.blkY z (".0"::(tns++cns)) scope bk) tgt (g bk))
  (ht:∀bk:Bk,zB (X.blkY z (".0"::(tns++cns)) scope bk) ifs (tt bk))
  (he:∀bk:Bk,PE (X.blkY z (".0"::(tns++cns)) scope bk) elt (te bk))
  (I2:Inv X pins σ H2 s2) (T:mU X.prog X.w X.K tgt J fp it tn) (st2:tn 0 s2.heap) (f2:∀b∈fp,oS X pins H2 b)
  (hcw:∀acc,H2 acc=none->∀bk:Bk,c5 J (g bk) (tt bk) (te bk) tns.length ci σ acc (Q acc) (upd H2 acc (.lst [])))
  (fin:∀D C s5 H4 m,Inv X pins σ H4 s5->s5.heap.Ns C m->oS X pins H4 C->Q D H4->RR (.ref D) C (.ok .next) s5) :
  wpAny (model X.prog X.w) X.A (newList []) (λacc s₃=>wpAny (model X.prog X.w) X.A (newFunctionEnv scope X.env.globals (f7 X.env.cells scope.names []) [] X.env.qual none .none (some X.env)) (λcenv s₄=>codeAny (model X.prog X.w) X.A (.compStart (.ListComp elt [⟨tgt,iter,ifs,0⟩] scope pos) 0 (.ref it) acc {cenv with scope:=relabel scope X.env}) (RR acc cenv.locals) s₄) E s₃) E s2:=by
 let hfc:∀y∈scope.names,y.2=.free->∃c,X.env.cells.lookup y.1=some c:=λy hy hk=>I2.ok.has _ (S.free y hy hk);let hsub:∀y c,(f7 X.env.cells scope.names []).lookup y=some c->X.env.cells.lookup y=some c:=lH hfc (λy c e=>by simp at e);show wpAny_newObj_type (S.env λh₁ hns₁ keep₁ hcl₁=>?_);dsimp only at hns₁ keep₁ hcl₁ ⊢;generalize hH2:s2.heap.push {cls:=.type "list",dict:=none,data:=.seq ([]:N1).toArray}=G2 at hns₁ keep₁ hcl₁ ⊢;let hCz:G2.objs.size=s2.heap.objs.size+1:=by rw [<- hH2,vk]
 let hDC:s2.heap.objs.size≠G2.objs.size:=by rw [hCz];show dG (CY _)
 let below:∀b,b<s2.heap.objs.size->b≠G2.objs.size:=λb hb=>by omega
 let old:∀b o,s2.heap.get? b=some o->h₁.get? b=some o:=λb o e=>keep₁ b o (hH2 ▸ cW _ e);let hacc:h₁.get? s2.heap.objs.size=some {cls:=.type "list",dict:=none,data:=.seq ([]:N1).toArray}:=keep₁ _ _ (hH2 ▸ eg _ rfl);let hnD:H2 s2.heap.objs.size=none:=I2.hok.fresh (zq4 _);let hnC:H2 G2.objs.size=none:=I2.hok.fresh Oo;let hnE:H2 (G2.objs.size+1)=none:=I2.hok.fresh Oo;obtain ⟨W,⟨m0,w0⟩,turn⟩:=hcw s2.heap.objs.size hnD ⟨G2.objs.size,fp,s2,H2⟩;let nlt:∀{b:Addr} {o:Obj},s2.heap.get? b=some o->b≠s2.heap.objs.size:=λq=>dG (cu q);let fpl:∀b∈fp,b<s2.heap.objs.size:=λb hb=>by obtain ⟨o,e,_⟩:=T.obj _ _ st2 b hb;show cu e
 let clt:∀y c,(f7 X.env.cells scope.names []).lookup y=some c->c<s2.heap.objs.size:=λy c e=>by obtain ⟨v,q⟩:=I2.cell y c (hsub y c e);show q.lt
 let split:∀y c,(exZ z G2.objs.size++f7 X.env.cells scope.names []).lookup y=some c->(z=some y/\c=G2.objs.size+1)\/(z≠some y/\(f7 X.env.cells scope.names []).lookup y=some c):=λy c e=>yb e;let hasC:∀y,((relabel scope X.env).names.lookup y=some .cell\/(relabel scope X.env).names.lookup y=some .free)->∃c,(exZ z G2.objs.size++f7 X.env.cells scope.names []).lookup y=some c:=λy hk=>(S.seen y hk).elim (λe=>{_,vW e}) λh=>DM (iP h);let ok:(X.blkY z (".0"::(tns++cns)) scope ⟨G2.objs.size,fp,s2,H2⟩).Ok:={
  mod:=I2.ok.mod
  kind:=S.kind
  glob:=I2.ok.glob
  blt:=I2.ok.blt
  above:=by change s2.heap.objs.size<=G2.objs.size;omega
  inj:=λy z c e1 e2=>by
   rcases split y c e1 with ⟨a1,b1⟩ | ⟨a1,b1⟩<;>rcases split z c e2 with ⟨a2,b2⟩ | ⟨a2,b2⟩
   ·rw [a1] at a2;cases a2;rfl
   ·subst b1;let h9:(G2.objs.size+1:Nat)<s2.heap.objs.size:=clt _ _ b2;omega
   ·subst b2;let h9:(G2.objs.size+1:Nat)<s2.heap.objs.size:=clt _ _ b1;omega
   ·show I2.ok.inj y z c (hsub y c b1) (hsub z c b2)
  has:=λy hk=>hasC y hk
  cab:=λy c e e2=>by
   change s2.heap.objs.size<=c;rcases split y c e2 with ⟨a1,b1⟩ | ⟨a1,b1⟩
   ·subst b1;omega
   ·show absurd (Gy e) a1
  hd:=I2.ok.hd
  frames:=I2.ok.frames
  stk:=.inl rfl
  exf:=λb hb=>⟨below b (fpl b hb),λy c e=>by
   rcases split y c e with ⟨a1,b1⟩ | ⟨a1,b1⟩
   ·subst b1;intro h8;subst h8;let h9:(G2.objs.size+1:Nat)<s2.heap.objs.size:=fpl _ hb;omega
   ·show (f2 b hb).2.2.2.2.1 y c (hsub y c b1)⟩
  bs:=I2.bs
  bsz:=bF I2.ok.bsz I2.sz
  noex:=λb o e hb=>by
   rcases (f2 b hb).2.2.2.1 with z | z
   ·show I2.ok.noex b o e z
   ·show absurd (bT (cu e) (bF I2.ok.bsz z)) (vh _)
  exfs:=λb hb hf=>by
   rcases zq9.mp (I2.stkSub b hf) with z | z
   ·show (f2 b hb).2.1 z
   ·show (f2 b hb).2.2.1 z
  funs:=I2.stack
  frf:=I2.stkFree}
 let hokD:HOk X.prog X.w (upd H2 s2.heap.objs.size (.lst [])) h₁:=I2.hok.laid old (zq4 _) {cE _,[],0,.nil,hacc};let clD:∀y c,(exZ z G2.objs.size++f7 X.env.cells scope.names []).lookup y=some c->c≠s2.heap.objs.size:=λy c e=>by
  rcases split y c e with ⟨a1,b1⟩ | ⟨a1,b1⟩
  ·subst b1;show vj (show s2.heap.objs.size<G2.objs.size+1 by omega)
  ·show dG (clt y c b1)
 let I3:Inv (X.blkY z (".0"::(tns++cns)) scope ⟨G2.objs.size,fp,s2,H2⟩) [] (aI (List.replicate tns.length none) ci σ) (upd H2 s2.heap.objs.size (.lst [])) {s2 with heap:=h₁}:={
  ok:=ok
  os:=rfl
  bare:=I2.bare
  base:=⟨λb o e n _ _=>old b o e,λb o e n _ _=>{o.slots,old b o e},λb o e n _=>by rw [ak (nlt e)];show n,λb o e _=>{o,old b o e},
   λb ys e=>by rw [ak (au e hnD)];show e,λb o u e=>by rw [ak (au e hnD)];show e,λb ps e=>{#[],by rw [ak (au e hnD),Array.append_empty];show e}⟩
  loc:=⟨_,hns₁,λi y v e1 e2 e3=>by
   let e1':((".0":Str)::(tns++cns))[i]?=some y:=e1;unfold aI at e2
   cases i with
   |zero=>simp at e2
   |succ i=>
    rw [G8] at e1' e2
    by_cases hi:i<tns.length
    ·rw [vm (by simpa using hi),G6,zq1 hi] at e2
     cases e2
    ·rw [tV Oo] at e1';rw [tV (by simp;omega),tW] at e2;obtain ⟨q,hq,hN,hm⟩:=S.cap _ _ e1';rw [bP,hq] at e2;let e2':(σ[q]?).join=some v:=by simpa using e2
     let e4:σ[q]?=some (some v):=by
      cases z:σ[q]? with
      |none=>rw [z] at e2';cases e2'
      |some o=>rw [z] at e2';rw [show o=some v from e2']
     obtain ⟨m,hns,hl⟩:=I2.loc;let hvis:Vis X.env.scope y:=by
      rcases S.free (y,.free) hm rfl with z | z
      ·show .inr (.inl z)
      ·show .inr (.inr z)
     obtain ⟨u,ru,lk⟩:=hl q y v hN e4 hvis;show {u,ru,.inr ?_};let hkk:X.env.kindOf y=some .cell\/X.env.kindOf y=some .free:=S.free (y,.free) hm rfl;rcases lk with ⟨k1,_⟩ | ⟨_,c,hc1,hc2⟩
     ·rcases hkk with z | z<;>(rw [k1] at z;cases z)
     ·obtain ⟨c',hc'⟩:=iP (cells:=X.env.cells) (acc:=[]) hm;let ecc:c'=c:=by let this:=hsub y c' hc';rw [hc1] at this;cases this;rfl
      subst ecc;let e3':Vis (relabel scope X.env) y:=e3;show {?_,c',?_,?_}
      ·rcases e3' with z | z | z
       ·exfalso;show S.noloc y hm z
       ·show .inl z
       ·show .inr z
      ·show rn (λe=>S.nofree y e hm) hc'
      ·show hc2.keeps old⟩
  cell:=λy c e=>by
   rcases split y c e with ⟨a1,b1⟩ | ⟨a1,b1⟩
   ·subst b1;show {_,hcl₁ (by rw [a1];simp)}
   ·obtain ⟨v,q⟩:=I2.cell y c (hsub y c b1);show {v,q.keeps old}
  free:=by change upd H2 s2.heap.objs.size (.lst []) G2.objs.size=none;rw [ak (Ne.symm hDC)];show hnC
  freeC:=λy c e=>by
   rw [ak (clD y c e)];rcases split y c e with ⟨a1,b1⟩ | ⟨a1,b1⟩
   ·subst b1;show hnE
   ·show I2.freeC y c (hsub y c b1)
  pin:=λp hp=>by let hp':p∈([]:List (Addr×Obj))++[]:=hp;simp at hp'
  hok:=hokD
  len:=by change (aI _ ci σ).length=((".0":Str)::(tns++cns)).length;unfold aI;simp [S.len]}
 let st3:tn 0 h₁:=T.keep _ _ _ st2 λb _ o e=>old b o e;let fr3:∀b∈fp,upd H2 s2.heap.objs.size (.lst []) b=none:=λb hb=>by rw [ak (dG (fpl b hb))];show (f2 b hb).1
 let stat:∀{H':Hp},(∀b∈fp,H' b=none)->∀b∈fp,oS (X.blkY z (".0"::(tns++cns)) scope ⟨G2.objs.size,fp,s2,H2⟩) [] H' b:=λhn b hb=>{hn b hb,below b (fpl b hb),ok.exfs b hb,.inl hb,λy c e=>(ok.exf b hb).2 y c e,λp hp=>by let hp':p∈([]:List (Addr×Obj))++[]:=hp;simp at hp'}
 let loop:∀s₃:Shared,s₃={s2 with heap:=h₁}->
   codeAny (model X.prog X.w) X.A (.compLoop (.ListComp elt [⟨tgt,iter,ifs,0⟩] scope pos) 0 (.ref it) (.ref s2.heap.objs.size) (compEnvC scope (exZ z G2.objs.size++f7 X.env.cells scope.names []) G2.objs.size X.env))
    (RR (.ref s2.heap.objs.size) G2.objs.size) s₃:=by
  rintro s₃ rfl;show pz (λn s'=>∃(i:Nat)(os:List N8) (ys:N7) (H':Hp),os.length=tns.length/\Inv (X.blkY z (".0"::(tns++cns)) scope ⟨G2.objs.size,fp,s2,H2⟩) [] (aI os ci σ) H' s'/\tn i s'.heap/\(∀b∈fp,H' b=none)/\W i n ys H') ?_ m0 {0,_,[],_,Oq,I3,st3,fr3,w0};rintro n s4 ⟨i,os,ys,H4,hos,I4,st4,fr4,w4⟩;rcases turn i n ys H4 w4 with ⟨stop,q⟩ | ⟨go,N,hN,step⟩
  ·show thn (T.done (X.blkY z (".0"::(tns++cns)) scope ⟨G2.objs.size,fp,s2,H2⟩) rfl rfl rfl hc i [] s4 _ H4 (λ_ _=>False) I4 (stat fr4) st4 stop) λr s5 ⟨hr,I5⟩=>?_;subst hr;obtain ⟨m,hm,_⟩:=I5.loc;let fC:H4 G2.objs.size=none:=I5.free;let ub:Un (frs X.stack) fp H2 H4 s2.heap s5.heap:=I5.base;let IX:Inv X pins σ H4 s5:=I2.call' (s':=s5) (show s5.os=s2.os from I5.os) ub I5.hok I5.bare λb hb=>{(f2 b hb).2.2.2.1,(f2 b hb).2.1,(f2 b hb).2.2.2.2.1,(f2 b hb).2.2.2.2.2}
   show fin _ _ s5 H4 m IX hm (I2.fpOk Oo fC) q
  ·show thn (T.item (X.blkY z (".0"::(tns++cns)) scope ⟨G2.objs.size,fp,s2,H2⟩) rfl rfl rfl hc i [] s4 _ H4 (λ_ _=>False) I4 (stat fr4) st4 go) λr s5 ⟨u,hr,h5⟩=>?_;subst hr;show thn h5 λ_ s6 hhx=>?_;obtain ⟨y,H6,I6,r6,y6,st6,fr6⟩:=hhx;let I6':=I6.pinned (stat fr6) (T.obj _ _ st6);show thn (hg _ _ s6 _ H6 y u _ I6' r6 (step y H6 os hos y6)) λ_ s7 ⟨σ7,H7,I7,⟨os',hos',e7⟩,q7⟩=>?_;subst e7;let back:∀{H9:Hp} {s9:Shared},Inv (X.blkY z (".0"::(tns++cns)) scope ⟨G2.objs.size,fp,s2,H2⟩) ([]++jG fp s6.heap) (aI os' ci σ) H9 s9->tn (i+1) s9.heap/\∀b∈fp,H9 b=none:=λ{H9 s9} I9=>{T.keep _ _ _ st6 λb hb ob e=>(I9.pin (b,ob) (i7 _ (i7 _ (fb hb e)))).1,λb hb=>by obtain ⟨ob,e,d⟩:=T.obj _ _ st6 b hb;show (I9.pin (b,ob) (i7 _ (i7 _ (fb hb e)))).2.1}
   show thn (ht _ _ s7 _ H7 _ I7 q7) λb s8 hhx=>?_;obtain ⟨H8,I8,q8⟩:=hhx
   cases b with
   |false=>
    rw [zq0 zq6] at q8 ⊢;obtain ⟨m',hm',w8⟩:=hN _ _ q8;show {m',hm',i+1,os',ys,_,hos',I8.unpinned,(back I8).1,(back I8).2,w8}
   |true=>rw [zq1 rfl] at q8 ⊢;show thn (he _ _ s8 _ H8 _ I8 q8) λzv s8 hhx=>?_;obtain ⟨zz,H8,I8,rz,ha8,hl8,n8⟩:=hhx;obtain ⟨m',hm',w8⟩:=hN _ _ n8;show thn (aS (X:=X.blkY z (".0"::(tns++cns)) scope ⟨G2.objs.size,fp,s2,H2⟩) _ s8 _ H8 (.ref s2.heap.objs.size) [zz] (.ref s2.heap.objs.size) [zv] (λ_ H9=>H9=upd H8 s2.heap.objs.size (.lst (ys++[zz]))) I8 rfl (.cons rz .nil) {_,ys,zz,rfl,rfl,ha8,hl8,rfl}) λ_ s9 hhx=>?_;obtain ⟨_,H9,I9,_,e9⟩:=hhx;subst e9;show {m',hm',i+1,os',ys++[zz],_,hos',I9.unpinned,(back I9).1,(back I9).2,w8}
 show codeAny_compStart_list (loop _ rfl) (T.self _ 0 _ _ _ st3 (loop _ rfl))
def CompSc.y{X:Cx}{scope:Scope}{cns:N0}{ci:be}(S:CompSc X scope cns ci):oQ X none scope cns ci:=
 ⟨S.kind,S.free,S.cap,S.len,S.noloc,λy e=>(by cases e),λy hk=>.inr ((hk.elim (λz=>eX z (.inl rfl)) λz=>eX z (.inr rfl)).resolve_left λm=>S.cell _ m rfl),
  λh=>wpAny_newFunctionEnv S.cell (by intro y hy;simp at hy) (λh₁ n₁ b₁=>h h₁ n₁ (λb o e=>b₁.extBut b o (dG (cu e)) (cW _ e)) λz=>absurd rfl z) S.kind⟩
def B8{X:Cx}{elt iter tgt:Expr}{ifs:N4}{pos:Pos}{scope:Scope}{wi:TI}{g:Bk->TG}{tt:Bk->TT}{te:Bk->TE}{tns cns:N0}{ci:be}(hc:X.calm=true)(S:CompSc X scope cns ci)(hi:PI X tgt iter wi)
  (hg:∀bk:Bk,PG (X.blk (".0"::(tns++cns)) scope bk) tgt (g bk))
  (ht:∀bk:Bk,zB (X.blk (".0"::(tns++cns)) scope bk) ifs (tt bk))
  (he:∀bk:Bk,PE (X.blk (".0"::(tns++cns)) scope bk) elt (te bk))
  (hs:∀v,foldedSetIterable iter X.env v=pure v:=by intro _;rfl) :
  PE X (.ListComp elt [⟨tgt,iter,ifs,0⟩] scope pos) (mN wi g tt te tns.length ci):=by
 intro pins s σ H Q I h;let hfc:∀y∈scope.names,y.2=.free->∃c,X.env.cells.lookup y.1=some c:=λy hy hk=>I.ok.has _ (S.free y hy hk);rw [eval_ListComp];show wpAny_comprehension_free (use:=none) rfl hs (fz hfc) S.kind S.names (thn (hi pins s σ H _ I h) λv s1 h1=>thn h1 λitv s2 h2=>?_);obtain ⟨it,fp,tn,J,H2,rfl,I2,T,st2,f2,hcw⟩:=h2;show jr (RR:=λacc C=>compPost (model X.prog X.w) X.A X.xe none (EP X pins σ Q) acc C) hc S.y hg ht he I2 T st2 f2 hcw λD C s5 H4 m I5 hm fo q=>?_;show {m,hm,λh' hs'=>{.ref D,H4,?_,rfl,q}};show I5.turned (t':=s5.toks) (it:=C) (λb o hb e=>(hs'.2 b hb).trans e) fo.1 fo.2.1 fo.2.2.2.1 fo.2.2.2.2.1 fo.2.2.2.2.2
def mF(i:Nat)(wi:TI)(g:Bk->TG)(tt:Bk->TT)(te:Bk->TE)(nt:Nat)(ci:be):TS:=λD σ H=>wi σ H λJ H1=>∀acc,H1 acc=none->∀bk:Bk,c5 J (g bk) (tt bk) (te bk) nt ci σ acc (λH'=>D.nx (σ.set i (some (.ref acc))) H') (upd H1 acc (.lst []))
def uM{X:Cx}{i:Nat}{x:Str}{px pos':Pos}{elt iter tgt:Expr}{ifs:N4}{pos:Pos}{scope:Scope}{wi:TI}{g:Bk->TG}{tt:Bk->TT}{te:Bk->TE}{tns cns:N0}{ci:be}
  (hN:X.N.Nodup) (hx:X.N[i]?=some x) (hl:Loc X.env.scope x) (hf:X.fn x=true) (hsw:swapsWith (.ListComp elt [⟨tgt,iter,ifs,0⟩] scope pos) (some (.Name x px)) pos'.line X.env=pure true)
  (hc:X.calm=true) (S:CompSc X scope cns ci) (hi:PI X tgt iter wi)
  (hg:∀bk:Bk,PG (X.blk (".0"::(tns++cns)) scope bk) tgt (g bk))
  (ht:∀bk:Bk,zB (X.blk (".0"::(tns++cns)) scope bk) ifs (tt bk))
  (he:∀bk:Bk,PE (X.blk (".0"::(tns++cns)) scope bk) elt (te bk))
  (hs:∀v,foldedSetIterable iter X.env v=pure v:=by intro _;rfl) :
  PS X (.Assign [.Name x px] (.ListComp elt [⟨tgt,iter,ifs,0⟩] scope pos) pos') (mF i wi g tt te tns.length ci):=by
 intro pins s σ H D I h;let hfc:∀y∈scope.names,y.2=.free->∃c,X.env.cells.lookup y.1=some c:=λy hy hk=>I.ok.has _ (S.free y hy hk);rw [exec_Assign_Name_used _ _ _ _ hsw];show zq2 (wpAny_standAt (zq2 ?_));change wpAny _ _ (do let _ <- comprehension (.ListComp elt [⟨tgt,iter,ifs,0⟩] scope pos) scope X.env _ (newList []) false (eval iter X.env) (some (assign (.Name x px) X.env))) _ _ s;show zq2 (jn (wpAny_comprehension_free (use:=some (assign (.Name x px) X.env)) (Q:=λ_ s'=>SP X pins D .next s') rfl hs (fz hfc) S.kind S.names
  (thn (hi pins s σ H _ I h) λv s1 h1=>thn h1 λitv s2 h2=>?_)) (λ_ s' hq=>zq5 (zq5 hq)) λ_ _ e=>e)
 obtain ⟨it,fp,tn,J,H2,rfl,I2,T,st2,f2,hcw⟩:=h2;show jr (RR:=λacc C=>compPost (model X.prog X.w) X.A X.xe (some (assign (.Name x px) X.env)) (λ_ s'=>SP X pins D .next s') acc C) hc S.y hg ht he I2 T st2 f2 hcw λD' C s5 H4 m I5 hm fo q=>?_;obtain ⟨o,es,ep,ho,hd,hr⟩:=id hm;let IP:Inv X (pins++jG [C] s5.heap) σ H4 s5:=I5.pinned (fp:=[C]) (λb hb=>by rw [zq15.mp hb];show fo) λb hb=>by rw [zq15.mp hb];show {o,ho,λv z=>by rw [hd] at z;cases z}
 change wpAny _ _ (assign (.Name x px) X.env (.ref D')) _ _ s5;show thn (wM (X:=X) (i:=i) hN hx hl (.inl hf) _ s5 σ H4 (.ref D') (.ref D') (λσ' H'=>σ'=σ.set i (some (.ref D'))/\H'=H4) IP rfl ⟨rfl,rfl⟩) λ_ s6 hhx=>?_;obtain ⟨σ6,H6,I6,e1,e2⟩:=hhx;subst e1 e2;let hC6:s6.heap.get? C=some o:=(I6.pin (C,o) (i7 _ (i7 _ (fb (zq15.mpr rfl) ho)))).1;show {m,⟨o,es,ep,hC6,hd,hr⟩,λh' hs'=>{_,_,?_,q}};show I6.unpinned.turned (t':=s6.toks) (it:=C) (λb o hb e=>(hs'.2 b hb).trans e) fo.1 fo.2.1 fo.2.2.2.1 fo.2.2.2.2.1 fo.2.2.2.2.2
def yQ(scope osc:Scope):List (Str×NameKind):=scope.names.map λ(n,k)=>if (k==NameKind.free&&osc.kind==.function&&osc.names.lookup n==some .cell) then (n,NameKind.cell) else (n,k)
def lj(N:N0)(names:List (Str×NameKind)):N0->be->Bool
 | [],[]=>true
 |x::xs,i::is=>N[i]?==some x&&names.any (λy=>y.1==x&&y.2==.free)&&lj N names xs is
 |_,_=>false
def IZ(osc:Scope)(N:N0)(scope:Scope)(cns:N0)(ci:be):Bool:=
 scope.kind==.function&&scope.names.all (λy=>y.2 != .cell)&&scope.names.all (λy=>y.2 != .local || scope.names.lookup y.1==some .local) &&
 scope.names.all (λy=>y.2 != .free || (osc.names.lookup y.1==some .cell || osc.names.lookup y.1==some .free))&&lj N scope.names cns ci &&
 scope.names.all (λy=>y.2 != .free || (yQ scope osc).lookup y.1 != some .local)
def jq{N:N0}{names:List (Str×NameKind)}:∀{cns:N0} {ci:be},lj N names cns ci=true->cns.length=ci.length/\∀(j:Nat)x,cns[j]?=some x->∃i,ci[j]?=some i/\N[i]?=some x/\(x,NameKind.free)∈names
 | [],[],_=>{rfl,λj x e=>by simp at e}
 | [],_::_,h=>by simp [lj] at h
 |_::_,[],h=>by simp [lj] at h
 |x::xs,i::is,h=>by
  unfold lj at h;rw [eN,eN] at h;obtain ⟨⟨h1,h2⟩,h3⟩:=h;obtain ⟨l,r⟩:=jq h3;show {by simp [l],λj y e=>?_}
  cases j with
  |zero=>
   let e':x=y:=by simpa using e
   subst e';show {i,Oq,by simpa using h1,?_};obtain ⟨z,hz,hq⟩:=zq89.mp h2;rw [eN] at hq;obtain ⟨a,b⟩:=z;let e1:a=x:=by simpa using hq.1
   let e2:b=.free:=by simpa using hq.2
   subst e1 e2;show hz
  |succ j=>obtain ⟨k,hk⟩:=r j y (by simpa using e);show {k,by simpa using hk.1,hk.2}
def CompSc.of{X:Cx}{scope:Scope}{cns:N0}{ci:be}(h:IZ X.env.scope X.N scope cns ci=true):CompSc X scope cns ci:=by
 unfold IZ at h;rw [eN,eN,eN,eN,eN] at h;obtain ⟨⟨⟨⟨⟨h1,h2⟩,h3⟩,h4⟩,h5⟩,h6⟩:=h;obtain ⟨l,r⟩:=jq h5;show {by simpa using h1,λy hy=>?_,λy hy hk=>?_,λy hy hk=>?_,r,l,λy hy z=>?_}
 ·simpa using zq49.mp h2 y hy
 ·let this:=zq49.mp h3 y hy;rw [nH] at this;rcases this with q | q
  ·show absurd hk (by simpa using q)
  ·simpa using q
 ·let this:=zq49.mp h4 y hy;rw [nH,nH] at this;rcases this with q | q | q
  ·show absurd hk (by simpa using q)
  ·show .inl (show X.env.scope.names.lookup y.1=_ by simpa using q)
  ·show .inr (show X.env.scope.names.lookup y.1=_ by simpa using q)
 ·let this:=zq49.mp h6 _ hy;rw [nH] at this;rcases this with q | q
  ·simp at q
  ·let z':(yQ scope X.env.scope).lookup y=some .local:=z;let q':((yQ scope X.env.scope).lookup y != some .local)=true:=q;rw [z'] at q';show absurd q' On
def Np:=@CompSc.of
section
variable {K:N5} {g:TG} {tt:TT} {te:TE} {nt:Nat} {ci:be} {σ:St} {acc:Addr} {Q:Hp->Prop} {H0:Hp}
def cL{a:Addr}{xs:N7}(Pv:Nat->N7->Hp->Prop)(h0:Pv 0 [] H0)(hl:∀i ys H,i<=xs.length->Pv i ys H->SqL K H a xs)
  (hs:∀(i:Nat)x ys H os,xs[i]?=some x->os.length=nt->Pv i ys H->g x (aI os ci σ) H λσ1 H1=>(∃os',os'.length=nt/\σ1=aI os' ci σ)/\tt σ1 H1 λb H2=>if b=true then te σ1 H2 λz H3=>H3 acc=some (.lst ys)/\ys.length<sizeLine/\Pv (i+1) (ys++[z]) (upd H3 acc (.lst (ys++[z]))) else Pv (i+1) ys H2)
  (hd:∀ys H,Pv xs.length ys H->Q H):c5 (Itl K a) g tt te nt ci σ acc Q H0:=by
 show {λi m ys H=>m=xs.length-i/\i<=xs.length/\Pv i ys H,{xs.length,Oq,cE _,h0},?_};rintro i m ys H ⟨rfl,hi,p⟩;let q:=hl i ys H hi p
 by_cases hlt:i<xs.length
 ·show .inr {{xs,xs[i],q,by simp [hlt]},Pv (i+1),λys' H' p'=>{xs.length-(i+1),Oo,rfl,hlt,p'},λy H' os ho yl=>?_};obtain ⟨rfl,yl⟩:=yl;show hs i y ys H' os (yl xs q) ho p
 ·let e:i=xs.length:=by omega
  subst e;show .inl {{xs,q,zq4 _},hd ys H p}
def zY{a:Addr}{xs:N7}(Pv:Nat->N7->Hp->Prop)(h0:Pv 0 [] H0)(hl:∀i ys H,i<=xs.length->Pv i ys H->SqT K H a xs)
  (hs:∀(i:Nat)x ys H os,xs[i]?=some x->os.length=nt->Pv i ys H->g x (aI os ci σ) H λσ1 H1=>(∃os',os'.length=nt/\σ1=aI os' ci σ)/\tt σ1 H1 λb H2=>if b=true then te σ1 H2 λz H3=>H3 acc=some (.lst ys)/\ys.length<sizeLine/\Pv (i+1) (ys++[z]) (upd H3 acc (.lst (ys++[z]))) else Pv (i+1) ys H2)
  (hd:∀ys H,Pv xs.length ys H->Q H):c5 (Itt K a) g tt te nt ci σ acc Q H0:=by
 show {λi m ys H=>m=xs.length-i/\i<=xs.length/\Pv i ys H,{xs.length,Oq,cE _,h0},?_};rintro i m ys H ⟨rfl,hi,p⟩;let q:=hl i ys H hi p
 by_cases hlt:i<xs.length
 ·show .inr {{xs,xs[i],q,by simp [hlt]},Pv (i+1),λys' H' p'=>{xs.length-(i+1),Oo,rfl,hlt,p'},λy H' os ho yl=>?_};obtain ⟨rfl,yl⟩:=yl;show hs i y ys H' os (yl xs q) ho p
 ·let e:i=xs.length:=by omega
  subst e;show .inl {{xs,q,zq4 _},hd ys H p}
def iL{lo:Int}{n:Nat}(Pv:Nat->N7->Hp->Prop)(h0:Pv 0 [] H0)
  (hs:∀(i:Nat)ys H os,i<n->os.length=nt->Pv i ys H->g (.int (lo+i)) (aI os ci σ) H λσ1 H1=>(∃os',os'.length=nt/\σ1=aI os' ci σ)/\tt σ1 H1 λb H2=>if b=true then te σ1 H2 λz H3=>H3 acc=some (.lst ys)/\ys.length<sizeLine/\Pv (i+1) (ys++[z]) (upd H3 acc (.lst (ys++[z]))) else Pv (i+1) ys H2)
  (hd:∀ys H,Pv n ys H->Q H):c5 (Itr lo n) g tt te nt ci σ acc Q H0:=by
 show {λi m ys H=>m=n-i/\i<=n/\Pv i ys H,{n,Oq,cE _,h0},?_};rintro i m ys H ⟨rfl,hi,p⟩
 by_cases hlt:i<n
 ·show .inr {hlt,Pv (i+1),λys' H' p'=>{n-(i+1),Oo,rfl,hlt,p'},λy H' os ho yl=>?_};obtain ⟨rfl,rfl⟩:=yl;show hs i ys H' os hlt ho p
 ·let e:i=n:=by omega
  subst e;show .inl {zq4 _,hd ys H p}
end
end L2
namespace L2
def isiT:List String:=["int","bool","str","list","tuple","dict"]
inductive gC (K:N5) (H:Hp):V->String->Prop where
 |non:gC K H .non "NoneType"
 |bl {b:Bool}:gC K H (.bl b) "bool"
 |int {i:Int}:gC K H (.int i) "int"
 |str {x:Str}:gC K H (.str x) "str"
 |lst {a:Addr} {xs:N7} (h:SqL K H a xs):gC K H (.ref a) "list"
 |tup {a:Addr} {xs:N7} (h:SqT K H a xs):gC K H (.ref a) "tuple"
 |dic {a:Addr} (h:IsD H a):gC K H (.ref a) "dict"
def ix(k T:String):Bool:=k==T || (k=="bool"&&T=="int")
def sr(K:N5):N7->Hp->VK->Prop:=λxs H Q=>∃x T k,xs=[x,.ty T]/\isiT.contains T=true/\gC K H x k/\Q (.bl (ix k T)) H
section
variable {X:Cx}
def dk:eO X (.builtin "isinstance") (sr X.K):=by
 intro pins s σ H xs us Q I r h;obtain ⟨x,T,k,rfl,hT,hk,q⟩:=h;obtain ⟨u,v,rfl,ru,rv⟩:=tI r
 cases rv
 let hT':T="int"\/T="bool"\/T="str"\/T="list"\/T="tuple"\/T="dict":=by simpa [isiT] using hT
 let fin:∀{b:Bool},b=ix k T->EP X pins σ Q (.bool b) s:=λe=>{.bl _,H,I,rfl,by rw [e];show q}
 let finT:∀{b:Bool},b=ix k T->EP X pins σ Q (.bool b) {s with toks:=s.toks+1}:=λe=>{.bl _,H,I.tok _,rfl,by rw [e];show q}
 cases hk with
 |non=>
  cases ru
  rcases hT' with rfl | rfl | rfl | rfl | rfl | rfl
  ·show IsiPair.NoneType_int (finT Ol)
  ·show IsiPair.NoneType_bool (finT Ol)
  ·show IsiPair.NoneType_str (finT Ol)
  ·show IsiPair.NoneType_list (finT Ol)
  ·show IsiPair.NoneType_tuple (finT Ol)
  ·show IsiPair.NoneType_dict (finT Ol)
 |bl=>
  cases ru
  rcases hT' with rfl | rfl | rfl | rfl | rfl | rfl
  ·show IsiPair.bool_int (fin Ol)
  ·show IsiPair.bool_bool (fin Ol)
  ·show IsiPair.bool_str (finT Ol)
  ·show IsiPair.bool_list (finT Ol)
  ·show IsiPair.bool_tuple (finT Ol)
  ·show IsiPair.bool_dict (finT Ol)
 |int=>
  obtain ⟨t,rfl⟩:=ru;rcases hT' with rfl | rfl | rfl | rfl | rfl | rfl
  ·show IsiPair.int_int (fin Ol)
  ·show IsiPair.int_bool (finT Ol)
  ·show IsiPair.int_str (finT Ol)
  ·show IsiPair.int_list (finT Ol)
  ·show IsiPair.int_tuple (finT Ol)
  ·show IsiPair.int_dict (finT Ol)
 |str=>
  obtain ⟨t,rfl⟩:=ru;rcases hT' with rfl | rfl | rfl | rfl | rfl | rfl
  ·show IsiPair.str_int (finT Ol)
  ·show IsiPair.str_bool (finT Ol)
  ·show IsiPair.str_str (fin Ol)
  ·show IsiPair.str_list (finT Ol)
  ·show IsiPair.str_tuple (finT Ol)
  ·show IsiPair.str_dict (finT Ol)
 |lst hl=>
  cases ru
  obtain ⟨its,_,⟨o,n,e,c,_⟩,_⟩:=I.list hl;rcases hT' with rfl | rfl | rfl | rfl | rfl | rfl
  ·show IsiPair.list_int e c (finT Ol)
  ·show IsiPair.list_bool e c (finT Ol)
  ·show IsiPair.list_str e c (finT Ol)
  ·show IsiPair.list_list e c (fin Ol)
  ·show IsiPair.list_tuple e c (finT Ol)
  ·show IsiPair.list_dict e c (finT Ol)
 |tup hl=>
  cases ru
  obtain ⟨its,_,⟨o,e,c,_⟩,_⟩:=I.tuple hl;rcases hT' with rfl | rfl | rfl | rfl | rfl | rfl
  ·show IsiPair.tuple_int e c (finT Ol)
  ·show IsiPair.tuple_bool e c (finT Ol)
  ·show IsiPair.tuple_str e c (finT Ol)
  ·show IsiPair.tuple_list e c (finT Ol)
  ·show IsiPair.tuple_tuple e c (fin Ol)
  ·show IsiPair.tuple_dict e c (finT Ol)
 |dic hl=>
  cases ru
  obtain ⟨o,e,c⟩:=(GG I hl).1;rcases hT' with rfl | rfl | rfl | rfl | rfl | rfl
  ·show IsiPair.dict_int e c (finT Ol)
  ·show IsiPair.dict_bool e c (finT Ol)
  ·show IsiPair.dict_str e c (finT Ol)
  ·show IsiPair.dict_list e c (finT Ol)
  ·show IsiPair.dict_tuple e c (finT Ol)
  ·show IsiPair.dict_dict e c (fin Ol)
end
section
variable {H:Hp} {Q:VK} {σ:St} {D:dJ} {K:N5}
def Ew{wi:TI}{g:Bk->TG}{tt:Bk->TT}{te:Bk->TE}{nt:Nat}{ci:be}:mN wi g tt te nt ci σ H Q=wi σ H λJ H1=>∀acc,H1 acc=none->∀bk:Bk,c5 J (g bk) (tt bk) (te bk) nt ci σ acc (λH'=>Q (.ref acc) H') (upd H1 acc (.lst [])):=rfl
def yN{i:Nat}{wi:TI}{g:Bk->TG}{tt:Bk->TT}{te:Bk->TE}{nt:Nat}{ci:be}:mF i wi g tt te nt ci D σ H=wi σ H λJ H1=>∀acc,H1 acc=none->∀bk:Bk,c5 J (g bk) (tt bk) (te bk) nt ci σ acc (λH'=>D.nx (σ.set i (some (.ref acc))) H') (upd H1 acc (.lst [])):=rfl
def Kc{Q:Bool->Hp->Prop}:ff σ H Q=Q true H:=rfl
def wO{x:V}{T k:String}(hk:gC K H x k)(hT:isiT.contains T=true)(hf:∀k',gC K H x k'->k'=k):sr K [x,.ty T] H Q=Q (.bl (ix k T)) H:=
 propext {by rintro ⟨_,_,k',e,_,h2,q⟩;cases e;rw [hf k' h2] at q;show q,by intro q;show ⟨x,T,k,rfl,hT,hk,q⟩}
def nj{i:Int}:sr K [.int i,.ty "str"] H Q=Q (.bl false) H:=(wO (T:="str") .int Ol (λk h=>by cases h;rfl)).trans (by rw [show ix "int" "str"=false by decide +kernel])
def nu{x:Str}:sr K [.str x,.ty "str"] H Q=Q (.bl true) H:=(wO (T:="str") .str Ol (λk h=>by cases h;rfl)).trans (by rw [show ix "str" "str"=true by decide +kernel])
end
end L2
namespace L2
variable {p:Addr} {x:V}
section
variable {H:Hp} {Q:VK} {σ:St} {D:dJ} {K:N5}
def Ka{a:Addr}{lo hi:Option Int}:JB K (.ref a) lo hi H Q=∃xs,SqT K H a xs/\¬(HT.sIx xs.length 0 lo=0/\HT.sIx xs.length xs.length hi=xs.length)/\∀p,H p=none->Q (.ref p) (upd H p (.tup (dY xs lo hi))):=propext {by rintro ⟨_,xs,e1,h⟩;cases e1;show ⟨xs,h⟩,by rintro ⟨xs,h⟩;show {_,xs,rfl,h}}
def JS:rIn K false x (.ref p) H Q=∃xs,(SqL K H p xs\/SqT K H p xs)/\cf x=true/\xs.all cf=true/\Q (.bl (inV x xs)) H:=propext {by rintro ⟨_,xs,e1,h⟩;cases e1;show ⟨xs,h⟩,by rintro ⟨xs,h⟩;show {_,xs,rfl,h}}
def BD:rIn K true x (.ref p) H Q=∃xs,(SqL K H p xs\/SqT K H p xs)/\cf x=true/\xs.all cf=true/\Q (.bl (! inV x xs)) H:=propext {by rintro ⟨_,xs,e1,h⟩;cases e1;show ⟨xs,h⟩,by rintro ⟨xs,h⟩;show {_,xs,rfl,h}}
end
def Paired.get{α β:Type}{F:α->β->Prop}:∀{l₁:List α} {l₂:List β} {i:Nat} {a:α},Paired F l₁ l₂->l₁[i]?=some a->∃b,l₂[i]?=some b/\F a b
 |_,_,_,_,.nil,e=>by simp at e
 |_,_,0,_,.cons h _,e=>by simp at e;subst e;show {_,rfl,h}
 |_,_,i+1,a,.cons _ t,e=>by obtain ⟨b,h1,h2⟩:=Paired.get (i:=i) (a:=a) t (by simpa using e);show {b,by simpa using h1,h2}
def Nu:=@Paired.get
def Paired.getR{α β:Type}{F:α->β->Prop}:∀{l₁:List α} {l₂:List β} {i:Nat} {b:β},Paired F l₁ l₂->l₂[i]?=some b->∃a,l₁[i]?=some a/\F a b
 |_,_,_,_,.nil,e=>by simp at e
 |_,_,0,_,.cons h _,e=>by simp at e;subst e;show {_,rfl,h}
 |_,_,i+1,b,.cons _ t,e=>by obtain ⟨a,h1,h2⟩:=Paired.getR (i:=i) (b:=b) t (by simpa using e);show {a,by simpa using h1,h2}
def NC:=@Paired.getR
def Same.updM{H0 H:Hp}{o:HO}(s:Same H0 H)(h:H0 p=none):Same H0 (L2.upd H p o):=λb u e=>by rw [ak (au e h)];show s b u e
def Same.updN{H0 H:Hp}{o:HO}(s:Same H0 H)(h:H p=none):Same H0 (L2.upd H p o):=s.updM (s.free h)
def iW{b:Bool}{A B:Prop}(h1:b=true->A)(h2:b=false->B):if b=true then A else B:=by
 cases b
 ·rw [zq0 zq6];show h2 rfl
 ·rw [zq1 rfl];show h1 rfl
def Gu{CX:CXT}{P:Program}{w:World}{K:N5}{mg:Str->N6}{base:Heap}{N:N0}{qual:Str}{scope:Scope}{f:Addr}{cd:Value}{A:Around}{outer:List Env}{s:Shared}{H:Hp}{E:XK}:(pA CX P w K mg base N qual scope f cd A outer s H E).K=K:=rfl
def IL{X:Cx}{E:Value->Shared->Prop}:(X.wish E).K=X.K:=rfl
def IV{X:Cx}{N':N0}{scope:Scope}{b:Bk}:(X.blk N' scope b).K=X.K:=rfl
def HB{o:N8}{ci:be}{σ:St}:aI [o] ci σ=none::o::ci.map λi=>(σ[i]?).join:=rfl
def HC{o o':N8}{ci:be}{σ:St}:aI [o,o'] ci σ=none::o::o'::ci.map λi=>(σ[i]?).join:=rfl
def me{n k:Nat}{P:Prop}(h:¬HT.sIx n 0 (some (k:Int))=0):¬(HT.sIx n 0 (some (k:Int))=0/\P):=λz=>h z.1
def lV:V->Bool
 | .str _=>true
 |_=>false
def pJ{n:Str}:∀{ns:N0},inV (.str n) (ns.map V.str)=decide (n∈ns)
 | []=>by simp [inV]
 |m::ns=>by
  let ih:=pJ (n:=n) (ns:=ns);unfold inV at ih ⊢;rw [cH,tX,ih];let e:eqV (.str m) (.str n)=decide (m=n):=by unfold eqV;rfl
  rw [e]
  by_cases h1:m=n
  ·subst h1;simp
  ·let h2:¬n=m:=λz=>h1 z.symm;simp [h1,h2]
def jt:∀{ns:N0},(ns.map V.str).all cf=true
 | []=>rfl
 |n::ns=>by rw [cH,vn,jt];rfl
section
variable {K:N5} {tt:TT} {te:TE} {ci:be} {σ:St} {acc:Addr} {Q:Hp->Prop} {H1:Hp} {a:Addr} {xs:N7}
def yc(p:V->Bool)(f:V->V){x:V}{ys:N7}{H:Hp}{os:List N8}{i:Nat}{Pv:Nat->N7->Hp->Prop}(ho:os.length=1)(hi:xs[i]?=some x)
  (hp:∀Q',Q' (p x) H->tt (aI [some x] ci σ) H Q') (hf:∀Q',p x=true->Q' (f x) H->te (aI [some x] ci σ) H Q') (hacc:H acc=some (.lst ys)) (hlen:ys.length<sizeLine)
  (h1:p x=true->Pv (i+1) (ys++[f x]) (upd H acc (.lst (ys++[f x])))) (h2:p x=false->Pv (i+1) ys H) :
  bI 1 x (aI os ci σ) H λσ1 H1=>(∃os',os'.length=1/\σ1=aI os' ci σ)/\tt σ1 H1 λb H2=>if b=true then te σ1 H2 λz H3=>H3 acc=some (.lst ys)/\ys.length<sizeLine/\Pv (i+1) (ys++[z]) (upd H3 acc (.lst (ys++[z]))) else Pv (i+1) ys H2:=by
 let e:(aI os ci σ).set 1 (some x)=aI [some x] ci σ:=by
  match os,ho with
  | [o],_=>rfl
 change (∃os',os'.length=1/\(aI os ci σ).set 1 (some x)=aI os' ci σ)/\tt ((aI os ci σ).set 1 (some x)) H _;rw [e];show {{[some x],rfl,rfl},hp _ ?_}
 cases hb:p x with
 |true=>rw [zq1 rfl];show hf _ hb {hacc,hlen,h1 hb}
 |false=>rw [zq0 zq6];show h2 hb
def dA{p:V->Bool}{f:V->V}{xs:N7}{i:Nat}(hi:xs[i]?=some x):((xs.take (i+1)).filter p).map f=((xs.take i).filter p).map f++(if p x=true then [f x] else []):=by
 obtain ⟨h,e⟩:=zq7.mp hi;rw [dH h,e,D4,dN];congr 1
 cases hb:p x<;>simp [hb]
def rq{p:V->Bool}{f:V->V}{xs:N7}{i:Nat}(hi:xs[i]?=some x)(hz:xs.length<=sizeLine):(((xs.take i).filter p).map f).length<sizeLine:=by obtain ⟨h,e⟩:=zq7.mp hi;rw [zq3];let this:=D5 p (xs.take i);rw [dz] at this;omega
def pk{J:It}(p:V->Bool)(f:V->V)(hz:xs.length<=sizeLine)(hacc:H1 acc=none)
 (hJ:∀(Pv:Nat->N7->Hp->Prop),Pv 0 [] (upd H1 acc (.lst []))->(∀i ys H,Pv i ys H->∃ys',H=upd H1 acc (.lst ys'))->
 (∀(i:Nat)x ys H os,xs[i]?=some x->os.length=1->Pv i ys H->bI 1 x (aI os ci σ) H λσ1 H1=>(∃os',os'.length=1/\σ1=aI os' ci σ)/\tt σ1 H1 λb H2=>
 if b=true then te σ1 H2 λz H3=>H3 acc=some (.lst ys)/\ys.length<sizeLine/\Pv (i+1) (ys++[z]) (upd H3 acc (.lst (ys++[z]))) else Pv (i+1) ys H2)->
 (∀ys H,Pv xs.length ys H->Q H)->c5 J (bI 1) tt te 1 ci σ acc Q (upd H1 acc (.lst [])))
 (hp:∀x∈xs,∀H Q',Same H1 H->Q' (p x) H->tt (aI [some x] ci σ) H Q') (hf:∀x∈xs,∀H Q',Same H1 H->p x=true->Q' (f x) H->te (aI [some x] ci σ) H Q')
 (q:Q (upd H1 acc (.lst ((xs.filter p).map f)))):c5 J (bI 1) tt te 1 ci σ acc Q (upd H1 acc (.lst [])):=by
 show hJ (λi ys H=>ys=((xs.take i).filter p).map f/\H=upd H1 acc (.lst ys)) ⟨Oq,rfl⟩ (λi ys H h=>⟨ys,h.2⟩) ?_ ?_
 ·rintro i x ys H os hi ho ⟨rfl,rfl⟩;let hm:=bR hi;show yc (xs:=xs) (Pv:=λi ys H=>ys=((xs.take i).filter p).map f/\H=upd H1 acc (.lst ys)) p f ho hi (λQ' h=>hp x hm _ _ (Ng hacc) h) (λQ' hb h=>hf x hm _ _ (Ng hacc) hb h) ae (rq hi hz) (λhb=>?_) (λhb=>?_)
  ·rw [dA hi,zq1 hb];show {rfl,by rw [F3]}
  ·rw [dA hi,zq0 (by rw [hb];show zq6),iD];show ⟨rfl,rfl⟩
 ·rintro ys H ⟨rfl,rfl⟩;rw [eA];show q
def zU(p:V->Bool)(f:V->V)(hz:xs.length<=sizeLine)(hl:SqL K H1 a xs)(hacc:H1 acc=none)
  (hp:∀x∈xs,∀H Q',Same H1 H->Q' (p x) H->tt (aI [some x] ci σ) H Q') (hf:∀x∈xs,∀H Q',Same H1 H->p x=true->Q' (f x) H->te (aI [some x] ci σ) H Q')
  (q:Q (upd H1 acc (.lst ((xs.filter p).map f)))):c5 (Itl K a) (bI 1) tt te 1 ci σ acc Q (upd H1 acc (.lst [])):=
 pk p f hz hacc (λPv h0 hH hs hd=>cL Pv h0 (λi ys H _ h=>by obtain ⟨ys',rfl⟩:=hH i ys H h;show (Ng hacc).seq hl) hs hd) hp hf q
def zW(p:V->Bool)(f:V->V)(hz:xs.length<=sizeLine)(hl:SqT K H1 a xs)(hacc:H1 acc=none)
  (hp:∀x∈xs,∀H Q',Same H1 H->Q' (p x) H->tt (aI [some x] ci σ) H Q') (hf:∀x∈xs,∀H Q',Same H1 H->p x=true->Q' (f x) H->te (aI [some x] ci σ) H Q')
  (q:Q (upd H1 acc (.lst ((xs.filter p).map f)))):c5 (Itt K a) (bI 1) tt te 1 ci σ acc Q (upd H1 acc (.lst [])):=
 pk p f hz hacc (λPv h0 hH hs hd=>zY Pv h0 (λi ys H _ h=>by obtain ⟨ys',rfl⟩:=hH i ys H h;show (Ng hacc).seqT hl) hs hd) hp hf q
def zV{lo:Int}{n:Nat}(p:Int->Bool)(f:Int->V)(hz:n<=sizeLine)(hacc:H1 acc=none)
 (hp:∀i:Nat,i<n->∀H Q',Same H1 H->Q' (p (lo+i)) H->tt (aI [some (.int (lo+i))] ci σ) H Q') (hf:∀i:Nat,i<n->∀H Q',Same H1 H->p (lo+i)=true->Q' (f (lo+i)) H->te (aI [some (.int (lo+i))] ci σ) H Q')
 (q:Q (upd H1 acc (.lst (((List.range n).filter λi:Nat=>p (lo+i)).map λi:Nat=>f (lo+i))))):c5 (Itr lo n) (bI 1) tt te 1 ci σ acc Q (upd H1 acc (.lst [])):=by
 let hx:∀(i:Nat),i<n->((List.range n).map λk:Nat=>V.int (lo+k))[i]?=some (.int (lo+i)):=λi hi=>by simp [hi]
 let key:=pk (xs:=(List.range n).map λk:Nat=>V.int (lo+k)) (J:=Itr lo n) (tt:=tt) (te:=te) (ci:=ci) (σ:=σ) (acc:=acc) (Q:=Q) (H1:=H1)
  (λx=>match x with | .int i=>p i | _=>false) (λx=>match x with | .int i=>f i | _=>.non) (by simpa using hz) hacc
  (λPv h0 hH hs hd=>iL Pv h0 (λi ys H os hi ho h=>hs i _ ys H os (hx i hi) ho h) (λys H h=>hd ys H (by simpa using h)))
  (λx hm H Q' sm h=>by obtain ⟨k,hk,rfl⟩:=zq32.mp hm;show hp k (zq43.mp hk) H Q' sm h)
  (λx hm H Q' sm hb h=>by obtain ⟨k,hk,rfl⟩:=zq32.mp hm;show hf k (zq43.mp hk) H Q' sm hb h)
 show key ?_;let e:(((List.range n).map λk:Nat=>V.int (lo+k)).filter (λx=>match x with | .int i=>p i | _=>false)).map (λx=>match x with | .int i=>f i | _=>.non)=((List.range n).filter λi:Nat=>p (lo+i)).map λi:Nat=>f (lo+i):=by rw [List.filter_map,gm];rfl
 rw [e];show q
end
end L2
end
namespace FB
open PySem L2
inductive Opd where
 |box (n:Str)
 |word (i:Int)
 deriving DecidableEq
def Opd.v:Opd->V
 | .box n=>.str n
 | .word i=>.int i
def Opd.reads:Opd->N0
 | .box n=>[n]
 | .word _=>[]
inductive Deed where
 |tell (a:Opd)
 |copy (d:Str) (a:Opd)
 |op (f d:Str) (a b:Opd)
 deriving DecidableEq
abbrev _root_.Na:=FB.Deed
abbrev _root_.N9:=List Na
def opsL:N0:=["plus","less","and","or","xor","below","same"]
def Deed.vs:Deed->N7
 | .tell a=>[.str "tell",a.v]
 | .copy d a=>[.str "copy",.str d,a.v]
 | .op f d a b=>[.str f,.str d,a.v,b.v]
def Deed.fine:Deed->Prop
 | .op f _ _ _=>f∈opsL
 |_=>True
def Deed.reads:Deed->N0
 | .tell a=>a.reads
 | .copy _ a=>a.reads
 | .op _ _ a b=>a.reads++b.reads
def Deed.writes:Deed->N0
 | .tell _=>[]
 | .copy d _=>[d]
 | .op _ d _ _=>[d]
def Deed.tells:Deed->Bool
 | .tell _=>true
 |_=>false
def yf(one other:Deed):Option Int:=
 if one.tells=true/\other.tells=true then some 1
 else if ∃n∈one.writes,n∈other.reads\/n∈other.writes then some 1
 else if ∃n∈other.writes,n∈one.reads then some 0 else none
def pW:Option Int->V
 |none=>.non
 |some i=>.int i
end FB
section
open PySem PySem.Spec PyProof.Rows
namespace L2
section
variable {X:Cx}
def hX:∀{ns:N0} {us:N1},Vals (ns.map V.str) us->StrsAre us ns
 | [],_,r=>by cases r;show .nil
 |n::ns,_,r=>by
  cases r with
  |cons r0 rr=>obtain ⟨t,rfl⟩:=r0;show StrsAre.cons _ _ (hX rr)
def Fs(K:N5):V->N7->Hp->VK->Prop:=λx vs H Q=>∃(z:Str)(p:Addr)(ys:N0),x=.str z/\vs=[.ref p]/\SqL K H p (ys.map V.str)/\(ys.map (·.length)).sum+ys.length * z.length<=16777216/\Q (.str (Txt.join z ys)) H
def E1:MtR X "str.join" (Fs X.K):=by
 intro pins s σ H x vs v us Q I rx rv h;obtain ⟨z,p,ys,rfl,rfl,hq,hz,q⟩:=h;obtain ⟨t,rfl⟩:=rx;obtain ⟨u,rfl,ru⟩:=rv.one
 cases ru
 obtain ⟨its,r,pl,_⟩:=I.list hq;show join_list pl.isList (by simpa using hX r) hz λt' k=>{.str _,H,I.tok _,{_,rfl},q}
end
end L2
namespace L2
variable {H:Hp} {sc:Scope} {σ:St}
section
variable {X:Cx} {x:Str} {p pos:Pos} {e:Expr} {es:N4} {t:TA} {id T:String} {r:N7->Hp->VK->Prop}
def qv(i:Nat){x:Str}{pos:Pos}(hv:Vis X.env.scope x)(hN:X.N[i]?=some x:=by rfl)(hd:(x==("__debug__":Str))=false:=by kernel_rfl) (hcd:(x==("__classdict__":Str))=false:=by kernel_rfl):PE X (.Name x pos) (IG i):=Ht hN hv hd hcd
def vl{x:Str}(h:sc.names.lookup x=some .local:=by kernel_rfl):Vis sc x:=.inl h
def vc{x:Str}(h:sc.names.lookup x=some .cell:=by kernel_rfl):Vis sc x:=.inr (.inl h)
def ll{x:Str}(h:sc.names.lookup x=some .local:=by kernel_rfl):Loc sc x:=.inl h
def lc{x:Str}(h:sc.names.lookup x=some .cell:=by kernel_rfl):Loc sc x:=.inr h
def gl{X:Cx}{x:Str}(h:X.env.scope.names.lookup x=some .globalImplicit:=by kernel_rfl):Gl X x:=h
def pT{x:Str}(h:(x==("__name__":Str))=false:=by kernel_rfl):x≠"__name__":=λz=>by subst z;show absurd h Ol
def Bl{k:Nat}{f:Addr}{fd:FuncData}{ps:N0}{sp:Sp}{x:Str}{st:Stmt}{p pos:Pos}{e:Expr}{es:N4}{t:TA}(D:br X.K X.mg x st ps f fd)(G:FnOk X.prog X.w X.K X.mg X.base CX0 k f fd ps sp)(hr:Room k X.A)
  (ha:PA X (e::es) t) (hg:Gl X x) (hdb:(x==("__debug__":Str))=false:=by kernel_rfl) (he:starEach (e::es) X.env=(false,eval e X.env)::starEach es X.env:=by rfl) (hpl:(backTo pos (starEach es X.env)).any (·.1)=false:=by rfl) :
  PE X (.Call (.Name x p) (e::es) [] pos) (mK sp [] E0 t):=B7 D G hr ha hg hdb he hpl
def uh:Expr->N8
 | .Constant (.int i) _ _=>some (.int i)
 | .Constant (.str x) _ _=>some (.str x)
 | .Constant (.bool b) _ _=>some (.bl b)
 | .Constant .none _ _=>some .non
 |_=>none
def kJ:N4->Option N7
 | []=>some []
 |e::es=>(uh e).bind λv=>(kJ es).map λvs=>v::vs
def tVs(vs:N7):TA:=λ_ H Q=>Q vs H
def xY{e:Expr}{v:V}(h:uh e=some v):PE X e (tC v)/\∀es,starEach (e::es) X.env=(false,eval e X.env)::starEach es X.env:=by
 unfold uh at h
 split at h
 ·cases h;show {Ba,λ_=>rfl}
 ·cases h;show {Be,λ_=>rfl}
 ·cases h;show {Fq,λ_=>rfl}
 ·cases h;show {Bd,λ_=>rfl}
 ·cases h
def si:∀{es:N4} {vs:N7},kJ es=some vs->PA X es (tVs vs)
 | [],_,h=>by cases h;show B5
 |e::es,vs,h=>by unfold kJ at h;obtain ⟨v,h1,h2⟩:=Option.bind_eq_some_iff.mp h;obtain ⟨ws,h3,h4⟩:=zq30.mp h2;subst h4;obtain ⟨p1,p2⟩:=xY (X:=X) h1;show wJ p1 (si h3) (p2 es)
def Md{vs:N7}{Z:N7->Hp->Prop}:tVs vs σ H Z=Z vs H:=rfl
def HZ{z:Str}{p:Addr}{K:N5}{Q:VK}:Fs K (.str z) [.ref p] H Q=∃ys:N0,SqL K H p (ys.map V.str)/\(ys.map (·.length)).sum+ys.length * z.length<=16777216/\Q (.str (Txt.join z ys)) H:=propext {by rintro ⟨_,_,ys,e1,e2,h⟩;cases e1;cases e2;show ⟨ys,h⟩,by rintro ⟨ys,h⟩;show {_,_,ys,rfl,rfl,h}}
def ER{z:Str}{K:N5}:tyV K "str" (.str z) H=True:=eq_true (show ("str":String)="str" from rfl)
def Ez{Q:VK}:Cw σ H Q=∀p,H p=none->Q (.ref p) (upd H p (.dK [])):=rfl
def HG{td ty tv:TE}{D:dJ}:BV td ty tv D σ H=tv σ H λv H1=>td σ H1 λx H2=>ty σ H2 λy H3=>∃a H4,x=.ref a/\DPut H3 a y v H4/\D.nx σ H4:=rfl
def HL{c:Addr}{Z:Addr->Hp->Prop}:(∃a H4,V.ref c=.ref a/\Z a H4)=∃H4,Z c H4:=propext {by rintro ⟨_,H4,e,q⟩;cases e;show ⟨H4,q⟩,by rintro ⟨H4,q⟩;show ⟨c,H4,rfl,q⟩}
def HP{to ti:TE}{ts:zC}{v:V}{Q:St->Hp->Prop}:GC to ti ts v σ H Q=to σ H λo H1=>ti σ H1 λi H2=>ts o i v H2 λH3=>Q σ H3:=rfl
def IF(t u:TS):TS:=λD σ H=>∃Mid:St->Hp->Prop,t {D with nx:=Mid} σ H/\∀σ' H',Mid σ' H'->u D σ' H'
def BA{ta tb:TS}{D:dJ}:IF ta tb D σ H=∃Mid:St->Hp->Prop,ta {D with nx:=Mid} σ H/\∀σ' H',Mid σ' H'->tb D σ' H':=rfl
end
end L2
namespace L2
variable {dx:Addr}
structure KlsAt(K:N5)(mg:Str->N6)(x:Str)(C:Addr):Prop where
 cl:Cls K C
 mks:W.makesIn K C=true
 kp:W.keepIn K (.ref C)=true
 M:mg x=some (.ref C)
structure bh(K:N5)(C:Addr)(m qual:Str)(st:Stmt)(ps:N0)(f:Addr)(fd:FuncData):Prop where
 F:Fun K m qual st f fd
 B:Binds K fd ps []
 M:xU K C m f
def KlsAt.make{K:N5}{mg:Str->N6}{x qual:Str}{C f:Addr}{st:Stmt}{ps:N0}{fd:FuncData}(c:KlsAt K mg x C)(m:bh K C "__init__" qual st ps f fd):Mk K C f:=⟨c.mks,m.M.at_,m.M.fn,c.kp⟩
section
variable {X:Cx} {k:Nat} {f C:Addr} {fd:FuncData} {ps:N0} {sp:Sp} {x m qual:Str} {st:Stmt} {p pos apos:Pos} {e o:Expr} {es:N4} {ta:TE} {t:TA}
def Bn(c:KlsAt X.K X.mg x C)(D:bh X.K C "__init__" qual st ps f fd) (G:FnOk X.prog X.w X.K X.mg X.base CX0 k f fd ps sp) (hr:Room (k+1) X.A)
  (ha:PA X (e::es) t) (hg:Gl X x) (hdb:(x==("__debug__":Str))=false:=by kernel_rfl) (he:starEach (e::es) X.env=(false,eval e X.env)::starEach es X.env:=by rfl) (hpl:(backTo pos (starEach es X.env)).any (·.1)=false:=by rfl) :
  PE X (.Call (.Name x p) (e::es) [] pos) (mO C sp [] E0 t):=En (c.make D) G hr hg c.M D.B .nil oy ha hdb he hpl
def Bo{pl:Sem Bool}(c:Cls X.K C)(D:bh X.K C m qual st ps f fd)(G:FnOk X.prog X.w X.K X.mg X.base CX0 k f fd ps sp)(hr:Room k X.A)(he:PE X o ta)(ha:PA X (e::es) t)
  (hst:starEach (e::es) X.env=(false,eval e X.env)::starEach es X.env:=by rfl) (hpl:(backTo pos (starEach es X.env)).any (·.1)=false:=by rfl)
  (ht:eval (.Call (.Attribute o m apos) (e::es) [] pos) X.env=(do
   let ov <- eval o X.env
   standAt apos.atName
   let (f,first) <- holding [ov] (getMethod ov m pl)
   callWith pos f first (backTo pos (starEach (e::es) X.env)) (backToKw pos (keywordEach [] X.env))):=by rfl) :
  PE X (.Call (.Attribute o m apos) (e::es) [] pos) (jk C m sp [] E0 ta t):=wL he c D.M G hr D.B .nil oy ha hst hpl ht
def yL{pl:Sem Bool}(c:Cls X.K C)(D:bh X.K C m qual st ps f fd)(G:FnOk X.prog X.w X.K X.mg X.base CX0 k f fd ps sp)(hr:Room k X.A)(he:PE X o ta)
  (ht:eval (.Call (.Attribute o m apos) [] [] pos) X.env=(do
   let ov <- eval o X.env
   standAt apos.atName
   let (f,first) <- holding [ov] (getMethod ov m pl)
   callWith pos f first (backTo pos (starEach [] X.env)) (backToKw pos (keywordEach [] X.env))):=by rfl) :
  PE X (.Call (.Attribute o m apos) [] [] pos) (jk C m sp [] E0 ta tD):=Bc he c D.M G hr D.B .nil oy ht
end
section
variable {H:Hp} {Q:VK} {σ:St} {D:dJ} {K:N5}
def zA(K:N5)(x:V)(f:Str)(y:V)(H:Hp)(Z:Hp->Prop):Prop:=∃a C dx fs,x=.ref a/\H a=some (.ins C dx fs)/\Cls K C/\NoAttr K C f/\fs.length<1000/\Z (upd H a (.ins C dx (eS f y fs)))
def uc(K:N5)(x:V)(f:Str)(H:Hp)(Q:VK):Prop:=∃a C dx fs v,x=.ref a/\H a=some (.ins C dx fs)/\Cls K C/\NoAttr K C f/\fs.lookup f=some v/\Q v H
def oU(C:Addr)(m:Str)(x:V)(H:Hp)(Z:Prop):Prop:=∃a dx fs,x=.ref a/\H a=some (.ins C dx fs)/\fs.lookup m=none/\Z
def IT(C:Addr)(sp:Sp)(vs:N7)(H:Hp)(Q:VK)(E:XK):Prop:=∀x dx,H x=none->H dx=none->dx≠x->sp (.ref x::vs) (upd (upd H dx (.own x)) x (.ins C dx [])) (λv H2=>v=.non/\Q (.ref x) H2) E
def Iw{ta tv:TE}{f:Str}:Ke K ta tv f D σ H=tv σ H λy H1=>ta σ H1 λx H2=>zA K x f y H2 (D.nx σ):=rfl
def HR{ta:TE}{f:Str}:LO K ta f σ H Q=ta σ H λx H1=>uc K x f H1 Q:=rfl
def Il{C:Addr}{m:Str}{sp:Sp}{E:XK}{ta:TE}{t:TA}:jk C m sp [] E ta t σ H Q=ta σ H λx H1=>oU C m x H1 (t σ H1 λvs H2=>sp (x::vs) H2 Q E):=by unfold jk oU;simp only [List.append_nil]
def Ik{C:Addr}{sp:Sp}{E:XK}{t:TA}:mO C sp [] E t σ H Q=t σ H λvs H1=>IT C sp vs H1 Q E:=by unfold mO IT;simp only [List.append_nil]
def iu{p C:Addr}{fs:List (Str×V)}{f:Str}{y:V}{Z:Hp->Prop}(e:H p=some (.ins C dx fs))(c:Cls K C)(n:NoAttr K C f)(l:fs.length<1000)(h:Z (upd H p (.ins C dx (eS f y fs)))):zA K (.ref p) f y H Z:=⟨p,C,dx,fs,rfl,e,c,n,l,h⟩
def bS{p C:Addr}{fs:List (Str×V)}{f:Str}{v:V}(e:H p=some (.ins C dx fs))(c:Cls K C)(n:NoAttr K C f)(l:fs.lookup f=some v)(h:Q v H):uc K (.ref p) f H Q:=⟨p,C,dx,fs,v,rfl,e,c,n,l,h⟩
def aE{p C:Addr}{fs:List (Str×V)}{m:Str}{Z:Prop}(e:H p=some (.ins C dx fs))(l:fs.lookup m=none)(h:Z):oU C m (.ref p) H Z:=⟨p,dx,fs,rfl,e,l,h⟩
end
end L2
namespace L2
section
variable {K:N5} {h:Heap} {mg:Str->N6}
abbrev fnS (x qual:Str) (st:Stmt) (kV doc pm:Value) (an:Option Addr) (cdv ct:Value):FuncData:=W.fnOf x qual (df st) (cM st) (ar st) .none kV doc pm an cdv ct
abbrev qz (x qual:Str) (st:Stmt) (ps:N0):Prop:=∀(kV doc pm:Value)(an:Option Addr)(cdv ct:Value)(us:N1),us.length=ps.length->bindArgs (fnS x qual st kV doc pm an cdv ct) {us,[]}=pure (ps.zip us)
def cF{x:Str}{st:Stmt}{ps:N0}{f:Addr}{oc:Value}{od an:Option Addr}{osl:Array N6}{kV doc pm cdv ct:Value}(X:K.In h)(G:h.Ns mainGlobals mg)(a:W.nsIn K mainGlobals x=some (some (.ref f)))
  (l:K.lookup f=some {oc,od,.func (W.fnOf x x (df st) (cM st) (ar st) .none kV doc pm an cdv ct),osl}) (c:W.codeIn K cdv x=true) (k:W.keepIn K (.ref f)=true) (b:qz x x st ps):br K mg x st ps f (W.fnOf x x (df st) (cM st) (ar st) .none kV doc pm an cdv ct):=
 {pG l c k,(pG l c k).binds b,W.mg_of X G a}
def dR{C:Addr}{x qual:Str}{st:Stmt}{ps:N0}{f:Addr}{oc:Value}{od an:Option Addr}{osl:Array N6}{kV doc pm cdv ct:Value}(a:W.findIn K (.ref C) x=some (some (.ref f)))(i:W.isFn K (.ref f)=true)
  (l:K.lookup f=some {oc,od,.func (W.fnOf x qual (df st) (cM st) (ar st) .none kV doc pm an cdv ct),osl}) (c:W.codeIn K cdv qual=true) (k:W.keepIn K (.ref f)=true) (b:qz x qual st ps):bh K C x qual st ps f (W.fnOf x qual (df st) (cM st) (ar st) .none kV doc pm an cdv ct):=
 {pG l c k,(pG l c k).binds b,⟨a,i,k⟩}
def A0{x:Str}{C:Addr}(X:K.In h)(G:h.Ns mainGlobals mg)(a:W.nsIn K mainGlobals x=some (some (.ref C)))(h1:W.plainGet K C Str.empty=true)(h2:W.hasDictIn K C=true)(h3:W.plainOver K C=true)
  (h4:W.findIn K (.ref C) "__setattr__"=some (some (.builtin "object.__setattr__"))) (h5:W.makesIn K C=true) (h6:W.keepIn K (.ref C)=true):KlsAt K mg x C:={⟨h1,h2,h3,h4⟩,h5,h6,W.mg_of X G a}
end
section
variable {x qual p q r s t u:Str} {st:Stmt}
def bn1(h:∀kV doc pm an cdv ct a,bindArgs (fnS x qual st kV doc pm an cdv ct) {[a],[]}=pure [(p,a)]):qz x qual st [p]:=λkV doc pm an cdv ct us hl=>by
 match us,hl with
 | [a],_=>show h kV doc pm an cdv ct a
def bn2(h:∀kV doc pm an cdv ct a b,bindArgs (fnS x qual st kV doc pm an cdv ct) {[a,b],[]}=pure [(p,a),(q,b)]):qz x qual st [p,q]:=λkV doc pm an cdv ct us hl=>by
 match us,hl with
 | [a,b],_=>show h kV doc pm an cdv ct a b
def bn3(h:∀kV doc pm an cdv ct a b c,bindArgs (fnS x qual st kV doc pm an cdv ct) {[a,b,c],[]}=pure [(p,a),(q,b),(r,c)]):qz x qual st [p,q,r]:=λkV doc pm an cdv ct us hl=>by
 match us,hl with
 | [a,b,c],_=>show h kV doc pm an cdv ct a b c
def bn4(h:∀kV doc pm an cdv ct a b c d,bindArgs (fnS x qual st kV doc pm an cdv ct) {[a,b,c,d],[]}=pure [(p,a),(q,b),(r,c),(s,d)]):qz x qual st [p,q,r,s]:=λkV doc pm an cdv ct us hl=>by
 match us,hl with
 | [a,b,c,d],_=>show h kV doc pm an cdv ct a b c d
def bn5(h:∀kV doc pm an cdv ct a b c d e,bindArgs (fnS x qual st kV doc pm an cdv ct) {[a,b,c,d,e],[]}=pure [(p,a),(q,b),(r,c),(s,d),(t,e)]):qz x qual st [p,q,r,s,t]:=λkV doc pm an cdv ct us hl=>by
 match us,hl with
 | [a,b,c,d,e],_=>show h kV doc pm an cdv ct a b c d e
def bn6(h:∀kV doc pm an cdv ct a b c d e f,bindArgs (fnS x qual st kV doc pm an cdv ct) {[a,b,c,d,e,f],[]}=pure [(p,a),(q,b),(r,c),(s,d),(t,e),(u,f)]):qz x qual st [p,q,r,s,t,u]:=λkV doc pm an cdv ct us hl=>by
 match us,hl with
 | [a,b,c,d,e,f],_=>show h kV doc pm an cdv ct a b c d e f
end
end L2
namespace L2
section
variable {X:Cx}
end
end L2
namespace L2
def wg:∀{ns:N3} {its:N1},Vals (ns.map V.int) its->IntsAre its ns
 | [],_,.nil=>.nil
 |n::ns,_,.cons h t=>by obtain ⟨tk,rfl⟩:=h;show .cons _ _ (wg t)
section
variable {X:Cx}
def wQ(K:N5):N7->Hp->VK->Prop:=λxs H Q=>∃(a:Addr)(ns:N3),xs=[.ref a]/\SqL K H a (ns.map V.int)/\ns.length<64/\∀(l:Addr)(ns':N3),H l=none->ns'.Perm ns->ns'.Pairwise (·<=·)->Q (.ref l) (upd H l (.lst (ns'.map V.int)))
def qS:eO X (.builtin "sorted") (wQ X.K):=by
 intro pins s σ H xs us Q I r h;obtain ⟨a,ns,rfl,hq,h64,q⟩:=h;obtain ⟨u,rfl,ru⟩:=io r
 cases ru
 obtain ⟨its,rv,pl,_⟩:=I.list hq;let hl:=rv.length;rw [zq3] at hl;show sorted_ints (vs:=its) pl.isList (wg rv) Oo λout ns' a1 a2 a3=>?_;obtain ⟨e,he⟩:=sortedAll_at s.heap its out;let hk:∀b o,s.heap.get? b=some o->(sortedAll s.heap its out).get? b=some o:=λ_ _=>sortedAll_old;show {.ref (s.heap.objs.size+1),_,I.laid (t':=s.toks) hk (zq _) (show ObjOk X.prog X.w _ (sortedAll s.heap its out) _ (.lst (ns'.map V.int)) from {?_,out.toList,e,jQ a1,?_}),rfl,q _ _ (I.hok.fresh (zq _)) a2 a3}
 ·rw [zq3,a2.length_eq,bB];omega
 ·rw [D6];show he
def qN:∀{bs:List Bool} {its:N1},Vals (bs.map V.bl) its->its=bs.map Value.bool
 | [],_,.nil=>rfl
 |b::bs,_,.cons h t=>by let e:_=Value.bool b:=h;rw [e,qN t];rfl
def yP{bs:List Bool}:(List.range bs.length).any (λi=>bs.getD i true)=bs.any id:=by
 rw [jT,zq89,zq89]
 constructor
 ·rintro ⟨i,hi,h⟩;let hi:=zq43.mp hi;rw [eK,bN hi] at h;show {_,kB hi,h}
 ·rintro ⟨b,hb,h⟩;obtain ⟨i,hi,rfl⟩:=List.mem_iff_getElem.mp hb;show {i,zq43.mpr hi,?_};rw [eK,bN hi];show h
def Jt(K:N5):N7->Hp->VK->Prop:=λxs H Q=>∃(a:Addr)(bs:List Bool),xs=[.ref a]/\SqL K H a (bs.map V.bl)/\Q (.bl (bs.any id)) H
def tG{P:Program}{w:World}{A:Around}{bs:List Bool}:TruthOf P w A (λi v=>(bs.map Value.bool).toArray[i]?=some v) (λi=>bs.getD i true):=by intro i v s Q E hv q;rw [List.getElem?_toArray,bP] at hv;obtain ⟨b,hb,rfl⟩:=zq30.mp hv;replace q:Q (bs.getD i true) s:=q;rw [eK,hb] at q;show wpAny_truthy_bool q
def qQ(hc:X.calm=true):eO X (.builtin "any") (Jt X.K):=by
 intro pins s σ H xs us Q I r h;obtain ⟨a,bs,rfl,hq,q⟩:=h;obtain ⟨u,rfl,ru⟩:=io r
 cases ru
 obtain ⟨its,rv,pl,_⟩:=I.list hq;obtain rfl:=qN rv;obtain ⟨o,ho,ro⟩:=pl.isList;let W:=Walks.list (prog:=X.prog) (w:=X.w) (A:=X.A.in1) (I.ok.hd hc) s.heap.objs.size a (dG (cu ho)) (bs.map Value.bool).toArray;show call_any_walk (wpAny_pyIter_list pl.isList {s.heap.objs.size,_,_,_,_,_,λi=>bs.getD i true,rfl,W,{{_,eg _ rfl,rfl,rfl},pl.isList.push _},tG,λh' tk hk=>?_});let e:(bs.map Value.bool).toArray.size=bs.length:=by simp
 rw [e,yP];show {.bl _,H,I.kept (t':=tk) λb ob hb=>hk b ob (λz=>vh _ (by let this:=cu hb;rw [zq15.mp z] at this;show this)) (cW _ hb),rfl,q}
end
end L2
namespace L2
open AutoSeq1 (wpAny_loadPart')
def x3:mroOf (.type "reversed")=pure [.type "reversed",.type "object"]:=by rw [mroOf_type];kernel_rfl
def ES:typeLookup (.type "reversed") "__new__"=pure (some (.builtin "reversed.__new__")):=by rw [typeLookup_type,builtinLookup_eq_fast];kernel_rfl
def BP:Bind.madeBy (.type "reversed")=pure (some "reversed.__new__"):=madeBy_type x3 ES Ol
def ET:isSubtype (.type "list_reverseiterator") (.type "reversed")=pure false:=by rw [isSubtype_type];kernel_rfl
def BQ:isSubtype (.type "reversed") (.type "reversed")=pure true:=by rw [isSubtype_type];kernel_rfl
def yR:entryFor table "reversed.__new__"=some Builtin.«reversed.__new__»:=entryFor_of_tree Om
def iy(l:Addr)(items:Array Value)(n:Nat)(dct:Option Addr)(sl:Array N6):
  Meets (Builtin.«reversed.__new__» {[.type "reversed",.ref l],[]}) (λ_ R s=>s.heap.get? l=some {cls:=.type "list",dict:=dct,data:=.seq items n,slots:=sl}/\
   R (.ok (.ret (.ref s.heap.objs.size))) {s with heap:=s.heap.push {cls:=.type "list_reverseiterator",data:=.fields #[.ref l,rawInt (((items.size:Nat):Int)-1)]}}):=
 .of_wp λprog w A R s h=>by
  obtain ⟨hp,g,d,tk,os⟩:=s;obtain ⟨hl,h⟩:=h;let hsub:=BQ;let hL:Heap.IsList (Shared.heap ⟨hp,g,d,tk,os⟩) l items:={_,hl,rfl,n,rfl}
  wp_walk using wpAny_loadPart' hl
  show wpAny_of_eq PySem.F.slot_list_reversed.lookup ?_;show zq2 ?_;unfold bindSpecial;show zq2 (wpAny_of_eq PySem.F.type_list_reversed ?_);rw [zq1 On];show zq5 ?_;change wpAny _ _ (if (Value.builtin "list.__reversed__"==Value.none)=true then _ else _) _ _ _;rw [zq0 On];show zq2 (wpAny_rule ?_);show zq2 ?_;change wpAny (model prog w) A.in1 (call (.builtin "list.__reversed__") [.ref l]) _ _ _;show wpAny_call_entry PySem.F.slot_list_reversed hL.typeIs PySem.F.entry_list_reversed ?_ (PySem.F.args_list_reversed_1 _)
  wp_walk using wpAny_loadPart' hl
  show {_,rfl,zq5 {_,rfl,h}}
def IsRev(h:Heap)(it l:Addr)(k:Int):Prop:=∃o,h.get? it=some o/\o.cls=.type "list_reverseiterator"/\o.data=.fields #[.ref l,.int k 0]
section
variable {prog:Program} {w:World} {A:Around} {E:Value->Shared->Prop} {s:Shared}
def ip{l:Addr}{items:Array Value}{Q:Value->Shared->Prop}(hL:s.heap.IsList l items)
  (h:∀h',IsRev h' s.heap.objs.size l (((items.size:Nat):Int)-1)->h'.objs.size=s.heap.objs.size+1->(∀b o,s.heap.get? b=some o->h'.get? b=some o)->Q (.ref s.heap.objs.size) {s with heap:=h'}) :
  wpAny (model prog w) A (call (.type "reversed") [.ref l]) Q E s:=by
 obtain ⟨⟨c,dct,dt,sl⟩,hl,hc,n,hd⟩:=hL;replace hc:c=.type "list":=hc;replace hd:dt=.seq items n:=hd;subst hc hd;let hmro:=x3;let hmade:=BP;let hsub:=ET;show wpAny_call (codeAny_of_tree ?_);change wpAny _ _ (callAny (.type "reversed") _) _ _ _;show zq5 {Code.quiet_builtin _ Ol,D7 F.entry_type_call ?_};rw [Around.under_plain (weight_type_call_type "reversed" [.ref l] []) (units_type_call_type "reversed" [.ref l] [])];let h1:(Value.type "reversed"==Value.type "type")=false:=by decide +kernel
 let h2:((Manifest.find? "reversed").bind (·.mro.findSome? λt=>(Manifest.find? t).bind λb=>if b.noNew then some true else if b.attrs.any (·.1=="__new__") then some false else none)).getD false=false:=by decide +kernel
 let hct:checkTypeCall "reversed" ⟨[.ref l],[]⟩=pure ():=by kernel_rfl
 let hcn:checkBuiltinCall "reversed.__new__" ⟨[.type "reversed",.ref l],[]⟩=pure ():=by kernel_rfl
 repeat (any_goals (first | assumption | wp_step))
 let key:=iy l items n dct sl prog w A.in1 (wants (λv s'=>v=.ref s.heap.objs.size/\s'={s with heap:=s.heap.push {cls:=.type "list_reverseiterator",data:=.fields #[.ref l,rawInt (((items.size:Nat):Int)-1)]}}) E) s ⟨hl,rfl,rfl⟩;show codeAny_mono (codeAny_call_builtin Ol yR (wpAny_of_eq hcn key)) λr s₁ hr=>?_
 cases r with
 |error e=>show hr
 |ok fl=>
  cases fl with
  |ret obj=>
   obtain ⟨rfl,rfl⟩:=hr;let hT:Shared.TypeIs {s with heap:=s.heap.push {cls:=.type "list_reverseiterator",data:=.fields #[.ref l,rawInt (((items.size:Nat):Int)-1)]}} (.ref s.heap.objs.size) "list_reverseiterator":={_,eg _ rfl,rfl}
   repeat (any_goals (first | assumption | wp_step))
   show h _ {_,eg _ rfl,rfl,rfl} (vk ..) (λb o x=>cW _ x)
  |_=>show hr.elim
end
end L2
namespace L2
variable {it l:Addr}
def slot_rev_next:Slot "list_reverseiterator" "__next__" "list_reverseiterator.__next__":=
 .of (owner:="list_reverseiterator") (n:="__next__") (by rw [typeLookup_type,builtinLookup_eq_fast];kernel_rfl) Ol Ol Ol
  (by first | show .inl Ol | show .inr Ol) (by rw [isSubtype_type];kernel_rfl)
def ik:Slot "list_reverseiterator" "__iter__" "list_reverseiterator.__iter__":=
 .of (owner:="list_reverseiterator") (n:="__iter__") (by rw [typeLookup_type,builtinLookup_eq_fast];kernel_rfl) Ol Ol Ol
  (by first | show .inl Ol | show .inr Ol) (by rw [isSubtype_type];kernel_rfl)
def gD:entryFor table "list_reverseiterator.__next__"=some Builtin.«list_reverseiterator.__next__»:=entryFor_of_tree Om
def lN:entryFor table "list_reverseiterator.__iter__"=some Builtin.«dict_keyiterator.__iter__»:=
 entryFor_alias (id':="dict_keyiterator.__iter__") Om (by first | rfl | decide +kernel | (unfold String.splitOn;simp +decide [String.splitOnAux])) Ol Om
def ie(a:Value):argsOk "list_reverseiterator.__next__" {[a],[]}:=by unfold argsOk;kernel_rfl
def mW(a:Value):argsOk "list_reverseiterator.__iter__" {[a],[]}:=by unfold argsOk;kernel_rfl
def IsRev.typeIs{s:Shared}{k:Int}(x:IsRev s.heap it l k):s.TypeIs (.ref it) "list_reverseiterator":=let ⟨o,ho,hc,_⟩:=x;⟨o,ho,hc⟩
section
variable {prog:Program} {w:World} {A:Around} {E:Value->Shared->Prop} {s:Shared}
def mt{k:Int}{Q:Value->Shared->Prop}(hi:IsRev s.heap it l k)(h:Q (.ref it) s):wpAny (model prog w) A (pyIter (.ref it)) Q E s:=by show wpAny_pyIter_slot hi.typeIs ik (wpAny_call_entry ik hi.typeIs lN ?_ (mW _));change wpAny _ _ (ret (.ref it)) _ _ s;show zq5 {_,rfl,"list_reverseiterator",_,hi.typeIs,slot_rev_next.lookup,h}
def ku{i:Nat}{items:Array Value}{x:Value}{Q:N6->Shared->Prop}(hit:IsRev s.heap it l (i:Int))(hl:s.heap.IsList l items)(hx:items[i]?=some x)
 (hQ:∀h',IsRev h' it l ((i:Int)-1)->Heap.SameBut it s.heap h'->Q (some x) {s with heap:=h'}):wpAny (model prog w) A (pyNext (.ref it)) Q E s:=by
 obtain ⟨o,ho,hc,hd⟩:=id hit;obtain ⟨ol,hol,_,nl,hdl⟩:=hl;unfold pyNext;show zq2 (wpAny_attempt (wpAny_callSpecial?_slot (name:=Str.ofString "__next__") hit.typeIs slot_rev_next (wpAny_call_entry slot_rev_next hit.typeIs gD ?_ (ie _))));change wpAny _ _ (field (.ref it) 1 >>= _) _ _ s;show zq2 (wpAny_field ho hd (x:=.int i 0) rfl ?_);change wpAny _ _ (if (i:Int)<0 then _ else _) _ _ s;rw [zq0 Oo];change wpAny _ _ (field (.ref it) 0 >>= _) _ _ s;show zq2 (wpAny_field ho hd (x:=.ref l) rfl ?_);change wpAny _ _ (seqItems? (.ref l) >>= _) _ _ s;show zq2 (wpAny_seqItems hol hdl ?_);simp only [Int.toNat_natCast,hx];show zq2 (wpAny_setField ho hd Oq (zq5 {x,rfl,zq5 (hQ _ ?_ (Heap.SameBut.update ..))}));show {_,D0 _ ho (Obj.isFreed_of_fields (Obj.data_mapFields hd _)),(Obj.cls_mapFields ..).trans hc,by rw [Obj.data_mapFields hd];simp [rawInt]}
def mw{Q:N6->Shared->Prop}(hh:A.handled=none)(hit:IsRev s.heap it l (-1))
 (hQ:∀h',Heap.ExtBut it s.heap h'->Q none {s with heap:=h'}):wpAny (model prog w) A (pyNext (.ref it)) Q E s:=by
 obtain ⟨o,ho,hc,hd⟩:=id hit;unfold pyNext;show zq2 (wpAny_attempt (wpAny_callSpecial?_slot (name:=Str.ofString "__next__") hit.typeIs slot_rev_next (wpAny_call_entry slot_rev_next hit.typeIs gD ?_ (ie _))));change wpAny _ _ (field (.ref it) 1 >>= _) _ _ s;show zq2 (wpAny_field ho hd (x:=.int (-1) 0) rfl ?_);change wpAny _ _ (if (-1:Int)<0 then _ else _) _ _ s;rw [zq1 On];show zq2 (wpAny_rule ?_);show zq2 ?_;change wpAny _ _ (newExc (.type "StopIteration") [] >>= _) _ _ _;show zq2 ?_;simp only [newExc,newTuple];show zq2 (wpAny_newObj_type ?_ (by size_fits));show zq2 (m:=firstArgMember _ _) (wpAny_of_eq (a:=Value.none) (by first | rfl | (simp only [firstArgMember];rfl)) ?_);show wpAny_newObj_type ?_ (by size_fits);simp only [raiseNew];show zq2 (wpAny_handled ?_);rw [show A.in1.handled=none from hh];show zq2 (zq5 (wpAny_throw ?_));show zq2 (wpAny_isInstance (T:="StopIteration") (b:=true) {_,eg _ rfl,rfl} isSubtype_stop ?_);show zq5 (hQ _ (λb o _ e=>cW _ (cW _ e)))
end
end L2
namespace L2
def Itv(K:N5)(a:Addr)(n:Nat):It:=
 {λi H=>∃xs,SqL K H a xs/\xs.length=n/\i<n,λi H x H'=>H'=H/\∀xs,SqL K H a xs->xs.reverse[i]?=some x,λi _=>n<=i}
def Iz{α:Type}{xs:List α}{i:Nat}(h:i<xs.length):xs.reverse[i]?=xs[xs.length-1-i]?:=by rw [G9 h]
def IsRev.keep{h h':Heap}{it l:Addr}{k:Int}(x:IsRev h it l k)(hk:∀o,h.get? it=some o->h'.get? it=some o):IsRev h' it l k:=let ⟨o,ho,r⟩:=x;{o,hk o ho,r}
def CG{P:Program}{w:World}{K:N5}{tg:Expr}(a it:Addr)(n:Nat):mU P w K tg (Itv K a n) [it] it (λi h=>i<=n/\IsRev h it a ((n:Int)-1-(i:Nat))) where
 mem:=by simp
 obj:=λi h st b hb=>by
  let e:b=it:=by simpa using hb
  subst e;obtain ⟨_,o,e,c,d⟩:=st;show {o,e,λv z=>by rw [d] at z;cases z}
 keep:=λi h h' st k=>{st.1,st.2.keep λo e=>k it Oq o e}
 item:=by
  intro X hP hw hK hc i pins s σ H E I hf st hg;subst hP hw hK;obtain ⟨xs,hq,hn,hi⟩:=hg;subst hn;obtain ⟨x,hx⟩:∃x,xs[xs.length-1-i]?=some x:={_,bN Oo}
  obtain ⟨its,rv,p,hz⟩:=I.list hq;obtain ⟨u,hu,ru⟩:=rv.get hx;obtain ⟨f0,f1,f2,f3,f4,f5⟩:=hf it Oq;let st0:IsRev s.heap it a ((xs.length-1-i:Nat):Int):=by let this:=st.2;rw [show ((xs.length:Int)-1-(i:Nat))=((xs.length-1-i:Nat):Int) by omega] at this;show this
  show ku st0 p.isList (x:=u) (by simpa using hu) λh' st' sb=>?_;let I1:Inv X pins σ H {s with heap:=h'}:=I.turned (t':=s.toks) (λb o hb e=>(sb.2 b hb).trans e) f0 f1 f3 f4 f5;obtain ⟨o,e,c,d⟩:=id st';let st2:IsRev h' it a ((xs.length:Int)-1-((i+1:Nat):Int)):=by rw [show ((xs.length:Int)-1-((i+1:Nat):Int))=((xs.length-1-i:Nat):Int)-1 by omega];show st'
  show {u,rfl,rC (s:={s with heap:=h'}) e c d On {x,H,I1,ru,{rfl,λys hy=>by rw [I.list_inj hy hq,Iz hi];show hx},⟨hi,st2⟩,λb hb=>(hf b hb).1}}
 done:=by
  intro X hP hw hK hc i pins s σ H E I hf st hg;subst hP hw hK;obtain ⟨f0,f1,f2,f3,f4,f5⟩:=hf it Oq;let hg':n<=i:=hg;let e:i=n:=Nat.le_antisymm st.1 hg';let st0:IsRev s.heap it a (-1):=by let this:=st.2;rw [show ((n:Int)-1-(i:Nat))=-1 by omega] at this;show this
  show mw (I.ok.hd hc) st0 λh' eb=>{rfl,I.turned (t':=s.toks) (λb o hb e=>eb b o hb e) f0 f1 f3 f4 f5}
 self:=λ_ _ _ _ _ st h=>mt st.2 h
def GE(K:N5)(ta:TA):TI:=λσ H R=>ta σ H λvs H1=>∃a xs,vs=[.ref a]/\SqL K H1 a xs/\R (Itv K a xs.length) H1
def Hv{X:Cx}{tg a:Expr}{ta:TA}{p pos:Pos}(hm:X.mg "reversed"=none) (ha:PA X [a] ta) (hg:Gl X "reversed":=by rfl) (hs:starEach [a] X.env=[(false,eval a X.env)]:=by rfl) :
  PI X tg (.Call (.Name "reversed" p) [a] [] pos) (GE X.K ta):=by
 intro pins s σ H R I h;show Call_ (fD I hg hm boot_reversed (Nt (thn (ha pos pins s σ H _ I h) λus s1 hhx=>?_) hs rfl));obtain ⟨vs,H1,I1,r1,q1⟩:=hhx;obtain ⟨l,xs,e,hq,q⟩:=q1;subst e
 cases r1 with
 |cons r rr=>
  cases rr
  cases r
  obtain ⟨its,rv,pl,hz⟩:=I1.list hq;let hlen:=rv.length;show ip pl.isList λh' hit hsz hk=>?_;show mt hit ?_;let I2:Inv X pins σ H1 {s1 with heap:=h'}:=I1.kept (t':=s1.toks) hk;show {s1.heap.objs.size,[s1.heap.objs.size],_,_,H1,rfl,I2,CG l _ xs.length,{cE _,?_},λb hb=>?_,q}
  ·let e:(((its.toArray.size:Nat):Int)-1)=((xs.length:Int)-1-((0:Nat):Int)):=by simp [hlen]
   rw [e] at hit;show hit
  ·rw [zq15.mp hb];show I1.fpOk (zq4 _) (I1.hok.fresh (zq4 _))
section
variable {g:TG} {tb:TS} {D:dJ} {σ:St} {H:Hp}
def HS{K:N5}{ta:TA}{R:It->Hp->Prop}:GE K ta σ H R=ta σ H λvs H1=>∃a xs,vs=[.ref a]/\SqL K H1 a xs/\R (Itv K a xs.length) H1:=rfl
def Gz{K:N5}{a:Addr}{xs:N7}(Pv:Nat->St->Hp->Prop)(h0:Pv 0 σ H)(hl:∀i σ H,i<=xs.length->Pv i σ H->SqL K H a xs)
  (hs:∀(i:Nat)x σ H,xs.reverse[i]?=some x->Pv i σ H->g x σ H λσ2 H2=>tb {D with nx:=Pv (i+1),ct:=Pv (i+1),bk:=D.nx} σ2 H2) (hd:∀σ H,Pv xs.length σ H->D.nx σ H):kj (Itv K a xs.length) g tb D σ H:=by
 show {λi m σ H=>m=xs.length-i/\i<=xs.length/\Pv i σ H,{xs.length,Oq,cE _,h0},?_};rintro i m σ H ⟨rfl,hi,p⟩;let q:=hl i σ H hi p
 by_cases hlt:i<xs.length
 ·show .inr {⟨xs,q,rfl,hlt⟩,Pv (i+1),λσ' H' p'=>{xs.length-(i+1),Oo,rfl,hlt,p'},λx H' y=>?_};obtain ⟨eH,y⟩:=y;subst eH;show hs i x σ H' (y xs q) p
 ·let e:i=xs.length:=by omega
  subst e;show .inl {zq4 _,hd σ H p}
end
end L2
namespace L2
section
variable {prog:Program} {w:World} {A:Around} {E:Value->Shared->Prop} {s:Shared}
end
end L2
namespace L2
section
variable {X:Cx}
end
end L2
namespace L2
end L2
namespace L2
variable {X:Cx} {a b c e i iter o:Expr} {apos p pos':Pos} {es:N4} {f:Addr} {ps:N0} {qual x:Str} {sp:Sp} {tA:TT} {ta td:TE} {wi:TI}
structure XE(X:Cx)(e:Expr)(t:TE):Prop where
 h:PE X e t
structure XT(X:Cx)(e:Expr)(t:TT):Prop where
 h:PT X e t
structure XW(X:Cx)(e:Expr)(t:TT):Prop where
 h:PW X e t
structure XA(X:Cx)(es:N4)(t:TA):Prop where
 h:PA X es t
structure XS(X:Cx)(st:Stmt)(t:TS):Prop where
 h:PS X st t
structure XSs(X:Cx)(st:List Stmt)(t:TS):Prop where
 h:PSs X st t
structure XG(X:Cx)(target:Expr)(t:TG):Prop where
 h:PG X target t
structure XGs(X:Cx)(ts:N4)(t:TGs):Prop where
 h:PGs X ts t
structure XI(X:Cx)(tg iter:Expr)(wi:TI):Prop where
 h:PI X tg iter wi
structure XO(X:Cx)(e:Option Expr)(t:TO):Prop where
 h:PO X e t
structure XC(X:Cx)(op:CmpOp)(a b:Expr)(t:TE):Prop where
 h:PC X op a b t
structure zD(X:Cx)(ifs:N4)(t:TT):Prop where
 h:zB X ifs t
def ai{i j pos}:XE X (.Constant (.int i) j pos) (tC (.int i)):=⟨Ba⟩
def fh{b j pos}:XE X (.Constant (.bool b) j pos) (tC (.bl b)):=⟨Fq⟩
def gi{j pos}:XE X (.Constant .none j pos) (tC .non):=⟨Bd⟩
def aG{x j pos}:XE X (.Constant (.str x) j pos) (tC (.str x)):=⟨Be⟩
def ax{tb:TE}{pos:Pos}{op:Operator}{r:R2}(ho:OpR X (binaryOp op) r)(ha:XE X a ta)(hb:XE X b tb):XE X (.BinOp a op b pos) (tOp r ta tb):={by intro pins s σ H Q I h;show wpAny_BinOp (Gn ha.h hb.h I h λv u s2 x y H2 I2 rx ry q=>ho pins s2 σ H2 x y v u Q I2 rx ry q)}
def fG{pos:Pos}{op:UnaryOp}{r:V->Hp->VK->Prop}(ho:UnR X (unaryOp op) r)(ha:XE X a ta):XE X (.UnaryOp op a pos) (tUn r ta):={by intro pins s σ H Q I h;show UnaryOp_ (thn (ha.h pins s σ H _ I h) λv s1 ⟨x,H1,I1,r1,q1⟩=>ho pins s1 σ H1 x v Q I1 r1 q1)}
def bu{tb:TE}{pos:Pos}{op:CmpOp}{r:R2}(ho:OpR X (compareOp op) r)(ha:XE X a ta)(hb:XE X b tb)(hm:behindInMarks op b=false):XE X (.Compare a [op] [b] pos) (tOp r ta tb):={by intro pins s σ H Q I h;show wpAny_Compare1 (Gn ha.h hb.h I h λv u s2 x y H2 I2 rx ry q=>ho pins s2 σ H2 x y v u Q I2 rx ry q) hm}
def cx{b:Expr}{tb:TE}{pos:Pos}{fF:N4}(ha:XE X a ta)(hb:XE X (.BoolOp .And (b::fF) pos) tb):XE X (.BoolOp .And (a::b::fF) pos) (FU ta tb):=⟨by
 intro pins s σ H Q I h;show BoolOp_and (thn (ha.h pins s σ H _ I h) λv s1 hhx=>?_);obtain ⟨x,H1,I1,r1,q1⟩:=hhx;obtain ⟨c,rfl,q1⟩:=q1
 cases r1
 show wpAny_truthy_bool ?_
 cases c with
 |true=>show hb.h pins s1 σ H1 Q I1 q1
 |false=>show {.bl false,H1,I1,rfl,q1}⟩
def CO{b:Expr}{tb:TE}{pos:Pos}{fF:N4}(ha:XE X a ta)(hb:XE X (.BoolOp .Or (b::fF) pos) tb):XE X (.BoolOp .Or (a::b::fF) pos) (LR ta tb):=⟨by
 intro pins s σ H Q I h;show BoolOp_or (thn (ha.h pins s σ H _ I h) λv s1 hhx=>?_);obtain ⟨x,H1,I1,r1,q1⟩:=hhx;obtain ⟨c,rfl,q1⟩:=q1
 cases r1
 show wpAny_truthy_bool ?_
 cases c with
 |false=>show hb.h pins s1 σ H1 Q I1 q1
 |true=>show {.bl true,H1,I1,rfl,q1}⟩
def dB{pos:Pos}{op}{t:TE}(h:XE X a t):XE X (.BoolOp op [a] pos) t:={λpins s σ H Q I hw=>BoolOp_one (h.h pins s σ H Q I hw)}
def F7{pos:Pos}(ha:XE X a ta):XE X (.UnaryOp .Not a pos) (G1 ta):=⟨by
 intro pins s σ H Q I h;show UnaryOp_ (thn (ha.h pins s σ H _ I h) λv s1 hhx=>?_);obtain ⟨x,H1,I1,r1,q1⟩:=hhx;obtain ⟨c,rfl,q1⟩:=q1
 cases r1
 show not_of (wpAny_truthy_bool {.bl (! c),H1,I1,rfl,q1})⟩
def f6{tb:TE}{pos:Pos}(hc:XT X c tA)(ha:XE X a ta)(hb:XE X b tb):XE X (.IfExp c a b pos) (tIf tA ta tb):=⟨by
 intro pins s σ H Q I h;show wpAny_IfExp (thn (hc.h pins s σ H _ I h) λd s1 hhx=>?_);obtain ⟨H1,I1,q1⟩:=hhx
 cases d with
 |true=>show ha.h pins s1 σ H1 Q I1 q1
 |false=>show hb.h pins s1 σ H1 Q I1 q1⟩
def aR{t:TA}{pos:Pos}(h:XA X es t):XE X (.List es pos) (LP t):={by intro pins s σ H Q I hq;show wpAny_List_spliced (thn (h.h pos pins s σ H _ I hq) λus s1 ⟨xs,H1,I1,r,z,q⟩=>{by rw [<- r.length];show z,?_});let hf:H1 s1.heap.objs.size=none:=I1.hok.fresh (zq4 _);show {.ref s1.heap.objs.size,upd H1 s1.heap.objs.size (.lst xs),I1.laid (t':=s1.toks) (λb u e=>cW _ e) (zq4 _) ?_,rfl,q _ hf};show {z,us,0,r,eg _ rfl}}
def aK{t:TA}{pos:Pos}{x1}(h:XA X es t):XE X (.Tuple es x1 pos) (LS t):={by intro pins s σ H Q I hq;show wpAny_Tuple_spliced (thn (h.h pos pins s σ H _ I hq) λus s1 ⟨xs,H1,I1,r,z,q⟩=>{by rw [<- r.length];show z,?_});let hf:H1 s1.heap.objs.size=none:=I1.hok.fresh (zq4 _);show {.ref s1.heap.objs.size,upd H1 s1.heap.objs.size (.tup xs),I1.laid (t':=s1.toks) (λb u e=>cW _ e) (zq4 _) ?_,rfl,q _ hf};show {z,us,r,{_,eg _ rfl,rfl,_,rfl}}}
def zl{pos:Pos}:XE X (.Dict [] [] pos) Cw:={λpins s σ H Q I h=>wpAny_Dict_empty {.ref s.heap.objs.size,_,I.laid (a:=s.heap.objs.size) (o:=.dK []) (t':=s.toks) (λ_ _ q=>cW _ q) (zq4 _) (A5 s.heap I.big),rfl,h _ (I.hok.fresh (zq4 _))}}
def az{pos:Pos}{e:Expr}{t:TA}{id:String}{r:N7->Hp->VK->Prop}(hc:eO X (.builtin id) r)(hg:Gl X x)(hm:X.mg x=none)(hv:bootBuiltins x=some (.builtin id))(ha:XA X (e::es) t)(hn:(x==("__name__":Str))=false:=by kernel_rfl) (hdb:(x==("__debug__":Str))=false:=by kernel_rfl) (he:starEach (e::es) X.env=(false,eval e X.env)::starEach es X.env:=by rfl) (hpl:(backTo pos (starEach es X.env)).any (·.1)=false:=by rfl):XE X (.Call (.Name x p) (e::es) [] pos) (tCB r t):={B6 hc hg hm hv ha.h (pT hn) hdb he hpl}
def c6{pos:Pos}{e:Expr}{t:TA}{T:String}{r:N7->Hp->VK->Prop}(hc:eO X (.type T) r)(hg:Gl X x)(hm:X.mg x=none)(hv:bootBuiltins x=some (.type T))(ha:XA X (e::es) t)(hn:(x==("__name__":Str))=false:=by kernel_rfl) (hdb:(x==("__debug__":Str))=false:=by kernel_rfl) (he:starEach (e::es) X.env=(false,eval e X.env)::starEach es X.env:=by rfl) (hpl:(backTo pos (starEach es X.env)).any (·.1)=false:=by rfl):XE X (.Call (.Name x p) (e::es) [] pos) (tCB r t):={yE hc hg hm hv ha.h (pT hn) hdb he hpl}
def av{k:Nat}{fd:FuncData}{st:Stmt}{pos:Pos}{e:Expr}{t:TA}(D:br X.K X.mg x st ps f fd)(G:FnOk X.prog X.w X.K X.mg X.base CX0 k f fd ps sp)(hr:Room k X.A)(ha:XA X (e::es) t)(hg:Gl X x)(hdb:(x==("__debug__":Str))=false:=by kernel_rfl) (he:starEach (e::es) X.env=(false,eval e X.env)::starEach es X.env:=by rfl) (hpl:(backTo pos (starEach es X.env)).any (·.1)=false:=by rfl):XE X (.Call (.Name x p) (e::es) [] pos) (mK sp [] E0 t):={Bl D G hr ha.h hg hdb he hpl}
def bH{e:Expr}{to:TE}{t:TA}{name:Str}{cpos:Pos}{T id:String}{r:V->N7->Hp->VK->Prop}(pa:PlainAttrs T)(slot:Slot T name id)(hty:typeOf (.builtin id)=pure (.type "method_descriptor")) (hm:MtR X id r) (ho:XE X o to) (ha:XA X (e::es) t) (hbase:attributeBase o name X.env (eval o X.env)=eval o X.env:=by rfl) (hfew:((backTo cpos (starEach (e::es) X.env)).all (λx=>! x.1)&&(backToKw cpos (keywordEach [] X.env)).all (λx=>x.1.isSome)
 && decide ((e::es).length+([]:List Keyword).length+(if ([]:List Keyword).isEmpty then 0 else 1)<30))=true:=by rfl) (hline:(apos.endLine==cpos.line)=true:=by rfl) (hs:starEach (e::es) X.env=(false,eval e X.env)::starEach es X.env:=by rfl) (hplain:(backTo cpos (starEach es X.env)).any (·.1)=false:=by rfl):XE X (.Call (.Attribute o name apos) (e::es) [] cpos) (tBM X.K T r to t):={Js pa slot hty hm ho.h ha.h hbase hfew hline hs hplain}
def bD{te:TE}{lo hi:Option Expr}{tl th:TO}{pos p2:Pos}{r:V->Option Int->Option Int->Hp->VK->Prop}(hr:SlR X r)(he:XE X e te)(hl:XO X lo tl)(hu:XO X hi th):XE X (.Subscript e (.Slice lo hi none p2) pos) (tSl r te tl th):={by intro pins s σ H Q I h;show Subscript_ (thn (he.h pins s σ H _ I h) λv s1 hhx=>?_);obtain ⟨x,H1,I1,r1,q1⟩:=hhx;show wpAny_Slice (thn (hl.h pins s1 σ H1 _ I1 q1) λvl s2 ⟨l,H2,I2,pl,q2⟩=>thn (hu.h pins s2 σ H2 _ I2 q2) λvu s3 hhx=>?_);obtain ⟨u,H3,I3,pu,q3⟩:=hhx;rw [evalPart_none];show zq5 ?_;let I4:Inv X pins σ H3 {s3 with heap:=s3.heap.push {cls:=.type "slice",data:=.fields #[vl,vu,.none]}}:=I3.kept (t':=s3.toks) λb ob q=>cW _ q;obtain ⟨T,id,hT,ht,hg⟩:=hr pins {s3 with heap:=s3.heap.push {cls:=.type "slice",data:=.fields #[vl,vu,.none]}} σ H3 x v vl vu l u s3.heap.objs.size Q I4 r1 (Heap.IsSliceOf.new ..) pl pu q3;change wpAny (model X.prog X.w) X.A (subscriptTail e (.Slice lo hi none p2) v (.ref s3.heap.objs.size)) (EP X pins σ Q) X.xe {s3 with heap:=s3.heap.push {cls:=.type "slice",data:=.fields #[vl,vu,.none]}};show tail_any (ops:=[.ref s3.heap.objs.size,v]) ht hT hg (by with_unfolding_all rfl)}
def fR{pos:Pos}{ty:TE}(hu:X.A.units+1<cLine)(ho:XE X o td)(hi:XE X i ty)(hs:Gj i):XE X (.Subscript o i pos) (FV td ty):={by intro pins s σ H Q I h;show xp PySem.F.slot_dict_getitem.lookup hs (thn (ho.h pins s σ H _ I h) λu s1 ⟨x,H1,I1,rx,q1⟩=>thn (hi.h pins s1 σ H1 _ I1 q1) λiv s2 hhx=>?_);obtain ⟨y,H2,I2,ry,a,v,ex,g,q2⟩:=hhx;subst ex;obtain rfl:u=Value.ref a:=rx;show {rf I2 g,y8 hu I2 g ry λw' s3 I3 rw'=>⟨v,H2,I3,rw',q2⟩}}
def aq{tb:TE}{pos:Pos}{r:R2}(hr:IxR X r)(ha:XE X a ta)(hb:XE X b tb)(hs:Dx b:=by intro _ _;rfl):XE X (.Subscript a b pos) (tOp r ta tb):={by intro pins s σ H Q I h;show Subscript_ (Gn ha.h hb.h I h λv u s2 x y H2 I2 rx ry q=>hr a b pins s2 σ H2 x y v u Q I2 rx ry q (hs _ _))}
def aL{f:Str}{pos:Pos}(he:XE X e ta)(hb:attributeBase e f X.env (eval e X.env)=eval e X.env):XE X (.Attribute e f pos) (LO X.K ta f):={by intro pins s σ H Q I h;show DD hb (thn (he.h pins s σ H _ I h) λu s1 hhx=>?_);obtain ⟨x,H1,I1,rx,a,C,dx,fs,v,ex,ea,c,n,l,q⟩:=hhx;subst ex;obtain rfl:u=Value.ref a:=rx;show ur I1 ea c n l λu' s2 I2 ru=>⟨v,H1,I2,ru,q⟩}
def aU{elt tgt:Expr}{ifs:N4}{pos:Pos}{scope:Scope}{g:Bk->TG}{tt:Bk->TT}{te:Bk->TE}{tns cns:N0}{ci:be}(hc:X.calm=true)(S:CompSc X scope cns ci)(hi:XI X tgt iter wi)(hg:∀bk:Bk,XG (X.blk (".0"::(tns++cns)) scope bk) tgt (g bk)) (ht:∀bk:Bk,zD (X.blk (".0"::(tns++cns)) scope bk) ifs (tt bk)) (he:∀bk:Bk,XE (X.blk (".0"::(tns++cns)) scope bk) elt (te bk)) (hs:∀v,foldedSetIterable iter X.env v=pure v:=by intro _;rfl):XE X (.ListComp elt [⟨tgt,iter,ifs,0⟩] scope pos) (mN wi g tt te tns.length ci):={B8 hc S hi.h (λbk=>(hg bk).h) (λbk=>(ht bk).h) (λbk=>(he bk).h) hs}
def dy{v:V}{u:Value}{pos:Pos}(hg:Gl X x)(hm:X.mg x=none)(hv:bootBuiltins x=some u)(r:RelV v u)(hn:(x==("__name__":Str))=false:=by kernel_rfl) (hd:(x==("__debug__":Str))=false:=by kernel_rfl):XE X (.Name x pos) (tC v):={El hg hm hv r (pT hn) hd}
def tP{v:V}{u:Value}{pos:Pos}(hg:Gl X x)(hm:X.mg x=some u)(r:RelV v u)(hd:(x==("__debug__":Str))=false:=by kernel_rfl):XE X (.Name x pos) (tC v):={Em hg hm r hd}
def aA{tb:TE}{pos:Pos}{op:CmpOp}{r:R2}(ho:OpR X (compareOp op) r)(ha:XE X a ta)(hb:XE X b tb)(hm:behindInMarks op b=false):XT X (.Compare a [op] [b] pos) (G4 (tOp r ta tb)):=⟨by
 intro pins s σ H Q I h;show wpAny_isTrue_Compare1 (thn (ha.h pins s σ H _ I h) λv s1 ⟨x,H1,I1,r1,q1⟩=>thn (hb.h pins s1 σ H1 _ I1 q1) λu s2 ⟨y,H2,I2,r2,q2⟩=>thn (ho pins s2 σ H2 x y v u _ I2 r1 r2 q2) λc s3 ⟨z,H3,I3,r3,k,e,q3⟩=>?_) hm
 subst e
 cases r3
 show wpAny_truthy_bool ⟨H3,I3,q3⟩⟩
def aV{t:TE}(h:XE X e t)(he:∀whole,isTrue e X.env whole=(do let v <- whole;standAt e.pos;holding [v] (truthy v)):=by intro _;rfl):XT X e (tB t):=⟨by
 intro pins s σ H Q I hw;show isTrue_plain (thn (h.h pins s σ H _ I hw) λv s1 hhx=>?_) (he _);obtain ⟨x,H1,I1,r1,q1⟩:=hhx;obtain ⟨d,rfl,q⟩:=q1
 cases r1
 show wpAny_truthy_bool ⟨H1,I1,q⟩⟩
def cZ{pos:Pos}(ha:XT X a tA):XT X (.UnaryOp .Not a pos) (LQ tA):={by intro pins s σ H Q I h;show isTrue_not (ha.h pins s σ H (λc H1=>Q (! c) H1) I h)}
def F9{pos:Pos}{op:CmpOp}{t:TE}(h:XC X op a b t)(h1:behindInMarks op b=false:=by first | show AM _ On On | rfl):XT X (.Compare a [op] [b] pos) (tB t):=⟨by
 intro pins s σ H Q I hw;show wpAny_isTrue_Compare1 (thn (h.h pins s σ H _ I hw) λv s1 h1=>thn h1 λu s2 h2=>thn h2 λc s3 hhx=>?_) h1;obtain ⟨x,H1,I1,r1,q1⟩:=hhx;obtain ⟨d,rfl,q⟩:=q1
 cases r1
 show wpAny_truthy_bool ⟨H1,I1,q⟩⟩
def cq{t:TT}(h:XW X e t):XT X e t:={PW.pt h.h}
def i3{b:Expr}{pos:Pos}{tB':TT}{fF:N4}(ha:XT X a tA)(hb:XW X (.BoolOp .And (b::fF) pos) tB'):XW X (.BoolOp .And (a::b::fF) pos) (LN tA tB'):=⟨by
 intro wh pins s σ H Q I h;show isTrue_and (thn (ha.h pins s σ H _ I h) λc s1 hhx=>?_);obtain ⟨H1,I1,q1⟩:=hhx
 cases c with
 |true=>show hb.h wh pins s1 σ H1 Q I1 q1
 |false=>show ⟨H1,I1,q1⟩⟩
def fT{pos:Pos}(ha:XT X a tA):XW X (.BoolOp .And [a] pos) tA:=⟨by
 intro wh pins s σ H Q I h;show isTrue_and (thn (ha.h pins s σ H Q I h) λc s1 e=>?_)
 cases c with
 |true=>show isTrue_and_nil e
 |false=>show e⟩
def cD{b:Expr}{pos:Pos}{tB':TT}{fF:N4}(ha:XT X a tA)(hb:XW X (.BoolOp .Or (b::fF) pos) tB'):XW X (.BoolOp .Or (a::b::fF) pos) (tOr tA tB'):=⟨by
 intro wh pins s σ H Q I h;show isTrue_or (thn (ha.h pins s σ H _ I h) λc s1 hhx=>?_);obtain ⟨H1,I1,q1⟩:=hhx
 cases c with
 |true=>show ⟨H1,I1,q1⟩
 |false=>show hb.h wh pins s1 σ H1 Q I1 q1⟩
def cQ{pos:Pos}(ha:XT X a tA):XW X (.BoolOp .Or [a] pos) tA:=⟨by
 intro wh pins s σ H Q I h;show isTrue_or (thn (ha.h pins s σ H Q I h) λc s1 e=>?_)
 cases c with
 |false=>show isTrue_or_nil e
 |true=>show e⟩
def ac:XA X [] tD:=⟨B5⟩
def aa{e:Expr}{te:TE}{t:TA}(ha:XE X e te)(hr:XA X es t)(hs:starEach (e::es) X.env=(false,eval e X.env)::starEach es X.env:=by rfl):XA X (e::es) (Cu te t):={wJ ha.h hr.h hs}
def cj:XO X none xu:={by intro pins s σ H Q I h;rw [evalPart_none];show zq5 {none,H,I,.none,h}}
def bE{te:TE}(h:XE X e te):XO X (some e) (G3 te):={by intro pins s σ H Q I hw;rw [evalPart_some];show thn (h.h pins s σ H _ I hw) λu s1 hhx=>?_;obtain ⟨x,H1,I1,r1,q1⟩:=hhx;obtain ⟨i,rfl,q⟩:=q1;obtain ⟨t,rfl⟩:=r1;show {some i,H1,I1,.int i t,q}}
def ay{pos:Pos}{i:Nat}(hN:X.N.Nodup)(hi:X.N[i]?=some x)(hx:Loc X.env.scope x)(hf:X.fn x=true\/X.env.scope.names.lookup x=some .local:=by first | show .inl rfl | show .inr rfl | assumption):XG X (.Name x pos) (bI i):={wM hN hi hx hf}
def cy{pos:Pos}{k:Nat}{t:TGs}{n:Nat}(hc:X.calm=true)(h:XGs X es t)(hn:(assignEach es X.env).length=n:=by rfl)(hst:(assignEach es X.env).findIdx? (·.1)=none:=by rfl):XG X (.Tuple es k pos) (Ah X.K n t):=⟨by
 intro pins s σ H v u Q I r hw;obtain ⟨a,xs,e1,hq,hl,hw⟩:=hw;subst e1
 cases r
 obtain ⟨its,rv,ht,hz⟩:=I.tuple hq;show assign_Tuple_tuple (I.ok.hd hc) ht (by simp [hn,<- hl,rv.length]) hst λh' hx=>?_;let I1:Inv X pins σ H {s with heap:=h'}:=I.kept (t':=s.toks) λb o e=>hx b o (dG (cu e)) e;show h.h pins _ σ H xs _ Q I1 (by simpa using rv) hw⟩
def bV:XGs X [] Ag:=⟨by
 intro pins s σ H vs us Q I r h;obtain ⟨e,h⟩:=h;subst e
 cases r
 show assignInOrder_nil ⟨σ,H,I,h⟩⟩
def aQ{e:Expr}{t:TG}{u:TGs}(h1:XG X e t)(h2:XGs X es u)(hs:(assignEach (e::es) X.env).map (·.2)=assign e X.env::(assignEach es X.env).map (·.2):=by rfl):XGs X (e::es) (jZ t u):=⟨by
 intro pins s σ H vs us Q I r h;obtain ⟨v,vr,e1,h⟩:=h;subst e1
 cases r with
 |cons r rr=>rw [hs];show assignInOrder_cons (thn (h1.h pins s σ H _ _ _ I r h) λ_ s1 hhx=>?_);obtain ⟨σ1,H1,I1,q1⟩:=hhx;show h2.h pins s1 σ1 H1 _ _ Q I1 rr q1⟩
def kT{pos:Pos}{to ti:TE}{t:zC}(ho:XE X o to)(hi:XE X i ti)(hs:Gm X t)(ha:∀v,assign (.Subscript o i pos) X.env v=(do
 let ov <- holding [v] (eval o X.env)
 let iv <- holding [v,ov] (eval i X.env)
 standAt pos
 holding [v,ov,iv] (setItem ov iv v)
 release [v,ov,iv] []):=by intro _;rfl):XG X (.Subscript o i pos) (GC to ti t):={Hu ho.h hi.h hs ha}
def bL{tg:Expr}{ta:TA}{pos:Pos}(hg:Gl X "range") (hm:X.mg "range"=none) (ha:XA X [a] ta) (hs:starEach [a] X.env=[(false,eval a X.env)]:=by rfl):XI X tg (.Call (.Name "range" p) [a] [] pos) (Fl ta):=⟨by
 intro pins s σ H R I h;show Call_ (fD I hg hm boot_range (Nt (thn (ha.h pos pins s σ H _ I h) λus s1 hhx=>?_) hs rfl));obtain ⟨vs,H1,I1,r1,q1⟩:=hhx;obtain ⟨j,e,q1,q2,q⟩:=q1;subst e
 cases r1 with
 |cons r rr=>
  cases rr
  obtain ⟨t,rfl⟩:=r;show call_range_1 (sy I1 Oo Oo q1 q2 (by simpa using q))⟩
def vg{tg:Expr}{ta:TA}{pos:Pos}(hg:Gl X "range") (hm:X.mg "range"=none) (ha:XA X [a,b] ta) (hs:starEach [a,b] X.env=[(false,eval a X.env),(false,eval b X.env)]:=by rfl) (hs2:starEach [b] X.env=[(false,eval b X.env)]:=by rfl):XI X tg (.Call (.Name "range" p) [a,b] [] pos) (Am ta):={yH hg hm ha.h hs hs2}
def CQ{ta:TA}{pos pos0:Pos}{elts:N4}{k0:Nat}(hm:X.mg "enumerate"=none) (ha:XA X [a] ta) (hg:Gl X "enumerate":=by rfl) (hs:starEach [a] X.env=[(false,eval a X.env)]:=by rfl):XI X (.Tuple elts k0 pos0) (.Call (.Name "enumerate" p) [a] [] pos) (Al X.K ta):={Eo hm ha.h hg hs}
def aX{tg:Expr}{l:Expr}{tl:TE}(hl:XE X l tl):XI X tg l (Fk X.K tl):=⟨by
 intro pins s σ H R I h;show thn (hl.h pins s σ H _ I h) λv s1 hhx=>?_;obtain ⟨x,H1,I1,r1,q1⟩:=hhx;obtain ⟨a,e,⟨xs,hq⟩,q⟩:=q1;subst e
 cases r1
 obtain ⟨its,rv,p,hz⟩:=I1.list hq;show wpAny_pyIter_list p.isList ?_;show {s1.heap.objs.size,[s1.heap.objs.size],_,_,H1,rfl,I1.kept (t':=s1.toks) λb o e=>cW _ e,zf a _,{_,eg _ rfl,rfl,rfl},λb hb=>?_,q};let e:b=s1.heap.objs.size:=by simpa using hb
 subst e;show I1.fpOk (zq4 _) (I1.hok.fresh (zq4 _))⟩
def qi{tg:Expr}{l:Expr}{tl:TE}(hl:XE X l tl):XI X tg l (J9 X.K tl):=⟨by
 intro pins s σ H R I h;show thn (hl.h pins s σ H _ I h) λv s1 hhx=>?_;obtain ⟨x,H1,I1,r1,q1⟩:=hhx;obtain ⟨a,e,⟨xs,hq⟩,q⟩:=q1;subst e
 cases r1
 obtain ⟨its,rv,p,hz⟩:=I1.tuple hq;show wpAny_pyIter_tuple (show s1.heap.IsTuple a its.toArray from p) ?_;show {s1.heap.objs.size,[s1.heap.objs.size],_,_,H1,rfl,I1.kept (t':=s1.toks) λb o e=>cW _ e,uZ a _,{_,eg _ rfl,rfl,rfl},λb hb=>?_,q};let e:b=s1.heap.objs.size:=by simpa using hb
 subst e;show I1.fpOk (zq4 _) (I1.hok.fresh (zq4 _))⟩
def aw{pos:Pos}{i:Nat}{te:TE}(hN:X.N.Nodup)(hi:X.N[i]?=some x)(hx:Loc X.env.scope x)(he:XE X e te)(hs:swapsWith e (some (.Name x pos')) pos.line X.env=pure false:=by rfl)(hf:X.fn x=true\/X.env.scope.names.lookup x=some .local:=by first | show .inl rfl | show .inr rfl | assumption):XS X (.Assign [.Name x pos'] e pos) (F1 te (bI i)):={Hy hN hi hx he.h hs hf}
def cK{i:Nat}{px:Pos}{elt tgt:Expr}{ifs:N4}{pos:Pos}{scope:Scope}{g:Bk->TG}{tt:Bk->TT}{te:Bk->TE}{tns cns:N0}{ci:be}(hN:X.N.Nodup)(hx:X.N[i]?=some x)(hl:Loc X.env.scope x)(hf:X.fn x=true)(hsw:swapsWith (.ListComp elt [⟨tgt,iter,ifs,0⟩] scope pos) (some (.Name x px)) pos'.line X.env=pure true)(hc:X.calm=true)(S:CompSc X scope cns ci)(hi:XI X tgt iter wi)(hg:∀bk:Bk,XG (X.blk (".0"::(tns++cns)) scope bk) tgt (g bk)) (ht:∀bk:Bk,zD (X.blk (".0"::(tns++cns)) scope bk) ifs (tt bk)) (he:∀bk:Bk,XE (X.blk (".0"::(tns++cns)) scope bk) elt (te bk)) (hs:∀v,foldedSetIterable iter X.env v=pure v:=by intro _;rfl):XS X (.Assign [.Name x px] (.ListComp elt [⟨tgt,iter,ifs,0⟩] scope pos) pos') (mF i wi g tt te tns.length ci):={uM hN hx hl hf hsw hc S hi.h (λbk=>(hg bk).h) (λbk=>(ht bk).h) (λbk=>(he bk).h) hs}
def kU{pos:Pos}{tg:Expr}{te:TE}{g:TG}(he:XE X e te)(hg:XG X tg g)(hs:swapsWithSole [tg] e pos.line X.env=pure false:=by rfl)(hw:swappedStores [tg] e X.env=pure none:=by rfl)(h1:(assignEach [tg] X.env).map (·.2)=[assign tg X.env]:=by rfl):XS X (.Assign [tg] e pos) (F1 te g):={by intro pins s σ H D I h;show wpAny_Assign_stores (thn (he.h pins s σ H _ I h) λv s1 hhx=>?_) hs hw;obtain ⟨x,H1,I1,r1,q1⟩:=hhx;rw [h1];show thn (hg.h pins s1 σ H1 x v _ I1 r1 q1) λ_ s2 q=>q}
def cP{value:Expr}{f:Str}{pos:Pos}{tv:TE}(ha:XE X o ta)(hv:XE X value tv)(hs:swapsWith value (some (.Attribute o f pos')) pos.line X.env=pure false):XS X (.Assign [.Attribute o f pos'] value pos) (Ke X.K ta tv f):={by intro pins s σ H D I h;show plainObj_wpAny_Assign_Attribute (thn (hv.h pins s σ H _ I h) λu s1 ⟨y,H1,I1,ry,q⟩=>thn (ha.h pins s1 σ H1 _ I1 q) λov s2 hhx=>?_) hs;obtain ⟨x,H2,I2,rx,a,C,dx,fs,ex,ea,c,n,l,q2⟩:=hhx;subst ex;obtain rfl:ov=Value.ref a:=rx;show uT I2 ea c n l ry λs3 I3=>{σ,_,I3,q2}}
def CT{value:Expr}{pos:Pos}{ty tv:TE}(hu:X.A.units+1<cLine)(ho:XE X o td)(hi:XE X i ty)(hv:XE X value tv)(hs:swapsWith value (some (.Subscript o i pos')) pos.line X.env=pure false):XS X (.Assign [.Subscript o i pos'] value pos) (BV td ty tv):={Er hu ho.h hi.h hv.h hs}
def ao{te:TE}{pos:Pos}(he:XE X e te):XS X (.Return (some e) pos) (CA te):={by intro pins s σ H D I h;show wpAny_Return_some (thn (he.h pins s σ H _ I h) λv s1 ⟨x,H1,I1,r1,q1⟩=>⟨x,σ,H1,I1,r1,q1⟩)}
def aT{te:TE}{pos:Pos}(he:XE X e te)(hs:swapsWith e none pos.line X.env=pure false:=by rfl):XS X (.Expr e pos) (FY te):={by intro pins s σ H D I h;show wpAny_Expr_any (thn (he.h pins s σ H _ I h) λv s1 ⟨x,H1,I1,r1,q1⟩=>⟨σ,H1,I1,q1⟩) I.quiet hs}
def aM{t u:TS}{pos:Pos}{a b:List Stmt}{tc:TT}(hc:XT X c tc)(ha:XSs X a t)(hb:XSs X b u):XS X (.If c a b pos) (IE tc t u):=⟨by
 intro pins s σ H D I h;show wpAny_If (thn (hc.h pins s σ H _ I h) λd s1 hhx=>?_);obtain ⟨H1,I1,q1⟩:=hhx
 cases d with
 |true=>show ha.h pins s1 σ H1 D I1 q1
 |false=>show hb.h pins s1 σ H1 D I1 q1⟩
def oN{pos:Pos}{body:List Stmt}{tc:TT}{tb:TS}(hp:PassesOwn (model X.prog X.w) X.A X.env X.xe)(hc:XT X c tc)(hb:XSs X body tb):XS X (.While c body [] pos) (IH tc tb):=⟨by
 intro pins s σ H D I h;obtain ⟨W,⟨m0,w0⟩,turn⟩:=h;show wpAny_While (codeAny_whileLoop (λn s'=>∃σ' H',Inv X pins σ' H' s'/\W n σ' H') ?_ m0 ⟨σ,H,I,w0⟩);rintro n s1 ⟨σ1,H1,I1,w1⟩;show wpAny_passesOwn hp (thn (hc.h pins s1 σ1 H1 _ I1 (turn n σ1 H1 w1)) λb s2 hhx=>?_);obtain ⟨H2,I2,q2⟩:=hhx
 cases b with
 |true=>
  obtain ⟨N,hN,q2⟩:=q2;rw [zq1 rfl];show wpAny_passesOwn hp (thn (hb.h pins s2 σ1 H2 _ I2 q2) λf s3 q3=>?_)
  cases f with
  |next=>
   obtain ⟨σ3,H3,I3,n3⟩:=q3;obtain ⟨m',hm,w3⟩:=hN σ3 H3 n3;show ⟨m',hm,σ3,H3,I3,w3⟩
  |cont=>
   obtain ⟨σ3,H3,I3,n3⟩:=q3;obtain ⟨m',hm,w3⟩:=hN σ3 H3 n3;show ⟨m',hm,σ3,H3,I3,w3⟩
  |brk=>show q3
  |ret v=>show q3
 |false=>rw [zq0 zq6];show wpAny_execs_nil ⟨σ1,H2,I2,q2⟩⟩
def bv{tg:Expr}{body:List Stmt}{g:TG}{tb:TS}{pos:Pos}(hp:PassesOwn (model X.prog X.w) X.A X.env X.xe)(hc:X.calm=true)(hi:XI X tg iter wi)(hg:XG X tg g)(hb:XSs X body tb)(hs:∀x,foldedSetIterable iter X.env x=pure x:=by intro _;rfl):XS X (.For tg iter body [] pos) (ID wi g tb):={Hx hp hc hi.h hg.h hb.h hs}
def aF:XSs X [] G0:={λ_ _ σ H _ I h=>wpAny_execs_nil ⟨σ,H,I,h⟩}
def aj{st:Stmt}{t:TS}(h1:XS X st t):XSs X [st] t:=⟨by
 intro pins s σ H D I h;show wpAny_execs_cons (thn (h1.h pins s σ H D I h) λf s1 q=>?_)
 cases f with
 |next=>show wpAny_execs_nil q
 |ret v=>show q
 |brk=>show q
 |cont=>show q⟩
def af{st:Stmt}{fF:List Stmt}{t u:TS}(h1:XS X st t)(h2:XSs X fF u):XSs X (st::fF) (CB t u):=⟨by
 intro pins s σ H D I h;show wpAny_execs_cons (thn (h1.h pins s σ H {D with nx:=u D} I h) λf s1 q=>?_)
 cases f with
 |next=>
  obtain ⟨σ',H',I',q⟩:=q;show h2.h pins s1 σ' H' D I' q
 |ret v=>show q
 |brk=>show q
 |cont=>show q⟩
def da{st:Stmt}{ss:List Stmt}{ta tb:TS}(h1:XS X st ta)(h2:XSs X ss tb):XSs X (st::ss) (IF ta tb):=⟨by
 intro pins s σ H D I h;obtain ⟨Mid,a,b⟩:=h;show wpAny_execs_cons (thn (h1.h pins s σ H {D with nx:=Mid} I a) λf s1 q=>?_)
 cases f with
 |next=>
  obtain ⟨σ',H',I',q⟩:=q;show h2.h pins s1 σ' H' D I' (b σ' H' q)
 |ret v=>show q
 |brk=>show q
 |cont=>show q⟩
def bf:zD X [] ff:={λpins s σ H Q I h=>wpAny_tests_nil ⟨H,I,h⟩}
def kS{t:TT}(h:XT X c t):zD X [c] t:={λpins s σ H Q I q=>wpAny_tests_one (h.h pins s σ H Q I q)}
def v8{ty:TE}(hu:X.A.units+1<cLine)(hi:XE X i ty)(ho:XE X o td):XC X .NotIn i o (xr ty td):={by intro pins s σ H Q I h;show thn (hi.h pins s σ H _ I h) λiv s1 ⟨y,H1,I1,ry,q1⟩=>thn (ho.h pins s1 σ H1 _ I1 q1) λu s2 hhx=>?_;obtain ⟨x,H2,I2,rx,a,ov,ex,g,q2⟩:=hhx;subst ex;obtain rfl:u=Value.ref a:=rx;show DJ hu I2 g ry λs3 I3=>{.bl (! ov.isSome),H2,I3,rfl,q2}}
def LW{CX:CXT}{k:Nat}{C:Addr}{fd:FuncData}{dvs:N7}{ds:N1}{E:XK}{m:Str}{pos:Pos}{e:Expr}{t:TA}{pl:Sem Bool}(he:XE X o ta)(c:Cls X.K C)(hm:xU X.K C m f)(F:FnOk X.prog X.w X.K X.mg X.base CX k f fd ps sp)(hr:Room k X.A)(hb:Binds X.K fd ps ds)(hd:Vals dvs ds)(hx:fV CX X E)(ha:XA X (e::es) t)(hst:starEach (e::es) X.env=(false,eval e X.env)::starEach es X.env:=by rfl)(hpl:(backTo pos (starEach es X.env)).any (·.1)=false:=by rfl)(ht:eval (.Call (.Attribute o m apos) (e::es) [] pos) X.env=(do
 let ov <- eval o X.env
 standAt apos.atName
 let (f,first) <- holding [ov] (getMethod ov m pl)
 callWith pos f first (backTo pos (starEach (e::es) X.env)) (backToKw pos (keywordEach [] X.env))):=by rfl):XE X (.Call (.Attribute o m apos) (e::es) [] pos) (jk C m sp dvs E ta t):={wL he.h c hm F hr hb hd hx ha.h hst hpl ht}
def jR{k:Nat}{C:Addr}{fd:FuncData}{st:Stmt}{pos:Pos}{e:Expr}{t:TA}(c:KlsAt X.K X.mg x C)(D:bh X.K C "__init__" qual st ps f fd) (G:FnOk X.prog X.w X.K X.mg X.base CX0 k f fd ps sp) (hr:Room (k+1) X.A) (ha:XA X (e::es) t) (hg:Gl X x) (hdb:(x==("__debug__":Str))=false:=by kernel_rfl) (he:starEach (e::es) X.env=(false,eval e X.env)::starEach es X.env:=by rfl) (hpl:(backTo pos (starEach es X.env)).any (·.1)=false:=by rfl):XE X (.Call (.Name x p) (e::es) [] pos) (mO C sp [] E0 t):={Bn c D G hr ha.h hg hdb he hpl}
def mQ{k:Nat}{C:Addr}{fd:FuncData}{st:Stmt}{pos:Pos}(c:KlsAt X.K X.mg x C)(D:bh X.K C "__init__" qual st ps f fd) (G:FnOk X.prog X.w X.K X.mg X.base CX0 k f fd ps sp) (hr:Room (k+1) X.A) (hg:Gl X x) (hdb:(x==("__debug__":Str))=false:=by kernel_rfl):XE X (.Call (.Name x p) [] [] pos) (mO C sp [] E0 tD):={Bb (c.make D) G hr hg c.M D.B .nil oy hdb}
def am{k:Nat}{C:Addr}{fd:FuncData}{m:Str}{st:Stmt}{pos:Pos}{e:Expr}{t:TA}{pl:Sem Bool}(c:Cls X.K C)(D:bh X.K C m qual st ps f fd)(G:FnOk X.prog X.w X.K X.mg X.base CX0 k f fd ps sp)(hr:Room k X.A)(he:XE X o ta)(ha:XA X (e::es) t)(hst:starEach (e::es) X.env=(false,eval e X.env)::starEach es X.env:=by rfl)(hpl:(backTo pos (starEach es X.env)).any (·.1)=false:=by rfl)(ht:eval (.Call (.Attribute o m apos) (e::es) [] pos) X.env=(do
 let ov <- eval o X.env
 standAt apos.atName
 let (f,first) <- holding [ov] (getMethod ov m pl)
 callWith pos f first (backTo pos (starEach (e::es) X.env)) (backToKw pos (keywordEach [] X.env))):=by rfl):XE X (.Call (.Attribute o m apos) (e::es) [] pos) (jk C m sp [] E0 ta t):={Bo c D G hr he.h ha.h hst hpl ht}
def gk{k:Nat}{C:Addr}{fd:FuncData}{m:Str}{st:Stmt}{pos:Pos}{pl:Sem Bool}(c:Cls X.K C)(D:bh X.K C m qual st ps f fd)(G:FnOk X.prog X.w X.K X.mg X.base CX0 k f fd ps sp)(hr:Room k X.A)(he:XE X o ta)(ht:eval (.Call (.Attribute o m apos) [] [] pos) X.env=(do
 let ov <- eval o X.env
 standAt apos.atName
 let (f,first) <- holding [ov] (getMethod ov m pl)
 callWith pos f first (backTo pos (starEach [] X.env)) (backToKw pos (keywordEach [] X.env))):=by rfl):XE X (.Call (.Attribute o m apos) [] [] pos) (jk C m sp [] E0 ta tD):={yL c D G hr he.h ht}
def eZ{vs:N7}(h:kJ es=some vs):XA X es (tVs vs):={si h}
end L2
namespace L2
def F8  {X:Cx} {tg a:Expr} {ta:TA} {p pos:Pos} (hm:X.mg "reversed"=none) (ha:XA X [a] ta) (hg:Gl X "reversed":=by rfl) (hs:starEach [a] X.env=[(false,eval a X.env)]:=by rfl):XI X tg (.Call (.Name "reversed" p) [a] [] pos) (GE X.K ta):={Hv hm ha.h hg hs}
end L2
namespace L2
section
variable {X:Cx}
def DH(x:V)(xs:N7):Nat:=xs.countP λy=>eqV y x
def Bq(K:N5):V->N7->Hp->VK->Prop:=λx vs H Q=>∃l xs y,x=.ref l/\vs=[y]/\SqL K H l xs/\cf y=true/\xs.all cf=true/\Q (.int (DH y xs)) H
def og{x:V}:∀{xs:N7} {us:N1},Vals xs us->xs.all cf=true->us.countP (eqU x)=xs.countP λy=>eqV y x
 |_,_,.nil,_=>rfl
 |x'::xs,_,.cons h t,f=>by rw [vn,eN] at f;rw [List.countP_cons,List.countP_cons,og t f.2,um h f.1]
def AD:MtM X "list.count" (Bq X.K):=by
 intro pins s σ H x vs v us Q I rx rv h;obtain ⟨l,xs,y,rfl,rfl,hq,fy,fx,q⟩:=h
 cases rx
 obtain ⟨u,rfl,ru⟩:=rv.one;obtain ⟨its,r,pl,_⟩:=I.list hq;obtain ⟨o,n,e,c,hd,hdt⟩:=id pl;obtain ⟨oc,od,odt,osl⟩:=o;simp only at c hd hdt;subst c hd hdt;show call_meets F.slot_list_count {_,e,rfl} F.entry_list_count (F.args_list_count_2 _ _) (SeqAt.list_countAt l its.toArray n none osl u (eqU y)) {e,λz hz=>fJ ru fy r fx z (by simpa using hz),?_};rw [show its.toArray.toList=its from rfl,og r fx];show {.int _,H,I.tok _,{_,rfl},q}
def yk{acc:Array Value}{n:Nat}(h:ItemsOf (λi v=>∃t,v=Value.int (0+(i:Int) * 1) t) acc n):Vals ((List.range n).map λi:Nat=>V.int i) acc.toList:=by
 obtain ⟨h1,h2⟩:=h;subst h1;rw [<- Du];let g:∀(l:N1)(k:Nat),(∀(i:Nat)v,l[i]?=some v->∃t,v=Value.int ((k+i:Nat):Int) t)->Vals ((List.range' k l.length).map λi:Nat=>V.int i) l:=by
  intro l
  induction l with
  |nil=>intro k _;show .nil
  |cons a l ih=>
   intro k hl;show .cons ?_ (ih (k+1) λi v hv=>?_)
   ·obtain ⟨t,e⟩:=hl 0 a rfl;show ⟨t,e⟩
   ·obtain ⟨t,e⟩:=hl (i+1) v hv;show {t,by rw [e];congr 1;omega}
 let z:=g acc.toList 0 λi v hv=>by obtain ⟨t,e⟩:=h2 i v (by rw [<- hv,xI]);show {t,by rw [e];congr 1;omega}
 rw [List.range_eq_range'];show z
end
def GI(pr:Params):Key->Int
 | .inl k=>hashInt k
 | .inr x=>if x.cps.isEmpty=true then 0 else reduceHash (pr.strHash x.cps)
def qA(K:N5)(pr:Params)(a:Addr)(kvs:List (Key×V)):Prop:=∃(es:List DictEntry)(ep:Nat),K.lookup a=some {.type "dict",none,.dict es.toArray ep,#[]}/\(a==sysModules)=false/\(kvs.map (·.1)).Nodup/\Paired (λ(kv:Key×V) (e:DictEntry)=>k8 kv.1 e.key=true/\e.hash=GI pr kv.1/\RelV kv.2 e.val) kvs es
def jY{P:Program}{w:World}:∀{kvs:List (Key×V)} {es:List DictEntry},Paired (λ(kv:Key×V) (e:DictEntry)=>k8 kv.1 e.key=true/\e.hash=GI w.params kv.1/\RelV kv.2 e.val) kvs es->
  ∃vs:List (Key×Value),KV kvs vs/\Pairs (bG P w) es vs/\∀e∈es,∃k,(bG P w).is k e.key=true/\e.hash=(bG P w).hash k
 |_,_,.nil=>{[],.nil,.nil,Oq}
 |kv::kvs,e::es,.cons h t=>by
  obtain ⟨vs,r,p,q⟩:=jY (P:=P) t;obtain ⟨h1,h2,h3⟩:=h;show {(kv.1,e.val)::vs,.cons ⟨rfl,h3⟩ r,.cons h1 rfl p,λe' he=>?_};rcases zq9.mp he with z | z
  ·subst z;show {kv.1,h1,h2.trans ?_};obtain ⟨k,v⟩:=kv
   cases k<;>rfl
  ·show q e' z
def rb{X:Cx}{pins:List (Addr×Obj)}{σ:St}{H:Hp}{s:Shared}{a:Addr}{kvs:List (Key×V)}{pr:Params}(hw:pr=X.w.params)(I:Inv X pins σ H s)(D:qA X.K pr a kvs):(a==sysModules)=false/\∃vs,KV kvs vs/\s.heap.DictOf (bG X.prog X.w) a vs:=by subst hw;obtain ⟨es,ep,hk,hd,nd,pr⟩:=D;obtain ⟨vs,r,p,q⟩:=jY (P:=X.prog) pr;show {hd,vs,r,_,es.toArray,ep,I.kIn a _ hk,⟨rfl,rfl,rfl⟩,rfl,λe he=>q e (by simpa using he),p,?_};rw [<- r.keys];show nd
def uW(kvs:List (Key×V))(ty:TE):TE:=λσ H Q=>ty σ H λy H1=>∃k,y=kV k/\Q ((cn kvs k).getD .non) H1
section
variable {X:Cx} {e:Expr} {x:Str} {p apos cpos:Pos} {ty:TE} {a:Addr} {kvs:List (Key×V)} {pr:Params}
def Bm(hw:pr=X.w.params)(D:qA X.K pr a kvs)(hm:X.mg x=some (.ref a))(hg:Gl X x)(he:PE X e ty)(m:M1 X (.Name x p) "get" apos e cpos) (hdb:(x==("__debug__":Str))=false:=by kernel_rfl) :
  PE X (.Call (.Attribute (.Name x p) "get" apos) [e] [] cpos) (uW kvs ty):=by
 intro pins s σ H Q I h;show wpAny_Call_method m.base m.few m.line PySem.F.plainAttrs_dict PySem.F.slot_dict_get PySem.F.type_dict_get (iZ I hg hm ?_ hdb);obtain ⟨hd,vs,rel,dd⟩:=rb hw I D;show {dd.typeIs,λb q=>?_,?_}
 ·cases q
  obtain ⟨ob,_,_,h1,h2,_⟩:=dd;show ⟨ob,h1,h2.2.1⟩
 rw [m.trees];show Calls.callWith_builtin rfl (Calls.evalArgs_plain (Calls.spliced_cons (thn (he pins s σ H _ I h) λiv s2 ⟨y,H2,I2,ry,k,ek,q2⟩=>Calls.spliced_nil ?_)));subst ek;obtain ⟨hd,vs,rel,dd⟩:=rb hw I2 D;show call_meetsIn PySem.F.slot_dict_get dd.typeIs PySem.F.entry_dict_get (PySem.F.args_dict_get_2 _ _) (meets_dict_get (bG X.prog X.w) a (rK ry) hd) {_,dd.mapOf,{_,H2,I2.tok _,(rel.val k).getD (show RelV .non .none from rfl),q2}}
def zp(hw:pr=X.w.params)(D:qA X.K pr a kvs)(hm:X.mg x=some (.ref a))(hg:Gl X x)(he:XE X e ty)(m:M1 X (.Name x p) "get" apos e cpos) (hdb:(x==("__debug__":Str))=false:=by kernel_rfl) :
  XE X (.Call (.Attribute (.Name x p) "get" apos) [e] [] cpos) (uW kvs ty):={Bm hw D hm hg he.h m hdb}
def EL{kvs:List (Key×V)}{ty:TE}{σ:St}{H:Hp}{Q:VK}:uW kvs ty σ H Q=ty σ H λy H1=>∃k,y=kV k/\Q ((cn kvs k).getD .non) H1:=rfl
end
end L2
namespace L2
section
variable {prog:Program} {w:World} {A:Around} {E:Value->Shared->Prop} {s:Shared}
open AutoSeq1 (wpAny_loadPart') in
end
section
variable {K:N5} {a:Addr} {xs:N7}
end
section
variable {K:N5} {a b:Addr} {H:Hp} {Q:VK}
def BJ:wQ K [.ref a] H Q=∃ns:N3,SqL K H a (ns.map V.int)/\ns.length<64/\∀(l:Addr)(ns':N3),H l=none->ns'.Perm ns->ns'.Pairwise (·<=·)->Q (.ref l) (upd H l (.lst (ns'.map V.int))):=propext {by rintro ⟨_,ns,e,q⟩;cases e;show ⟨ns,q⟩,by rintro ⟨ns,q⟩;show ⟨a,ns,rfl,q⟩}
def JD:Jt K [.ref a] H Q=∃bs:List Bool,SqL K H a (bs.map V.bl)/\Q (.bl (bs.any id)) H:=propext {by rintro ⟨_,ns,e,q⟩;cases e;show ⟨ns,q⟩,by rintro ⟨ns,q⟩;show ⟨a,ns,rfl,q⟩}
def Ex{y:V}:Bq K (.ref a) [y] H Q=∃xs,SqL K H a xs/\cf y=true/\xs.all cf=true/\Q (.int (DH y xs)) H:=propext {by rintro ⟨_,xs,_,e1,e2,q⟩;cases e1;cases e2;show ⟨xs,q⟩,by rintro ⟨xs,q⟩;show ⟨a,xs,y,rfl,rfl,q⟩}
end
end L2
namespace L2
def Cx.blkZ(X:Cx)(z0:Str)(N':N0)(scope:Scope)(b:Bk):Cx:=
 {prog:=X.prog,w:=X.w,K:=X.K,mg:=X.mg,base:=X.base,A:=X.A,N:=N',s₀:=b.s₂,H₀:=b.H₂,env:=compEnvC scope ((z0,b.C+1)::f7 X.env.cells scope.names []) b.C X.env,outer:=X.stack,stack:=X.stack,ex:=b.fp,fn:=λx=>x==z0,calm:=X.calm,pn:=[],xe:=λ_ _=>False}
def Gp{X:Cx}{z0:Str}{N':N0}{scope:Scope}{b:Bk}:(X.blkZ z0 N' scope b).K=X.K:=rfl
structure CompScZ(X:Cx)(z0:Str)(scope:Scope)(cns:N0)(ci:be):Prop where
 kind:scope.kind=.function
 names:∀y∈scope.names,y.2=.local->scope.names.lookup y.1=some .local
 free:∀y∈scope.names,y.2=.free->X.env.kindOf y.1=some .cell\/X.env.kindOf y.1=some .free
 cap:∀(j:Nat)x,cns[j]?=some x->∃i,ci[j]?=some i/\X.N[i]?=some x/\(x,NameKind.free)∈scope.names
 len:cns.length=ci.length
 noloc:∀y,(y,NameKind.free)∈scope.names->¬(relabel scope X.env).names.lookup y=some .local
 nofree:(z0,NameKind.free)∉scope.names
 seen:∀y,(relabel scope X.env).names.lookup y=some .cell\/(relabel scope X.env).names.lookup y=some .free->y=z0\/(y,NameKind.free)∈scope.names
 cells:∀n acc,cellsFrom n scope.names acc=(z0,n)::acc
 push:∀h,pushCells h scope.names=h.push {cls:=.type "cell",data:=.cell none}
section
variable {M:Model} {A:Around} {E:Value->Shared->Prop} {s:Shared}
def kr{scope:Scope}{globals:Addr}{closure:List (Str×Addr)}{qual:Str}{outer:Env}{z0:Str}{Q:Env->Shared->Prop}
  (hc:∀n acc,cellsFrom n scope.names acc=(z0,n)::acc) (hp:∀h,pushCells h scope.names=h.push {cls:=.type "cell",data:=.cell none})
  (hQ:Q {scope:=scope,locals:=s.heap.objs.size,globals:=globals,cells:=(z0,s.heap.objs.size+1)::closure,qual:=qual,func:=none,code:=outer.code,frame:=outer.frame,builtins:=outer.builtins}
   {s with heap:=(s.heap.push {cls:=.type "dict",data:=.dict #[]}).push {cls:=.type "cell",data:=.cell none}}) :
  wpAny M A (newFunctionEnv scope globals closure [] qual none .none (some outer)) Q E s:=by
 simp only [newFunctionEnv,Option.isSome_some,if_true];show zq2 (wpAny_alloc ?_);show zq2 (wpAny_layCells _ (λname kind cells=>by cases hkc:kind==NameKind.cell<;>simp [hkc]) _ _ _ _ ?_);rw [hc,hp,show ({s with heap:=s.heap.push {cls:=.type "dict",data:=.dict #[]}}:Shared).heap.objs.size=s.heap.objs.size+1 from vk ..];show zq2 ?_;rw [List.forIn_nil];show zq5 (zq5 hQ)
end
def CompScZ.y{X:Cx}{z0:Str}{scope:Scope}{cns:N0}{ci:be}(S:CompScZ X z0 scope cns ci):oQ X (some z0) scope cns ci:=
 ⟨S.kind,S.free,S.cap,S.len,S.noloc,λy e=>(by cases e;show S.nofree),λy hk=>(S.seen y hk).imp (λe=>by rw [e]) id,
  λ{M A E s cl Q} h=>kr S.cells S.push (h _ ((Heap.Ns.new s.heap (.type "dict")).keeps λb o e=>cW _ e) (λb o e=>cW _ (cW _ e)) λ_=>by show {{cls:=.type "cell",data:=.cell none},?_,rfl};let this:=eg (s.heap.push {cls:=.type "dict",data:=.dict #[]}) (o:={cls:=.type "cell",data:=.cell none}) rfl;rwa [vk] at this)⟩
def B9{X:Cx}{elt iter tgt:Expr}{ifs:N4}{pos:Pos}{scope:Scope}{z0:Str}{wi:TI}{g:Bk->TG}{tt:Bk->TT}{te:Bk->TE}{tns cns:N0}{ci:be}(hc:X.calm=true)(S:CompScZ X z0 scope cns ci)(hi:PI X tgt iter wi)
  (hg:∀bk:Bk,PG (X.blkZ z0 (".0"::(tns++cns)) scope bk) tgt (g bk))
  (ht:∀bk:Bk,zB (X.blkZ z0 (".0"::(tns++cns)) scope bk) ifs (tt bk))
  (he:∀bk:Bk,PE (X.blkZ z0 (".0"::(tns++cns)) scope bk) elt (te bk))
  (hs:∀v,foldedSetIterable iter X.env v=pure v:=by intro _;rfl) :
  PE X (.ListComp elt [⟨tgt,iter,ifs,0⟩] scope pos) (mN wi g tt te tns.length ci):=by
 intro pins s σ H Q I h;let hfc:∀y∈scope.names,y.2=.free->∃c,X.env.cells.lookup y.1=some c:=λy hy hk=>I.ok.has _ (S.free y hy hk);rw [eval_ListComp];show wpAny_comprehension_free (use:=none) rfl hs (fz hfc) S.kind S.names (thn (hi pins s σ H _ I h) λv s1 h1=>thn h1 λitv s2 h2=>?_);obtain ⟨it,fp,tn,J,H2,rfl,I2,T,st2,f2,hcw⟩:=h2;show jr (RR:=λacc C=>compPost (model X.prog X.w) X.A X.xe none (EP X pins σ Q) acc C) hc S.y hg ht he I2 T st2 f2 hcw λD C s5 H4 m I5 hm fo q=>?_;show {m,hm,λh' hs'=>{.ref D,H4,?_,rfl,q}};show I5.turned (t':=s5.toks) (it:=C) (λb o hb e=>(hs'.2 b hb).trans e) fo.1 fo.2.1 fo.2.2.2.1 fo.2.2.2.2.1 fo.2.2.2.2.2
def J0(osc:Scope)(N:N0)(z0:Str)(scope:Scope)(cns:N0)(ci:be):Bool:=
 scope.kind==.function&&scope.names.all (λy=>y.2 != .local || scope.names.lookup y.1==some .local) &&
 scope.names.all (λy=>y.2 != .free || (osc.names.lookup y.1==some .cell || osc.names.lookup y.1==some .free))&&lj N scope.names cns ci &&
 scope.names.all (λy=>y.2 != .free || (yQ scope osc).lookup y.1 != some .local)&&scope.names.all (λy=>y.2 != .free || y.1 != z0)&&scope.names.all (λy=>y.2 != .cell || y.1==z0)
def CompScZ.of{X:Cx}{z0:Str}{scope:Scope}{cns:N0}{ci:be}(h:J0 X.env.scope X.N z0 scope cns ci=true)
  (hc:∀n acc,cellsFrom n scope.names acc=(z0,n)::acc) (hp:∀h,pushCells h scope.names=h.push {cls:=.type "cell",data:=.cell none}):CompScZ X z0 scope cns ci:=by
 unfold J0 at h;rw [eN,eN,eN,eN,eN,eN] at h;obtain ⟨⟨⟨⟨⟨⟨h1,h3⟩,h4⟩,h5⟩,h6⟩,h7⟩,h8⟩:=h;obtain ⟨l,r⟩:=jq h5;show {by simpa using h1,λy hy hk=>?_,λy hy hk=>?_,r,l,λy hy z=>?_,λhm=>?_,λy hy=>?_,hc,hp}
 ·let this:=zq49.mp h3 y hy;rw [nH] at this;rcases this with q | q
  ·show absurd hk (by simpa using q)
  ·simpa using q
 ·let this:=zq49.mp h4 y hy;rw [nH,nH] at this;rcases this with q | q | q
  ·show absurd hk (by simpa using q)
  ·show .inl (show X.env.scope.names.lookup y.1=_ by simpa using q)
  ·show .inr (show X.env.scope.names.lookup y.1=_ by simpa using q)
 ·let this:=zq49.mp h6 _ hy;rw [nH] at this;rcases this with q | q
  ·simp at q
  ·let z':(yQ scope X.env.scope).lookup y=some .local:=z;let q':((yQ scope X.env.scope).lookup y != some .local)=true:=q;rw [z'] at q';show absurd q' On
 ·let this:=zq49.mp h7 _ hm;simp at this
 ·let key:(y,NameKind.cell)∈scope.names\/(y,NameKind.free)∈scope.names:=by
   rcases hy with z | z
   ·show eX (env:=X.env) z (.inl rfl)
   ·show eX (env:=X.env) z (.inr rfl)
  rcases key with z | z
  ·let this:=zq49.mp h8 _ z
   left;simpa using this
  ·show .inr z
def zj{X:Cx}{elt iter tgt:Expr}{ifs:N4}{pos:Pos}{scope:Scope}{z0:Str}{wi:TI}{g:Bk->TG}{tt:Bk->TT}{te:Bk->TE}{tns cns:N0}{ci:be}(hc:X.calm=true)(S:CompScZ X z0 scope cns ci)(hi:XI X tgt iter wi)
  (hg:∀bk:Bk,XG (X.blkZ z0 (".0"::(tns++cns)) scope bk) tgt (g bk))
  (ht:∀bk:Bk,zD (X.blkZ z0 (".0"::(tns++cns)) scope bk) ifs (tt bk))
  (he:∀bk:Bk,XE (X.blkZ z0 (".0"::(tns++cns)) scope bk) elt (te bk))
  (hs:∀v,foldedSetIterable iter X.env v=pure v:=by intro _;rfl) :
  XE X (.ListComp elt [⟨tgt,iter,ifs,0⟩] scope pos) (mN wi g tt te tns.length ci):={B9 hc S hi.h (λbk=>(hg bk).h) (λbk=>(ht bk).h) (λbk=>(he bk).h) hs}
end L2
namespace L2
variable {a0 a1 a10 a11 a2 a3 a4 a5 a6 a7 a8 a9:N8} {i:Int} {r:St} {x:V}
def F0:Nat->St->N8
 |0,o::_=>o
 |n+1,_::r=>F0 n r
 |_,[]=>none
def sY:∀{n:Nat} {σ:St} {v:V},F0 n σ=some v->σ[n]?=some (some v)
 |0,o::_,v,h=>by rw [show F0 0 (o::_)=o from rfl] at h;rw [h];rfl
 |n+1,_::r,v,h=>by rw [G8];show sY h
 |0,[],_,h=>by cases h
 |_+1,[],_,h=>by cases h
def fk(i:Nat):TE:=λσ H Q=>match F0 i σ with
 |some v=>Q v H
 |none=>False
def Fb{i:Nat}{σ:St}{H:Hp}{Q:VK}(h:fk i σ H Q):IG i σ H Q:=by
 unfold fk at h
 split at h
 ·next v e=>show {v,sY e,h}
 ·show h.elim
def yqv{X:Cx}(i:Nat){x:Str}{pos:Pos}(hv:Vis X.env.scope x)(hN:X.N[i]?=some x:=by rfl)(hd:(x==("__debug__":Str))=false:=by kernel_rfl) (hcd:(x==("__classdict__":Str))=false:=by kernel_rfl):XE X (.Name x pos) (fk i):=
 {λpins s σ H Q I h=>qv i hv hN hd hcd pins s σ H Q I (Fb h)}
def yI0(g:Int->Int->V):R2:=λx y H Q=>match x,y with
 | .int i,.int j=>Q (g i j) H
 |_,_=>False
def yI(C:Int->Int->Prop)(g:Int->Int->V):R2:=λx y H Q=>match x,y with
 | .int i,.int j=>C i j/\Q (g i j) H
 |_,_=>False
def yU(g:Int->V):V->Hp->VK->Prop:=λx H Q=>match x with
 | .int i=>Q (g i) H
 |_=>False
def iC{g:Int->Int->V}{y:V}{H:Hp}{Q:VK}(h:yI0 g x y H Q):rI0 g x y H Q:=by
 unfold yI0 at h
 split at h
 ·show {_,_,rfl,rfl,h}
 ·show h.elim
def oP{C:Int->Int->Prop}{g:Int->Int->V}{y:V}{H:Hp}{Q:VK}(h:yI C g x y H Q):rI C g x y H Q:=by
 unfold yI at h
 split at h
 ·show {_,_,rfl,rfl,h}
 ·show h.elim
def LX{g:Int->V}{H:Hp}{Q:VK}(h:yU g x H Q):rU g x H Q:=by
 unfold yU at h
 split at h
 ·show {_,rfl,h}
 ·show h.elim
section
variable {X:Cx}
def OpR.le{f:Value->Value->Sem Value}{r r':R2}(h:OpR X f r)(le:∀{x y:V} {H:Hp} {Q:VK},r' x y H Q->r x y H Q):OpR X f r':=λpins s σ H x y v u Q I rx ry q=>h pins s σ H x y v u Q I rx ry (le q)
def NB:=@OpR.le
def bM:OpR X (binaryOp .Add) (yI0 λi j=>.int (i+j)):=NB Hk iC
def dD:OpR X (binaryOp .Sub) (yI0 λi j=>.int (i-j)):=NB Hs iC
def dC:OpR X (binaryOp .Mult) (yI CMul λi j=>.int (i * j)):=NB Hn oP
def aZ:OpR X (binaryOp .Mod) (yI (λ_ j=>0<j) λi j=>.int (i % j)):=NB Hm oP
def xB:OpR X (binaryOp .Pow) (yI zy λi j=>.int (i ^ j.toNat)):=NB Ho oP
def ql:OpR X (binaryOp .LShift) (yI zy λi j=>.int (i * 2 ^ j.toNat)):=NB Hq oP
def Fd:OpR X (binaryOp .RShift) (yI (λ_ j=>0<=j) λi j=>.int (i / 2 ^ j.toNat)):=NB Hr oP
def Fc:OpR X (binaryOp .BitAnd) (yI0 λi j=>.int (Builtin.bitAnd i j)):=NB Hl iC
def jS:OpR X (compareOp .Lt) (yI0 λi j=>.bl (decide (i<j))):=NB Jq iC
def IQ:OpR X (compareOp .LtE) (yI0 λi j=>.bl (decide (i<=j))):=NB Jp iC
def qj:OpR X (compareOp .Gt) (yI0 λi j=>.bl (decide (j<i))):=NB Jo iC
def IO:OpR X (compareOp .GtE) (yI0 λi j=>.bl (decide (j<=i))):=NB Jn iC
def bo:OpR X (binaryOp .FloorDiv) (yI CDivB λi j=>.int (i / j)):=NB B3 oP
def eE:UnR X (unaryOp .USub) (yU λi=>.int (-i)):=λpins s σ H x v Q I rx q=>IJ pins s σ H x v Q I rx (LX q)
end
section
variable {H:Hp} {Q:VK}
def MQ{v:V}:fk 0 (some v::r) H Q=Q v H:=rfl
def MR{v:V}:fk 1 (a0::some v::r) H Q=Q v H:=rfl
def MS{v:V}:fk 2 (a0::a1::some v::r) H Q=Q v H:=rfl
def MT{v:V}:fk 3 (a0::a1::a2::some v::r) H Q=Q v H:=rfl
def MU{v:V}:fk 4 (a0::a1::a2::a3::some v::r) H Q=Q v H:=rfl
def MV{v:V}:fk 5 (a0::a1::a2::a3::a4::some v::r) H Q=Q v H:=rfl
def MW{v:V}:fk 6 (a0::a1::a2::a3::a4::a5::some v::r) H Q=Q v H:=rfl
def MX{v:V}:fk 7 (a0::a1::a2::a3::a4::a5::a6::some v::r) H Q=Q v H:=rfl
def MY{v:V}:fk 8 (a0::a1::a2::a3::a4::a5::a6::a7::some v::r) H Q=Q v H:=rfl
def MZ{v:V}:fk 9 (a0::a1::a2::a3::a4::a5::a6::a7::a8::some v::r) H Q=Q v H:=rfl
def LY{v:V}:fk 10 (a0::a1::a2::a3::a4::a5::a6::a7::a8::a9::some v::r) H Q=Q v H:=rfl
def LZ{v:V}:fk 11 (a0::a1::a2::a3::a4::a5::a6::a7::a8::a9::a10::some v::r) H Q=Q v H:=rfl
def M0{v:V}:fk 12 (a0::a1::a2::a3::a4::a5::a6::a7::a8::a9::a10::a11::some v::r) H Q=Q v H:=rfl
def M2{v:V}{a12:N8}:fk 13 (a0::a1::a2::a3::a4::a5::a6::a7::a8::a9::a10::a11::a12::some v::r) H Q=Q v H:=rfl
def M3{v:V}{a12:N8}{a13:N8}:fk 14 (a0::a1::a2::a3::a4::a5::a6::a7::a8::a9::a10::a11::a12::a13::some v::r) H Q=Q v H:=rfl
def MP{g:Int->Int->V}{j:Int}:yI0 g (.int i) (.int j) H Q=Q (g i j) H:=rfl
def y_I{C:Int->Int->Prop}{g:Int->Int->V}{j:Int}:yI C g (.int i) (.int j) H Q=(C i j/\Q (g i j) H):=rfl
def y_U{g:Int->V}:yU g (.int i) H Q=Q (g i) H:=rfl
end
end L2
end
set_option maxHeartbeats 4000000
namespace FA
open PySem L2 PyProof.Rows
def CDivB.pow{i:Int}{n:Nat}(h:n<9000):CDivB i (1 * 2 ^ n):=by rw [Int.one_mul];show {Int.pow_pos On,?_};rw [Int.natAbs_pow];change (2 ^ n).log2<9000;rw [Nat.log2_two_pow];show h
def ltr(z:Int):Nat:=97+(z % 26).toNat
def M8(m pl k:Int)(j:Nat):Int:=m / 36+j * j+(if decide ((j:Int)=pl)=true then 1 else 0) * k
def nm(m pl k:Int):Nat->Str
 |0=>""
 |j+1=>nm m pl k j++{#[ltr (M8 m pl k j)]}
def nms(m:Int)(n:Nat):N0:=(List.range n).map λ(k:Nat)=>nm m (m / 6 % (1+m % 6)) k (1+m % 6).toNat
def Jg:∀n:Nat,n<26->atI ("abcdefghijklmnopqrstuvwxyz":Str).cps.toList (n:Int)=some (97+n):=by decide +kernel
def GN(z:Int):atI ("abcdefghijklmnopqrstuvwxyz":Str).cps.toList (z % 26)=some (ltr z):=by let h0:0<=z % 26:=i8 _ On;let h1:z % 26<26:=nJ _ On;unfold ltr;obtain ⟨n,hn⟩:=vo h0;rw [hn];show Jg n Oo
end FA
namespace L2
open PySem PyProof.Rows
variable {H H':Hp}
def kl{A:Around}{k n:Nat}(h:n<=64)(hr:Room k A):A.units+n<cLine:=tR (xG h _) hr.units
def tE{α β:Type}{f:Nat->α->β}{xs:List α}{i:Nat}{x:α}(h:xs[i]?=some x):(xs.take (i+1)).mapIdx f=(xs.take i).mapIdx f++[f i x]:=by obtain ⟨hl,e⟩:=zq7.mp h;rw [dH hl,e,List.mapIdx_append,dz,qm (xD hl)];simp
def kK{xs:N7}{k:Int}(h:0<=k):dY xs none (some k)=xs.take k.toNat:=by
 obtain ⟨n,rfl⟩:=vo h;unfold dY;rw [HT.gK,HT.kP,xJ,eh,zr]
 by_cases hn:n<=xs.length
 ·rw [qm hn]
 ·rw [tS Oo,eA,kC Oo]
def y0{xs:N7}{k:Int}(h:0<=k):dY xs (some k) none=xs.drop k.toNat:=by
 obtain ⟨n,rfl⟩:=vo h;unfold dY;rw [HT.gK,HT.kP,eh]
 by_cases hn:n<=xs.length
 ·rw [qm hn,kC Oq]
 ·rw [tS Oo,xK (zq4 _),xK Oo];simp
def qY{xs:N7}{k l:Int}(h:0<=k)(h2:0<=l):dY xs (some k) (some l)=(xs.take l.toNat).drop k.toNat:=by
 obtain ⟨n,rfl⟩:=vo h;obtain ⟨m,rfl⟩:=vo h2;unfold dY;rw [HT.kP,HT.kP,eh,eh]
 by_cases hn:n<=xs.length
 ·rw [qm hn]
  by_cases hm:m<=xs.length
  ·rw [qm hm,List.drop_take]
  ·rw [tS Oo,kC Oq,kC Oo]
 ·rw [tS (show xs.length<=n by omega),xK (zq4 _),xK (by rw [dz];omega)];simp
section
variable {K:N5} {te:TE} {ci:be} {σ:St} {acc:Addr} {Q:Hp->Prop} {H1:Hp} {a:Addr} {xs:N7}
def fW{α:Type}(xs:List α):xs.filter (λ_=>true)=xs:=by simp
def DE(f:V->V)(hz:xs.length<=sizeLine)(hl:SqL K H1 a xs)(hacc:H1 acc=none)(hf:∀x∈xs,∀H Q',Same H1 H->Q' (f x) H->te (aI [some x] ci σ) H Q')
  (q:Q (upd H1 acc (.lst (xs.map f)))):c5 (Itl K a) (bI 1) ff te 1 ci σ acc Q (upd H1 acc (.lst [])):=
 zU (λ_=>true) f hz hl hacc (λ_ _ _ _ _ h=>h) (λx hm H Q' s _ h=>hf x hm H Q' s h) (by rw [fW];show q)
def vK{n:Nat}(f:Nat->V)(hz:n<=sizeLine)(hacc:H1 acc=none)(hf:∀i:Nat,i<n->∀H Q',Same H1 H->Q' (f i) H->te (aI [some (.int (i:Int))] ci σ) H Q')
 (q:Q (upd H1 acc (.lst ((List.range n).map f)))):c5 (Itr 0 n) (bI 1) ff te 1 ci σ acc Q (upd H1 acc (.lst [])):=by
 show zV (λ_=>true) (λi=>f i.toNat) hz hacc (λ_ _ _ _ _ h=>h) (λi hi H Q' s _ h=>?_) ?_
 ·rw [xH] at h ⊢;rw [eh] at h;show hf i hi H Q' s h
 ·rw [fW];let e:(λi:Nat=>f (0+(i:Int)).toNat)=f:=by funext i;rw [xH,eh]
  rw [e];show q
end
structure TSame(H H':Hp):Prop where
 tup:∀b xs,H b=some (.tup xs)->H' b=some (.tup xs)
 frz:∀b o u,H b=some (.frz o u)->H' b=some (.frz o u)
def Same.ts(s:Same H H'):TSame H H':={λb xs e=>s b _ e,λb o u e=>s b _ e}
def TSame.trans{H1 H2:Hp}(a:TSame H H1)(b:TSame H1 H2):TSame H H2:={λc xs e=>b.tup c xs (a.tup c xs e),λc o u e=>b.frz c o u (a.frz c o u e)}
def TSame.updL{p:Addr}{ys:N7}{o:HO}(h:H p=some (.lst ys)):TSame H (upd H p o):=
 {λb xs e=>by rw [ak (aO e h (by intro z;cases z))];show e,λb o u e=>by rw [ak (aO e h (by intro z;cases z))];show e}
def Nv:=@TSame.updL
def TSame.seqT{K:N5}{a:Addr}{xs:N7}(e:TSame H H')(h:SqT K H a xs):SqT K H' a xs:=by
 rcases h with (h | ⟨o,h⟩) | h
 ·show .inl (.inl (e.tup _ _ h))
 ·show .inl (.inr {o,e.frz _ _ _ h})
 ·show .inr h
def DeedV(K:N5)(H:Hp)(x:V)(d:Na):Prop:=d.fine/\∃q,x=.ref q/\SqT K H q d.vs
def DeedV.ts{K:N5}{x:V}{d:Na}(s:TSame H H')(h:DeedV K H x d):DeedV K H' x d:={h.1,let ⟨q,e,z⟩:=h.2;{q,e,s.seqT z}}
abbrev DeedsV (K:N5) (H:Hp):N7->N9->Prop:=Paired (DeedV K H)
def DeedsV.ts{K:N5}{xs:N7}{ds:N9}(s:TSame H H')(h:DeedsV K H xs ds):DeedsV K H' xs ds:=h.mono λ_ _ z=>z.ts s
end L2
namespace FA
open PySem L2
end FA
namespace FL
open PySem L2 PyProof.Rows
def BN(n:Nat):N3:=(List.range n).map λi:Nat=>(i:Int)
def vt(b:N3):Prop:=b≠[]/\b.Pairwise (·<=·)
instance (b:N3):Decidable (vt b):=by unfold vt;infer_instance
structure Dw(n:Nat)(bss:List N3):Prop where
 good:∀b∈bss,vt b
 perm:bss.flatten.Perm (BN n)
instance (n:Nat) (bss:List N3):Decidable (Dw n bss):=decidable_of_iff ((∀b∈bss,vt b)/\bss.flatten.Perm (BN n)) {λ⟨a,b⟩=>⟨a,b⟩,λh=>⟨h.good,h.perm⟩}
def Paired.mono{α β:Type}{F G:α->β->Prop}(hi:∀a b,F a b->G a b):∀{l₁:List α} {l₂:List β},Paired F l₁ l₂->Paired G l₁ l₂
 |_,_,.nil=>.nil
 |_,_,.cons h t=>.cons (hi _ _ h) (Paired.mono hi t)
def ND:=@Paired.mono
def vV{i j:Int}:eqV (.int i) (.int j)=decide (i=j):=by first | rfl | (unfold eqV;simp)
def pL{n k:Nat}(h:k<n):ixN n (k:Int)=some k:=by unfold ixN;rw [zq1 Oo,zq1 Oo,eh]
end FL
namespace FL
open PySem L2 PyProof.Rows
def Paired.mem{α β:Type}{F:α->β->Prop}:∀{l₁:List α} {l₂:List β},Paired F l₁ l₂->∀a∈l₁,∃b∈l₂,F a b
 |_,_,.nil=>by intro a h;cases h
 |_,_,.cons h t=>by
  intro a hm;rcases zq9.mp hm with e | e
  ·subst e;show {_,cS ..,h}
  ·obtain ⟨b,hb,hf⟩:=Paired.mem t a e;show {b,zq8 _ hb,hf}
def Paired.imp{α β:Type}{F G:α->β->Prop}:∀{l₁:List α} {l₂:List β},Paired F l₁ l₂->(∀a∈l₁,∀b∈l₂,F a b->G a b)->Paired G l₁ l₂
 |_,_,.nil,_=>.nil
 |_,_,.cons h t,hi=>.cons (hi _ (cS ..) _ (cS ..) h) (Paired.imp t λa ha b hb=>hi a (zq8 _ ha) b (zq8 _ hb))
def Paired.snoc{α β:Type}{F:α->β->Prop}{a:α}{b:β}(hf:F a b):∀{l₁:List α} {l₂:List β},Paired F l₁ l₂->Paired F (l₁++[a]) (l₂++[b])
 |_,_,.nil=>.cons hf .nil
 |_,_,.cons h t=>.cons h (Paired.snoc hf t)
def Nz:=@Paired.snoc
def Paired.put{α β:Type}{F:α->β->Prop}{a:α}{b:β}(hf:F a b):∀{l₁:List α} {l₂:List β} (i:Nat),Paired F l₁ l₂->Paired F (l₁.set i a) (l₂.set i b)
 |_,_,_,.nil=>.nil
 |_,_,0,.cons h t=>.cons hf t
 |_,_,i+1,.cons h t=>.cons h (Paired.put hf i t)
def Paired.of_get{α β:Type}{F:α->β->Prop}:∀{l₁:List α} {l₂:List β},l₁.length=l₂.length->(∀(i:Nat)a b,l₁[i]?=some a->l₂[i]?=some b->F a b)->Paired F l₁ l₂
 | [],[],_,_=>.nil
 | [],_::_,h,_=>by simp at h
 |_::_,[],h,_=>by simp at h
 |a::l₁,b::l₂,h,f=>.cons (f 0 a b rfl rfl) (Paired.of_get (by simpa using h) λi x y hx hy=>f (i+1) x y hx hy)
section
variable {K:N5} {te:TE} {ci:be} {σ:L2.St} {acc:Addr} {Q:Hp->Prop} {H1:Hp}
end
section
variable {K:N5} {H:Hp}
end
end FL
namespace L2
open PySem PySem.Spec PyProof.Rows
section
variable {K:N5} {tt:TT} {te:TE} {ci:be} {σ:St} {acc:Addr} {Q:Hp->Prop} {H1:Hp} {a:Addr} {xs:N7}
def qW(p:V->Bool)(f:V->V)(hz:xs.length<=sizeLine)(hl:SqL K H1 a xs)(hacc:H1 acc=none)
  (hp:∀x∈xs,∀H Q',Same H1 H->(∀H',Same H H'->Q' (p x) H')->tt (aI [some x] ci σ) H Q') (hf:∀x∈xs,∀H Q',Same H1 H->p x=true->(∀H',Same H H'->Q' (f x) H')->te (aI [some x] ci σ) H Q')
  (q:∀H,Same H1 H->H acc=some (.lst ((xs.filter p).map f))->Q H):c5 (Itl K a) (bI 1) tt te 1 ci σ acc Q (upd H1 acc (.lst [])):=by
 show cL (λi ys H=>ys=((xs.take i).filter p).map f/\Same H1 H/\H acc=some (.lst ys)) {Oq,Ng hacc,ae} (λi ys H _ h=>h.2.1.seq hl) ?_ ?_
 ·rintro i x ys H os hi ho ⟨rfl,sm,ha⟩;let hm:=bR hi;let e:(aI os ci σ).set 1 (some x)=aI [some x] ci σ:=by
   match os,ho with
   | [o],_=>rfl
  change (∃os',os'.length=1/\(aI os ci σ).set 1 (some x)=aI os' ci σ)/\tt ((aI os ci σ).set 1 (some x)) H _;rw [e];show {{[some x],rfl,rfl},hp x hm _ _ sm λH2 s2=>?_}
  cases hb:p x with
  |true=>
   rw [zq1 rfl];show hf x hm _ _ (sm.trans s2) hb λH3 s3=>{s3 _ _ (s2 _ _ ha),rq hi hz,?_,((sm.trans s2).trans s3).updM hacc,ae}
   rw [dA hi,zq1 hb]
  |false=>rw [zq0 zq6];show {?_,sm.trans s2,s2 _ _ ha};rw [dA hi,zq0 (by rw [hb];show zq6),iD]
 ·rintro ys H ⟨rfl,sm,ha⟩;rw [eA] at ha;show q H sm ha
def ft(p:Nat->Bool)(f:Nat->V)(i:Nat):((List.range (i+1)).filter p).map f=((List.range i).filter p).map f++(if p i=true then [f i] else []):=by
 rw [zt,D4,dN];congr 1
 cases hb:p i<;>simp [hb]
def lu{n:Nat}(p:Nat->Bool)(f:Nat->V)(hz:n<=sizeLine)(hacc:H1 acc=none)
  (hp:∀i:Nat,i<n->∀H Q',Same H1 H->(∀H',Same H H'->Q' (p i) H')->tt (aI [some (.int (i:Int))] ci σ) H Q') (hf:∀i:Nat,i<n->∀H Q',Same H1 H->p i=true->(∀H',Same H H'->Q' (f i) H')->te (aI [some (.int (i:Int))] ci σ) H Q')
  (q:∀H,Same H1 H->H acc=some (.lst (((List.range n).filter p).map f))->Q H):c5 (Itr 0 n) (bI 1) tt te 1 ci σ acc Q (upd H1 acc (.lst [])):=by
 show iL (λi ys H=>ys=((List.range i).filter p).map f/\Same H1 H/\H acc=some (.lst ys)) {Oq,Ng hacc,ae} ?_ ?_
 ·rintro i ys H os hi ho ⟨rfl,sm,ha⟩;rw [show (0:Int)+(i:Int)=(i:Int) by omega];let e:(aI os ci σ).set 1 (some (.int (i:Int)))=aI [some (.int (i:Int))] ci σ:=by
   match os,ho with
   | [o],_=>rfl
  change (∃os',os'.length=1/\(aI os ci σ).set 1 (some (.int (i:Int)))=aI os' ci σ)/\tt ((aI os ci σ).set 1 (some (.int (i:Int)))) H _;rw [e];show {{[some (.int (i:Int))],rfl,rfl},hp i hi _ _ sm λH2 s2=>?_};let hl:(((List.range i).filter p).map f).length<sizeLine:=by rw [zq3];let this:=D5 p (List.range i);rw [fi] at this;omega
  cases hb:p i with
  |true=>
   rw [zq1 rfl];show hf i hi _ _ (sm.trans s2) hb λH3 s3=>{s3 _ _ (s2 _ _ ha),hl,?_,((sm.trans s2).trans s3).updM hacc,ae}
   rw [ft,zq1 hb]
  |false=>rw [zq0 zq6];show {?_,sm.trans s2,s2 _ _ ha};rw [ft,zq0 (by rw [hb];show zq6),iD]
 ·rintro ys H ⟨rfl,sm,ha⟩;show q H sm ha
end
end L2
namespace FD
open PySem L2 PyProof.Rows
def j6(c k:Int):Int:=
 if 10 ^ Int.toNat 40<=c then (c-10 ^ Int.toNat 40) / (1 * 2 ^ (31 * (k % 60)).toNat) % (1 * 2 ^ Int.toNat 31)
 else (c * 1103515245+7919 * k * k+k) % 2147483647 * ((c * 1103515245+7919 * k * k+k) % 2147483647) % 2147483629 * 69621 % 2147483587
def rW(c k:Int):0<=j6 c k:=by
 unfold j6
 split
 ·show i8 _ On
 ·show i8 _ On
def atF(ns:N3)(k:Int):Int:=if k<ns.length then ns.getD k.toNat 0 else 0
def qE{ns:N3}{k:Int}(h:∀z∈ns,Builtin.Int.intBits z<=2 ^ 20):Builtin.Int.intBits (atF ns k)<=2 ^ 20:=by
 unfold atF;let z0:Builtin.Int.intBits 0<=2 ^ 20:=by decide
 split
 ·rw [eK]
  cases e:ns[k.toNat]? with
  |none=>show z0
  |some z=>show h z (bR e)
 ·show z0
def bU(n:Int):N3:=(List.range (1+n % 6).toNat).map λk:Nat=>n / ((k:Int)+1) % 26
def di(z:Int):Str:={#[FA.ltr z]}
def m6(n:Int)(j:Nat):Str:=Txt.join "" ((List.range (bU n).length).map λk:Nat=>di ((bU n).getD k 0+3 * (j:Int) * (if decide ((k:Int)=n / 64 % ((bU n).length:Int))=true then 1 else 0)))
def kw8:N0:=["tell","if","end","plus","in","box","while","else"]
def fE(n:Int)(m:Nat):N0:=if n / 512 % 4=0 then kw8.take m else (List.range m).map λj=>m6 n j
def nh{n:Int}{m:Nat}(h:m<=8):(fE n m).length=m:=by
 unfold fE
 split
 ·rw [dz];change min m 8=m;omega
 ·simp
def jg(n:Int):(bU n).length=(1+n % 6).toNat:=by unfold bU;simp
end FD
namespace L2
open PySem PyProof.Rows
end L2
namespace FG
open PySem L2 PyProof.Rows
inductive Bop where
 |and | or | xor
 deriving DecidableEq
def Bop.str:Bop->Str
 | .and=>"and"
 | .or=>"or"
 | .xor=>"xor"
inductive Row where
 |fix (b:Int)
 |inp (n:Str) (k:Nat)
 |nt (a:Nat)
 |bin (o:Bop) (a b:Nat)
 |latch (a:Nat)
 deriving DecidableEq
def Row.vs:Row->N7
 | .fix b=>[.str "fix",.int b]
 | .inp n k=>[.str "in",.str n,.int k]
 | .nt a=>[.str "not",.int a]
 | .bin o a b=>[.str o.str,.int a,.int b]
 | .latch a=>[.str "latch",.int a]
def RowV(K:N5)(H:Hp)(x:V)(r:Row):Prop:=∃q,x=.ref q/\SqT K H q r.vs
def RowV.ts{K:N5}{H H':Hp}{x:V}{r:Row}(s:TSame H H')(h:RowV K H x r):RowV K H' x r:=let ⟨q,e,z⟩:=h;{q,e,s.seqT z}
abbrev RowsV (K:N5) (H:Hp):N7->List Row->Prop:=Paired (RowV K H)
def RowsV.ts{K:N5}{H H':Hp}{xs:N7}{rs:List Row}(s:TSame H H')(h:RowsV K H xs rs):RowsV K H' xs rs:=h.mono λ_ _ z=>z.ts s
def MO(kvs:List (Key×V))(n:Str):Option Int:=match cn kvs (.inr n) with
 |some (.int i)=>some i
 |_=>none
end FG
namespace FS
open PySem L2 FB PyProof.Rows
inductive Stm where
 |deed (d:Deed)
 |ifs (n:Str) (ones others:List Stm)
 |whl (n:Str) (rows:List Stm)
abbrev Nf:=List Stm
variable {H H':Hp} {f g:N2}
mutual
inductive StmV (K:N5) (H:Hp):V->Stm->N2->Prop where
 |deed {q:Addr} {d:Deed}:d.fine->SqT K H q d.vs->StmV K H (.ref q) (.deed d) []
 |ifs {q a b:Addr} {n:Str} {xs ys:N7} {ones others:Nf} {f g:N2}:SqT K H q [.str "if",.str n,.ref a,.ref b]->H a=some (.lst xs)->H b=some (.lst ys)->StmsV K H xs ones f->StmsV K H ys others g->
   StmV K H (.ref q) (.ifs n ones others) (a::b::(f++g))
 |whl {q a:Addr} {n:Str} {xs:N7} {rows:Nf} {f:N2}:SqT K H q [.str "while",.str n,.ref a]->H a=some (.lst xs)->StmsV K H xs rows f->StmV K H (.ref q) (.whl n rows) (a::f)
inductive StmsV (K:N5) (H:Hp):N7->Nf->N2->Prop where
 |nil:StmsV K H [] [] []
 |cons {x:V} {s:Stm} {xs:N7} {ss:Nf} {f g:N2}:StmV K H x s f->StmsV K H xs ss g->StmsV K H (x::xs) (s::ss) (f++g)
end
def Kept(fp:N2)(H H':Hp):Prop:=∀a∈fp,∀o,H a=some o->H' a=some o
def Kept.left(h:Kept (f++g) H H'):Kept f H H':=λa ha=>h a (mS _ ha)
def Kept.right(h:Kept (f++g) H H'):Kept g H H':=λa ha=>h a (i7 _ ha)
def Kept.tail{x:Addr}(h:Kept (x::g) H H'):Kept g H H':=λa ha=>h a (zq8 _ ha)
def Kept.of{fp:N2}(s:Same H H'):Kept fp H H':=λa _ o e=>s a o e
def Kept.upd{fp:N2}{p:Addr}{o:HO}(h:p∉fp):Kept fp H (upd H p o):=λa ha u e=>by rw [ak (λz=>h (by rw [<- z];show ha))];show e
variable {K:N5}
mutual
def StmV.keep(t:TSame H H'):∀{x:V} {s:Stm} {f:N2},StmV K H x s f->Kept f H H'->StmV K H' x s f
 |_,_,_,.deed hf h,_=>.deed hf (t.seqT h)
 |_,_,_,.ifs (a:=a) (b:=b) h ha hb h1 h2,k=>.ifs (t.seqT h) (k a Oq _ ha) (k b Oq _ hb) (StmsV.keep t h1 k.tail.tail.left) (StmsV.keep t h2 k.tail.tail.right)
 |_,_,_,.whl (a:=a) h ha h1,k=>.whl (t.seqT h) (k a Oq _ ha) (StmsV.keep t h1 k.tail)
def StmsV.keep(t:TSame H H'):∀{xs:List V} {ss:List Stm} {f:N2},StmsV K H xs ss f->Kept f H H'->StmsV K H' xs ss f
 |_,_,_,.nil,_=>.nil
 |_,_,_,.cons h1 h2,k=>.cons (StmV.keep t h1 k.left) (StmsV.keep t h2 k.right)
end
def StmsV.same{xs:List V}{ss:List Stm}(h:StmsV K H xs ss f)(s:Same H H'):StmsV K H' xs ss f:=h.keep s.ts (Kept.of s)
def StmV.same{x:V}{s:Stm}(h:StmV K H x s f)(sm:Same H H'):StmV K H' x s f:=h.keep sm.ts (Kept.of sm)
def StmsV.length:∀{xs:List V} {ss:List Stm} {f:N2},StmsV K H xs ss f->xs.length=ss.length
 |_,_,_,.nil=>rfl
 |_,_,_,.cons _ h=>by rw [cG,cG,StmsV.length h]
def StmsV.snoc{y:V}{r:Stm}(hy:StmV K H y r g):∀{xs:List V} {ss:List Stm} {f:N2},StmsV K H xs ss f->StmsV K H (xs++[y]) (ss++[r]) (f++g)
 |_,_,_,.nil=>by let this:=StmsV.cons hy StmsV.nil;rw [iD] at this;show this
 |_,_,_,.cons h1 h2=>by rw [kD];show .cons h1 (StmsV.snoc hy h2)
mutual
def StmV.tracked:∀{x:V} {s:Stm} {f:N2},StmV K H x s f->∀a∈f,∃zs,H a=some (.lst zs)
 |_,_,_,.deed _ _,a,ha=>by cases ha
 |_,_,_,.ifs (f:=f) (g:=g) h ha hb h1 h2,c,hc=>by
  rcases zq9.mp hc with rfl | hc
  ·show {_,ha}
  rcases zq9.mp hc with rfl | hc
  ·show {_,hb}
  rcases zq27.mp hc with hc | hc
  ·show StmsV.tracked h1 c hc
  ·show StmsV.tracked h2 c hc
 |_,_,_,.whl h ha h1,c,hc=>by
  rcases zq9.mp hc with rfl | hc
  ·show {_,ha}
  ·show StmsV.tracked h1 c hc
def StmsV.tracked:∀{xs:List V} {ss:List Stm} {f:N2},StmsV K H xs ss f->∀a∈f,∃zs,H a=some (.lst zs)
 |_,_,_,.nil,a,ha=>by cases ha
 |_,_,_,.cons h1 h2,a,ha=>by
  rcases zq27.mp ha with ha | ha
  ·show StmV.tracked h1 a ha
  ·show StmsV.tracked h2 a ha
end
def StmsV.get:∀{xs:List V} {ss:List Stm} {f:N2} {i:Nat} {x:V},StmsV K H xs ss f->xs[i]?=some x->∃s g,ss[i]?=some s/\StmV K H x s g/\∀a∈g,a∈f
 |_,_,_,_,_,.nil,e=>by simp at e
 |_,_,_,0,_,.cons h _,e=>by simp at e;subst e;show {_,_,rfl,h,λa ha=>mS _ ha}
 |_,_,_,i+1,x,.cons _ t,e=>by obtain ⟨s,g,h1,h2,h3⟩:=StmsV.get (i:=i) (x:=x) t (by simpa using e);show {s,g,by simpa using h1,h2,λa ha=>i7 _ (h3 a ha)}
def gW{α:Type}{l₁ l₂:List α}(h1:l₁.Nodup)(h2:l₂.Nodup)(h:∀a∈l₁,a∉l₂):(l₁++l₂).Nodup:=by rw [zq92];show {h1,h2,λa ha b hb e=>h a ha (by rw [e];show hb)}
end FS
namespace FP
open PySem L2 FB FS FA PyProof.Rows
variable {K:N5}
end FP
namespace FS
open PySem L2 FB PyProof.Rows
variable {a b:Nf}
def Ei{f k:Str}(h:f∈opsL)(hk:opsL.contains k=false):¬f=k:=by rintro rfl;rw [List.contains_eq_mem,decide_eq_false_iff_not] at hk;show hk h
def oh{K:N5}{H:Hp}{q:Addr}{d:Deed}{k:Str}{Z:V->Hp->Prop}(hf:d.fine)(hq:SqT K H q d.vs)(h1:opsL.contains k=false)(h2:¬("tell":Str)=k) (h3:¬("copy":Str)=k) (h:Z (.bl false) H):∃xs v,SqT K H q xs/\atI xs 0=some v/\rEq v (.str k) H Z:=by
 cases d with
 |tell a=>show {_,_,hq,rfl,rfl,by rw [cR (λz=>h2 (V.str.inj z))];show h}
 |copy n a=>show {_,_,hq,rfl,rfl,by rw [cR (λz=>h3 (V.str.inj z))];show h}
 |op f n a b=>show {_,_,hq,rfl,rfl,by rw [cR (λz=>Ei hf h1 (V.str.inj z))];show h}
mutual
def Stm.deep:Stm->Nat
 | .deed _=>0
 | .ifs _ a b=>max (ce a) (ce b)+1
 | .whl _ a=>ce a+1
def ce:Nf->Nat
 | []=>0
 |s::ss=>max s.deep (ce ss)
end
mutual
def Stm.many:Stm->Nat
 | .deed _=>1
 | .ifs _ a b=>bJ a+bJ b+1
 | .whl _ a=>bJ a+1
def bJ:List Stm->Nat
 | []=>0
 |s::ss=>s.many+bJ ss
end
def Opd.good(ns:N0)(w:Int):Opd->Prop
 | .box n=>n∈ns
 | .word i=>0<=i/\i<2 ^ w.toNat
def Deed.good(ns:N0)(w:Int):Deed->Prop
 | .tell a=>Opd.good ns w a
 | .copy d a=>d∈ns/\Opd.good ns w a
 | .op f d a b=>f∈opsL/\d∈ns/\Opd.good ns w a/\Opd.good ns w b
mutual
def Stm.good(ns:N0)(w:Int):Stm->Prop
 | .deed d=>Deed.good ns w d
 | .ifs n a b=>n∈ns/\eP ns w a/\eP ns w b
 | .whl n a=>n∈ns/\eP ns w a
def eP(ns:N0)(w:Int):List Stm->Prop
 | []=>True
 |s::ss=>s.good ns w/\eP ns w ss
end
def AC(s:Stm):1<=s.many:=by cases s<;>simp [Stm.many]
def j0(ss:List Stm):ss.length<=bJ ss:=by
 induction ss with
 |nil=>simp [bJ]
 |cons s ss ih=>rw [bJ,cG];let this:=AC s;omega
def rQ{s:Stm}{ss:List Stm}(h:s∈ss):s.many<=bJ ss:=by
 induction ss with
 |nil=>cases h
 |cons x xs ih=>
  rw [bJ];rcases zq9.mp h with z | z
  ·subst z;omega
  ·let this:=ih z;omega
def js{s:Stm}{ss:List Stm}(h:s∈ss):s.deep<=ce ss:=by
 induction ss with
 |nil=>cases h
 |cons x xs ih=>
  rw [ce];rcases zq9.mp h with z | z
  ·subst z;omega
  ·let this:=ih z;omega
def iR:ce (a++b)=max (ce a) (ce b):=by
 induction a with
 |nil=>simp [ce]
 |cons s ss ih=>rw [nK,ce,ce,ih,Nat.max_assoc]
def g6:bJ (a++b)=bJ a+bJ b:=by
 induction a with
 |nil=>simp [bJ]
 |cons s ss ih=>rw [nK,bJ,bJ,ih];omega
def goodL_append{ns:N0}{w:Int}:eP ns w (a++b)↔eP ns w a/\eP ns w b:=by
 induction a with
 |nil=>simp [eP]
 |cons s ss ih=>rw [nK,eP,eP,ih];show and_assoc.symm
end FS
namespace FP
open PySem L2 FB FS FA PyProof.Rows
end FP
namespace L2
open PySem PySem.Spec PyProof.Rows
variable {H:Hp} {o:HO} {p:Addr}
def SameX(p:Addr)(H H':Hp):Prop:=∀c o,H c=some o->c≠p->H' c=some o
def SameX.refl:SameX p H H:=λ_ _ e _=>e
def SameX.trans{H1 H2:Hp}(a:SameX p H H1)(b:SameX p H1 H2):SameX p H H2:=λc o e n=>b c o (a c o e n) n
def SameX.of{H':Hp}(s:Same H H'):SameX p H H':=λc o e _=>s c o e
def Nw:=@SameX.of
def SameX.upd:SameX p H (L2.upd H p o):=λc u e n=>by rw [ak n];show e
def NA:=@SameX.upd
def SameX.free{c:Addr}{H':Hp}(s:SameX p H H')(hp:H' p=some o)(h:H' c=none):H c=none:=by
 cases e:H c with
 |none=>rfl
 |some u=>
  let n:c≠p:=λz=>by subst z;rw [hp] at h;cases h
  rw [s c u e n] at h;cases h
def TSame.updI{C dx:Addr}{fs:List (Str×V)}(h:H p=some (.ins C dx fs)):TSame H (L2.upd H p o):=
 {λb xs e=>by rw [ak (λz=>by rw [z,h] at e;cases e)];show e,λb u v e=>by rw [ak (λz=>by rw [z,h] at e;cases e)];show e}
def NG:=@TSame.updI
end L2
namespace FS
open PySem L2 FB PyProof.Rows
def uL(wd:Int)(a b r:Addr):List (Str×V):=[("width",.int wd),("ins",.ref a),("boxes",.ref b),("rows",.ref r)]
structure ProgAt(K:N5)(C:Addr)(H:Hp)(p:Addr)(wd:Int)(ins oth:N0)(ss:Nf)(a b r:Addr)(xs:N7)(f:N2):Prop where
 ob:∃dx,H p=some (.ins C dx (uL wd a b r))
 ia:H a=some (.lst (ins.map V.str))
 bx:H b=some (.lst ((ins++oth).map V.str))
 rs:H r=some (.lst xs)
 st:StmsV K H xs ss f
def ProgAt.same{K:N5}{C:Addr}{H H':Hp}{p:Addr}{wd:Int}{ins oth:N0}{ss:Nf}{a b r:Addr}{xs:N7}{f:N2}(h:ProgAt K C H p wd ins oth ss a b r xs f)(s:Same H H'):ProgAt K C H' p wd ins oth ss a b r xs f:=
 {let ⟨dx,e⟩:=h.ob;{dx,s _ _ e},s _ _ h.ia,s _ _ h.bx,s _ _ h.rs,h.st.same s}
def cB{f:Str}{v:V}:∀{fs:List (Str×V)},(fs.map (·.1)).contains f=false->eS f v fs=fs++[(f,v)]
 | [],_=>rfl
 | (g,x)::r,h=>by
  rw [cH,List.contains_cons,Bool.or_eq_false_iff] at h;let n:¬g=f:=λz=>by subst z;simp at h
  rw [show eS f v ((g,x)::r)=(if g=f then (g,v)::r else (g,x)::eS f v r) from rfl,zq0 n,cB h.2];rfl
end FS
namespace K01M
def tb(x w:Nat):x / 2 ^ w % 2=(x.testBit w).toNat:=by
 rw [Nat.testBit_eq_decide_div_mod_eq];let h:x / 2 ^ w % 2=0\/x / 2 ^ w % 2=1:=by omega
 rcases h with h | h<;>simp [h]
end K01M
namespace FO
open PySem L2 K01M FB PyProof.Rows
abbrev ops:N0:=FB.opsL
def MB(op:Str)(x y w:Int):Int:=
 if op="plus" then (x+y) % 2 ^ w.toNat else if op="less" then (x-y) % 2 ^ w.toNat else if op="and" then Builtin.bitAnd x y else if op="or" then Builtin.bitOr x y
 else if op="xor" then Builtin.bitXor x y else if op="below" then (if x<y then 1 else 0) else if x=y then 1 else 0
end FO
namespace FR
open PySem L2 FB FS FG FO PyProof.Rows
abbrev Bx:=List (Key×V)
def IY(b:Bx)(n:Str):Int:=(MO b n).getD 0
def Eh(b:Bx):Opd->Int
 | .box n=>IY b n
 | .word i=>i
def A3(b:Bx)(w:Int):Deed->Int
 | .tell a=>Eh b a
 | .copy _ a=>Eh b a
 | .op f _ x y=>MB f (Eh b x) (Eh b y) w
def doT(w:Int)(d:Deed)(b:Bx)(t:N3):N3:=match d with
 | .tell _=>t++[A3 b w d]
 |_=>t
end FR
namespace L2
open PySem PySem.Spec PyProof.Rows
variable {H:Hp} {p r:Addr}
section
variable {K:N5} {te:TE} {ci:be} {σ:St} {acc:Addr} {Q:Hp->Prop} {H1:Hp} {a:Addr} {xs:N7}
end
def SameB(p r:Addr)(H H':Hp):Prop:=∀c o,H c=some o->c≠p->c≠r->H' c=some o
def SameB.refl:SameB p r H H:=λ_ _ e _ _=>e
def SameB.trans{H1 H2:Hp}(a:SameB p r H H1)(b:SameB p r H1 H2):SameB p r H H2:=λc o e n m=>b c o (a c o e n m) n m
def SameB.of{H':Hp}(s:Same H H'):SameB p r H H':=λc o e _ _=>s c o e
def Nn:=@SameB.of
def SameB.upd1{o:HO}:SameB p r H (L2.upd H p o):=λc u e n _=>by rw [ak n];show e
def NL:=@SameB.upd1
def SameB.upd2{o:HO}:SameB p r H (L2.upd H r o):=λc u e _ n=>by rw [ak n];show e
end L2
namespace FW
open PySem L2 FB FS FG FO FR PyProof.Rows
variable {n:Nat}
section
variable {K:N5} {H:Hp}
def vU{v:V}(h:cf v=true)(e:eqV v v=true):Dq K H n v v true:=by let z:=Dq.flat (K:=K) (H:=H) (n:=n) h h;rw [e] at z;show z
def fB{s:Str}:Dq K H n (.str s) (.str s) true:=vU rfl (by simp [eqV])
def j9(o:Opd):Dq K H n o.v o.v true:=by
 cases o with
 |box m=>show fB
 |word i=>show vU (v:=V.int i) rfl (by simp [eqV])
def DK(d:Deed):∀(j:Nat)x y,d.vs[j]?=some x->d.vs[j]?=some y->Dq K H n x y true:=by
 intro j x y hx hy;rw [hx] at hy
 cases hy
 cases d with
 |tell a=>
  match j,hx with
  |0,hx=>cases hx;show fB
  |1,hx=>cases hx;show j9 a
  |j+2,hx=>simp [Deed.vs] at hx
 |copy c a=>
  match j,hx with
  |0,hx=>cases hx;show fB
  |1,hx=>cases hx;show fB
  |2,hx=>cases hx;show j9 a
  |j+3,hx=>simp [Deed.vs] at hx
 |op f c a b=>
  match j,hx with
  |0,hx=>cases hx;show fB
  |1,hx=>cases hx;show fB
  |2,hx=>cases hx;show j9 a
  |3,hx=>cases hx;show j9 b
  |j+4,hx=>simp [Deed.vs] at hx
end
end FW
namespace FX
open PySem L2 FB FS FG FO FR FW PyProof.Rows
structure Nd where
 rd:N0
 nm:Option Str
 ah:N3
def seen(old new:Nat->Nat)(i:Nat)(j:Int):Nat:=if j<0 then 0 else if j.toNat<i then new j.toNat else old j.toNat
section
variable {n:Str} {N:List Nd} {v:Nat->Nat->Nat}
end
section
variable {S:List N0}
end
end FX
namespace FX
open PySem L2 FB FS FG FO FR FW PyProof.Rows PySem.Spec
def leS(a b:Str):Bool:=! ltCps b.cps.toList a.cps.toList
def leS_iff{a b:Str}:leS a b=true↔a.cps.toList<=b.cps.toList:=by unfold leS;rw [ltCps_eq,Bool.not_eq_true',decide_eq_false_iff_not,List.not_lt]
def oo(a b c:Str)(h1:leS a b=true)(h2:leS b c=true):leS a c=true:=leS_iff.mpr (List.le_trans (leS_iff.mp h1) (leS_iff.mp h2))
def yu(a b:Str):(leS a b || leS b a)=true:=by rw [nH,leS_iff,leS_iff];show List.le_total _ _
def Ay{a b:Str}(h1:leS a b=true)(h2:leS b a=true):a=b:=by let e:=List.le_antisymm (leS_iff.mp h1) (leS_iff.mp h2);obtain ⟨x⟩:=a;obtain ⟨y⟩:=b;let this:x=y:=Array.ext' e;rw [this]
def srt(l:N0):N0:=l.mergeSort leS
def Cp(l:N0):(srt l).Perm l:=List.mergeSort_perm _ _
def Co(l:N0):(srt l).Pairwise λa b=>leS a b=true:=List.pairwise_mergeSort oo yu l
def gH:∀{l:N0},sortedS l=true->l.Pairwise λa b=>leS a b=true:=by
 let key:∀(p:Str)(l:N0),risingS p l=true->(p::l).Pairwise λa b=>leS a b=true:=by
  intro p l
  induction l generalizing p with
  |nil=>intro _;simp
  |cons x r ih=>
   intro h;let h':(! ltCps x.cps.toList p.cps.toList&&risingS x r)=true:=h;rw [eN] at h';let ih':=ih x h'.2;let hpx:leS p x=true:=h'.1;show zq112.mpr {λy hy=>?_,ih'};rcases zq9.mp hy with z | z
   ·rw [z];show hpx
   ·show oo _ _ _ hpx ((zq112.mp ih').1 y z)
 intro l h
 cases l with
 |nil=>simp
 |cons x r=>show key x r h
def mJ{l l':N0}(h1:l'.Perm l)(h2:l'.Pairwise λa b=>leS a b=true):l'=srt l:=
 List.Perm.eq_of_pairwise (λa b _ _ h1 h2=>Ay h1 h2) h2 (Co l) (h1.trans (Cp l).symm)
end FX
namespace L2
open PySem PySem.Spec PyProof.Rows
section
variable {X:Cx}
def jM:∀{us:N1} {ns:N0},StrsAre us ns->Vals (ns.map V.str) us
 |_,_,.nil=>.nil
 |_,_,.cons y t h=>.cons ⟨t,rfl⟩ (jM h)
def mx(K:N5):N7->Hp->VK->Prop:=λxs H Q=>∃(a:Addr)(ns:N0),xs=[.ref a]/\SqL K H a (ns.map V.str)/\ns.length<64/\∀l:Addr,H l=none->Q (.ref l) (upd H l (.lst ((FX.srt ns).map V.str)))
def pe:eO X (.builtin "sorted") (mx X.K):=by
 intro pins s σ H xs us Q I r h;obtain ⟨a,ns,rfl,hq,h64,q⟩:=h;obtain ⟨u,rfl,ru⟩:=io r
 cases ru
 obtain ⟨its,rv,pl,_⟩:=I.list hq;let hl:=rv.length;rw [zq3] at hl;show sorted_strs (vs:=its) pl.isList (hX rv) Oo λout ns' a1 a2 a3=>?_;let eq:=FX.mJ a2 (FX.gH a3);subst eq;obtain ⟨e,he⟩:=sortedAll_at s.heap its out;let hk:∀b o,s.heap.get? b=some o->(sortedAll s.heap its out).get? b=some o:=λ_ _=>sortedAll_old;show {.ref (s.heap.objs.size+1),_,I.laid (t':=s.toks) hk (zq _) (show ObjOk X.prog X.w _ (sortedAll s.heap its out) _ (.lst ((FX.srt ns).map V.str)) from {?_,out.toList,e,jM a1,?_}),rfl,q _ (I.hok.fresh (zq _))}
 ·rw [zq3,a2.length_eq,bB];omega
 ·rw [D6];show he
def oC{K:N5}{a:Addr}{H:Hp}{Q:VK}:mx K [.ref a] H Q=∃ns:N0,SqL K H a (ns.map V.str)/\ns.length<64/\∀l:Addr,H l=none->Q (.ref l) (upd H l (.lst ((FX.srt ns).map V.str))):=propext {by rintro ⟨_,ns,e,q⟩;cases e;show ⟨ns,q⟩,by rintro ⟨ns,q⟩;show ⟨a,ns,rfl,q⟩}
end
end L2
namespace FZ
open PySem L2 FB FS FG FO FR PyProof.Rows
inductive Ed where
 |stop
 |go (i:Nat)
 |choose (n:Str) (i j:Nat)
 deriving DecidableEq
structure Blk where
 ds:List Deed
 ed:Ed
abbrev _root_.Nc:=FZ.Blk
abbrev _root_.Nb:=List Nc
def bK(b:Blk)(B:List Blk):Nat×List Blk:=match b.ds,b.ed with
 | [],.go i=>(i,B)
 |_,_=>(B.length,B++[b])
mutual
def d9:Stm->Blk->List Blk->Blk×List Blk
 | .deed d,b,B=>if b.ds.length=8 then ({[d],.go (bK b B).1},(bK b B).2) else (⟨d::b.ds,b.ed⟩,B)
 | .ifs n x y,b,B=>
  let w:=bK b B
  let o:=bq x {[],.go w.1} w.2
  let wo:=bK o.1 o.2
  let p:=bq y {[],.go w.1} wo.2
  let wp:=bK p.1 p.2
  ({[],.choose n wo.1 wp.1},wp.2)
 | .whl n a,b,B=>
  let w:=bK b B
  let o:=bq a {[],.go w.2.length} (w.2++[{[],.stop}])
  let wo:=bK o.1 o.2
  ({[],.go w.2.length},wo.2.set w.2.length {[],.choose n wo.1 w.1})
def bq:Nf->Blk->List Blk->Blk×List Blk
 | [],b,B=>(b,B)
 |s::r,b,B=>d9 s (bq r b B).1 (bq r b B).2
end
def cT(ss:List Stm):List Blk:=(bq ss {[],.stop} [{[],.stop}]).2.set 0 (bq ss {[],.stop} [{[],.stop}]).1
def Ed.tg:Ed->be
 | .stop=>[]
 | .go i=>[i]
 | .choose _ i j=>[i,j]
def tM(b:Blk)(B:List Blk):((bK b B).2=B/\b.ds=[]/\b.ed=.go (bK b B).1)\/((bK b B).1=B.length/\(bK b B).2=B++[b]):=by
 obtain ⟨ds,ed⟩:=b;unfold bK
 cases ds with
 |nil=>
  cases ed with
  |stop=>show .inr ⟨rfl,rfl⟩
  |go i=>show .inl ⟨rfl,rfl,rfl⟩
  |choose n i j=>show .inr ⟨rfl,rfl⟩
 |cons d r=>show .inr ⟨rfl,rfl⟩
def bQ(b:Blk)(B:List Blk):B.length<=(bK b B).2.length/\(bK b B).2.length<=B.length+1/\∀i,i<B.length->(bK b B).2[i]?=B[i]?:=by
 rcases tM b B with ⟨h,_⟩ | ⟨_,h⟩
 ·rw [h];show {zq4 _,Oo,λ_ _=>rfl}
 ·rw [h,bW,dc];show {Oo,Oo,λi hi=>vm hi}
def dI{A B C:List Blk}(h1:A.length<=B.length/\∀i,i<A.length->B[i]?=A[i]?)(h2:B.length<=C.length/\∀i,i<B.length->C[i]?=B[i]?):A.length<=C.length/\∀i,i<A.length->C[i]?=A[i]?:={bF h1.1 h2.1,λi hi=>(h2.2 i (bT hi h1.1)).trans (h1.2 i hi)}
def eY(b:Blk)(B:List Blk):B.length<=(bK b B).2.length/\∀i,i<B.length->(bK b B).2[i]?=B[i]?:={(bQ b B).1,(bQ b B).2.2}
def DC(b:Blk)(B:List Blk):B.length<=(B++[b]).length/\∀i,i<B.length->(B++[b])[i]?=B[i]?:={by rw [bW];show tY _ _,λ_ hi=>vm hi}
def EX{A B:List Blk}(b:Blk)(h:A.length<=B.length/\∀i,i<A.length->B[i]?=A[i]?):A.length<=(B.set A.length b).length/\∀i,i<A.length->(B.set A.length b)[i]?=A[i]?:={by rw [kA];show h.1,λi hi=>(Ds (vj hi)).trans (h.2 i hi)}
mutual
def zh:∀(s:Stm)(b:Blk)(B:List Blk),B.length<=(d9 s b B).2.length/\∀i,i<B.length->(d9 s b B).2[i]?=B[i]?
 | .deed d,b,B=>by
  rw [d9]
  split
  ·show eY b B
  ·show {zq4 _,λ_ _=>rfl}
 | .ifs n x y,b,B=>by
  rw [d9];show dI (eY _ _) (dI (cV x _ _) (dI (eY _ _) (dI (cV y _ _) (eY _ _))))
 | .whl n a,b,B=>by rw [d9];show dI (eY b B) (EX _ (dI (DC _ _) (dI (cV a _ _) (eY _ _))))
def cV:∀(l:List Stm)(b:Blk)(B:List Blk),B.length<=(bq l b B).2.length/\∀i,i<B.length->(bq l b B).2[i]?=B[i]?
 | [],b,B=>by rw [bq];show {zq4 _,λ_ _=>rfl}
 |s::r,b,B=>by rw [bq];show dI (cV r b B) (zh s _ _)
end
mutual
def zi:∀(s:Stm)(b:Blk)(B:List Blk),(d9 s b B).2.length<=B.length+3 * s.many
 | .deed d,b,B=>by
  let this:=(bQ b B).2.1;rw [d9,Stm.many]
  split<;>dsimp only<;>omega
 | .ifs n x y,b,B=>by
  rw [d9,Stm.many];dsimp only;let h1:=bQ b B;generalize bK b B=w at *;let h2:=dh x {[],.go w.1} w.2;generalize bq x {[],.go w.1} w.2=o at *;let h3:=bQ o.1 o.2;generalize bK o.1 o.2=wo at *;let h4:=dh y {[],.go w.1} wo.2;generalize bq y {[],.go w.1} wo.2=p at *;let h5:=bQ p.1 p.2;generalize bK p.1 p.2=wp at *;omega
 | .whl n a,b,B=>by rw [d9,Stm.many];dsimp only;let h1:=bQ b B;generalize bK b B=w at *;let h2:=dh a {[],.go w.2.length} (w.2++[{[],.stop}]);generalize bq a {[],.go w.2.length} (w.2++[{[],.stop}])=o at *;let h3:=bQ o.1 o.2;generalize bK o.1 o.2=wo at *;rw [bW,dc] at h2;rw [kA];omega
def dh:∀(l:List Stm)(b:Blk)(B:List Blk),(bq l b B).2.length<=B.length+3 * bJ l
 | [],b,B=>by rw [bq,bJ];show tY _ _
 |s::r,b,B=>by let h1:=dh r b B;rw [bq,bJ];generalize bq r b B=o at *;let h2:=zi s o.1 o.2;omega
end
def iK(ss:List Stm):(cT ss).length<=3 * bJ ss+1/\0<(cT ss).length:=by let h1:=dh ss {[],.stop} [{[],.stop}];let h2:=(cV ss {[],.stop} [{[],.stop}]).1;unfold cT;rw [kA];simp only [List.length_singleton] at h1 h2;omega
structure BlkG(ns:N0)(w:Int)(m:Nat)(b:Blk):Prop where
 gd:∀d∈b.ds,Deed.good ns w d
 len:b.ds.length<=8
 tg:∀i∈b.ed.tg,i<m
 nm:∀n i j,b.ed=.choose n i j->n∈ns
def BlkG.mono{ns:N0}{w:Int}{m m':Nat}{b:Blk}(h:BlkG ns w m b)(hm:m<=m'):BlkG ns w m' b:={h.gd,h.len,λi hi=>bT (h.tg i hi) hm,h.nm}
def ki(ns:N0)(w:Int)(m:Nat)(B:List Blk):Prop:=∀b∈B,BlkG ns w m b
def goG{ns:N0}{w:Int}{m i:Nat}(h:i<m):BlkG ns w m {[],.go i}:={λd hd=>(tT hd).elim,cE _,λj hj=>by rw [zq15.mp hj];show h,λn i j e=>by cases e}
def Cs{ns:N0}{w:Int}{m:Nat}:BlkG ns w m {[],.stop}:={λd hd=>(tT hd).elim,cE _,λj hj=>(tT hj).elim,λn i j e=>by cases e}
def hZ{ns:N0}{w:Int}{b:Blk}{B:List Blk}(hb:BlkG ns w B.length b)(hB:ki ns w B.length B):(bK b B).1<(bK b B).2.length/\ki ns w (bK b B).2.length (bK b B).2:=by
 rcases tM b B with ⟨h1,h2,h3⟩ | ⟨h1,h2⟩
 ·rw [h1];show {hb.tg _ (by rw [h3];simp [Ed.tg]),hB}
 ·rw [h1,h2,bW,dc];show {Oo,λc hc=>?_};rcases zq27.mp hc with z | z
  ·show (hB c z).mono Oo
  ·rw [zq15.mp z];show hb.mono Oo
mutual
def F6{ns:N0}{w:Int}:∀(s:Stm)(b:Blk)(B:List Blk),s.good ns w->BlkG ns w B.length b->ki ns w B.length B->BlkG ns w (d9 s b B).2.length (d9 s b B).1/\ki ns w (d9 s b B).2.length (d9 s b B).2
 | .deed d,b,B,hs,hb,hB=>by
  rw [d9]
  split
  ·obtain ⟨h1,h2⟩:=hZ hb hB;show {{λc hc=>by rw [zq15.mp hc];show hs,Oq,λi hi=>by rw [zq15.mp hi];show h1,λn i j e=>by cases e},h2}
  ·next hl=>
   let this:=hb.len;show ⟨⟨λc hc=>by
    rcases zq9.mp hc with z | z
    ·rw [z];show hs
    ·show hb.gd c z,by rw [cG];omega,hb.tg,hb.nm⟩,hB⟩
 | .ifs n x y,b,B,hs,hb,hB=>by
  rw [d9];dsimp only;obtain ⟨h1,h2⟩:=hZ hb hB;generalize bK b B=w0 at *;obtain ⟨h3,h4⟩:=ja x {[],.go w0.1} w0.2 hs.2.1 (goG h1) h2;let l3:=cV x {[],.go w0.1} w0.2;generalize bq x {[],.go w0.1} w0.2=o at *;obtain ⟨h5,h6⟩:=hZ h3 h4;let l5:=bQ o.1 o.2;generalize bK o.1 o.2=wo at *;obtain ⟨h7,h8⟩:=ja y {[],.go w0.1} wo.2 hs.2.2 (goG Oo) h6;let l7:=cV y {[],.go w0.1} wo.2;generalize bq y {[],.go w0.1} wo.2=p at *;obtain ⟨h9,h10⟩:=hZ h7 h8;let l9:=bQ p.1 p.2;generalize bK p.1 p.2=wp at *;show {{λd hd=>(tT hd).elim,cE _,λi hi=>?_,λm i j e=>by cases e;show hs.1},h10};let hi':i∈[wo.1,wp.1]:=hi;rcases zq9.mp hi' with z | z
  ·omega
  ·rw [zq15.mp z];show h9
 | .whl n a,b,B,hs,hb,hB=>by
  rw [d9];dsimp only;obtain ⟨h1,h2⟩:=hZ hb hB;generalize bK b B=w0 at *;let hB2:ki ns w (w0.2++[({[],.stop}:Blk)]).length (w0.2++[({[],.stop}:Blk)]):=λc hc=>by
   rw [bW,dc];rcases zq27.mp hc with z | z
   ·show (h2 c z).mono Oo
   ·rw [zq15.mp z];show Cs
  obtain ⟨h3,h4⟩:=ja a {[],.go w0.2.length} (w0.2++[{[],.stop}]) hs.2 (goG (by rw [bW,dc];omega)) hB2;let l3:=cV a {[],.go w0.2.length} (w0.2++[{[],.stop}]);generalize bq a {[],.go w0.2.length} (w0.2++[{[],.stop}])=o at *;rw [bW,dc] at l3;obtain ⟨h5,h6⟩:=hZ h3 h4;let l5:=bQ o.1 o.2;generalize bK o.1 o.2=wo at *;rw [kA];show {goG Oo,λc hc=>?_};rcases D8 hc with z | z
  ·show h6 c z
  ·rw [z];show {λd hd=>(tT hd).elim,cE _,λi hi=>?_,λm i j e=>by cases e;show hs.1};let hi':i∈[wo.1,w0.1]:=hi;rcases zq9.mp hi' with y | y
   ·rw [y];show h5
   ·rw [zq15.mp y];omega
def ja{ns:N0}{w:Int}:∀(l:List Stm)(b:Blk)(B:List Blk),eP ns w l->BlkG ns w B.length b->ki ns w B.length B->BlkG ns w (bq l b B).2.length (bq l b B).1/\ki ns w (bq l b B).2.length (bq l b B).2
 | [],b,B,_,hb,hB=>by rw [bq];show ⟨hb,hB⟩
 |s::r,b,B,hl,hb,hB=>by obtain ⟨h1,h2⟩:=ja r b B hl.2 hb hB;rw [bq];show F6 s _ _ hl.1 h1 h2
end
def l8{ns:N0}{w:Int}{ss:List Stm}(h:eP ns w ss):ki ns w (cT ss).length (cT ss):=by
 obtain ⟨h1,h2⟩:=ja ss {[],.stop} [{[],.stop}] h Cs (λc hc=>by rw [zq15.mp hc];show Cs);unfold cT;rw [kA];intro c hc;rcases D8 hc with z | z
 ·show h2 c z
 ·rw [z];show h1
end FZ
namespace GA
open PySem L2 FB FS FG FO FR FZ PyProof.Rows
abbrev BT:=Bx×N3
end GA
section
open PySem PySem.Spec PyProof.Rows
namespace HT
section
variable {prog:Program} {w:World} {A:Around} {E:Value->Shared->Prop} {s:Shared}
end
end HT
namespace L2
section
variable {X:Cx}
end
end L2
namespace L2
section
variable {X:Cx}
def Jv:N7->Hp->VK->Prop:=λxs H Q=>∃(a C dx:Addr)(fs:List (Str×V)),xs=[.ref a,.ref C]/\H a=some (.ins C dx fs)/\Q (.bl true) H
def xV:eO X (.builtin "isinstance") Jv:=by
 intro pins s σ H xs us Q I r h;obtain ⟨a,C,dx,fs,rfl,ha,q⟩:=h;obtain ⟨u,v,rfl,ru,rv⟩:=tI r
 cases ru
 cases rv
 obtain ⟨_,_,_,hob,_⟩:=I.hok _ _ ha;show W.isi_call (K:=X.K) (t:=.ref C) I.kIn (λM=>(W.Looks.ld hob).andThen .now) ?_ (λe=>by cases e) {.bl true,H,I,rfl,q};unfold W.isIn;rw [show (Value.ref C==Value.ref C)=true from by simp,Bool.true_or]
end
end L2
end
namespace GD
variable {b bt dn:be} {p r:Nat}
section
variable (G:Nat->Nat->Option Int) (so:Nat->Nat) (U:Nat->Int)
def iq(bt:be)(s:Nat):Nat:=bt.countP λo=>decide (so o=s)
def dX(dn bt:be)(p j:Nat):Bool:=match G j p with
 |none=>true
 |some l=>decide (j∈dn) || (decide (l=0)&&decide (j∈bt))
def c9(dn bt:be)(p:Nat):Bool:=!(decide (so p<3)&&decide ((iq so bt (so p):Int)=U (so p)))&&(List.range p).all (dX G dn bt p)
def ig(dn bt:be)(p:Nat):List be:=(if c9 G so U dn bt p=true then [bt++[p]] else [])++(if c9 G so U dn bt p=false\/so p<3 then [bt] else [])
def bZ(dn:be)(bts:List be)(p:Nat):List be:=bts.flatMap λb=>ig G so U dn b p
def cU(n:Nat)(dn:be):be:=(List.range n).filter λp=>! decide (p∈dn)
def kh(dn b ms:be):Bool:=ms.any λp=>! decide (p∈b)&&c9 G so U dn b p
def cz(n:Nat)(dn:be):List be:=((cU n dn).foldl (bZ G so U dn) [[]]).filter λb=>! kh G so U dn b (cU n dn)
def dP(n:Nat)(dn b:be):be:=(List.range n).filter λp=>decide (p∈dn) || decide (p∈b)
def je(acc:List (be×List be))(k:be)(v:List be):List (be×List be):=if k∈acc.map (·.1) then acc else acc++[(k,v)]
def c7(n:Nat)(acc:List (be×List be))(w:be×List be)(bs:List be):List (be×List be):=bs.foldl (λacc b=>je acc (dP n w.1 b) (w.2++[b])) acc
def eQ(n:Nat)(ws:List (be×List be)):List (be×List be):=ws.foldl (λacc w=>c7 n acc w (cz G so U n w.1)) []
def cJ(n:Nat):Nat->List (be×List be)
 |0=>[([],[])]
 |r+1=>eQ G so U n (cJ n r)
inductive Lay (n:Nat):List be->be->Prop
 |nil:Lay n [] []
 |snoc {bss dn b}:Lay n bss dn->b∈cz G so U n dn->Lay n (bss++[b]) (dP n dn b)
structure Fine(dn ms b:be):Prop where
 sub:b.Sublist ms
 lean:∀p∈b,∀j,j<p->dX G dn b p j=true
 load:∀s,s<3->(iq so b s:Int)<=U s
end
section
variable {G:Nat->Nat->Option Int} {so:Nat->Nat} {U:Nat->Int} {n:Nat}
def xX{s:Nat}:iq so (bt++[p]) s=iq so bt s+(if so p=s then 1 else 0):=by unfold iq;rw [xM];simp [List.countP_cons]
def kW{e:be}{j:Nat}(h:dX G dn b p j=true):dX G dn (b++e) p j=true:=by
 unfold dX at *
 split
 ·rfl
 ·rename_i l hl
  rw [hl] at h;simp only [Bool.or_eq_true,Bool.and_eq_true,decide_eq_true_eq,List.mem_append] at *;rcases h with h | ⟨h1,h2⟩
  ·show .inl h
  ·show .inr {h1,.inl h2}
def fits_iff:c9 G so U dn bt p=true↔(so p<3->(iq so bt (so p):Int)≠U (so p))/\∀j,j<p->dX G dn bt p j=true:=by
 unfold c9;simp only [Bool.and_eq_true,Bool.not_eq_true',Bool.and_eq_false_iff,decide_eq_false_iff_not,List.all_eq_true,List.mem_range]
 constructor
 ·rintro ⟨h1,h2⟩;show {λh=>h1.elim (λz=>absurd h z) id,h2}
 ·rintro ⟨h1,h2⟩;show {?_,h2}
  by_cases h:so p<3
  ·show .inr (h1 h)
  ·show .inl h
def Fine.mono{ms ms':be}(h:Fine G so U dn ms b)(hs:ms.Sublist ms'):Fine G so U dn ms' b:={h.sub.trans hs,h.lean,h.load}
def Fine.add{ms:be}(h:Fine G so U dn ms b)(hf:c9 G so U dn b p=true):Fine G so U dn (ms++[p]) (b++[p]):=by
 obtain ⟨h1,h2⟩:=fits_iff.mp hf;show {h.sub.append (List.Sublist.refl _),λq hq j hj=>?_,λs hs=>?_}
 ·rcases zq27.mp hq with hq | hq
  ·show kW (h.lean q hq j hj)
  ·rw [zq15.mp hq] at hj ⊢;show kW (h2 j hj)
 ·rw [xX];let this:=h.load s hs
  by_cases e:so p=s
  ·let this:=h1 Oo;rw [zq1 e];rw [e] at this;omega
  ·rw [zq0 e];omega
def rR{c:be}(h:c∈ig G so U dn bt p):(c9 G so U dn bt p=true/\c=bt++[p])\/c=bt:=by
 unfold ig at h;rcases zq27.mp h with h | h
 ·split at h
  ·show .inl {by assumption,zq15.mp h}
  ·cases h
 ·split at h
  ·show .inr (zq15.mp h)
  ·cases h
def ir{dn:be}:∀(ms pre:be)(bts:List be),(∀b∈bts,Fine G so U dn pre b)->∀b∈ms.foldl (bZ G so U dn) bts,Fine G so U dn (pre++ms) b
 | [],pre,bts,h,b,hb=>by rw [iD];show h b hb
 |p::ms,pre,bts,h,b,hb=>by
  let z:=ir ms (pre++[p]) (bZ G so U dn bts p) (λc hc=>by
   obtain ⟨b',hb',hc⟩:=zq135.mp hc;rcases rR hc with ⟨hf,rfl⟩ | rfl
   ·show (h _ hb').add hf
   ·show (h _ hb').mono (List.sublist_append_left ..)) b hb
  rwa [kD] at z
def jw(hU:∀s,s<3->0<U s)(h:b∈cz G so U n dn):Fine G so U dn (cU n dn) b:=by
 let z:=ir (G:=G) (so:=so) (U:=U) (dn:=dn) (cU n dn) [] [[]] (λc hc=>by rw [zq15.mp hc];show {List.Sublist.refl _,λp hp=>(by cases hp),λs hs=>by let this:=hU s hs;simp [iq];omega}) b (zq80.mp h).1
 rwa [tZ] at z
def ye(h:b∈cz G so U n dn):∀p∈cU n dn,p∉b->c9 G so U dn b p=false:=by intro p hp hb;let z:=(zq80.mp h).2;simp only [Bool.not_eq_true',kh,List.any_eq_false,Bool.and_eq_true,not_and,Bool.not_eq_true',decide_eq_false_iff_not] at z;simpa using z p hp hb
def miss_iff:p∈cU n dn↔p<n/\p∉dn:=by unfold cU;rw [zq80,zq43];simp
def kd:(cU n dn).Pairwise (· < ·):=List.Pairwise.filter _ D9
def fX(G:Nat->Nat->Option Int)(so:Nat->Nat)(U:Nat->Int)(dn:be)(b:be)(p:Nat):be:=if c9 G so U dn b p=true then b++[p] else b
def rE{dn:be}:∀(ms:be)(b:be)(bts:List be),b∈bts->ms.foldl (fX G so U dn) b∈ms.foldl (bZ G so U dn) bts
 | [],_,_,h=>h
 |p::ms,b,bts,h=>by
  show rE ms _ _ (zq135.mpr {b,h,?_});unfold fX ig
  cases hf:c9 G so U dn b p<;>simp
def lQ{dn:be}:∀(ms:be)(b:be),∃e,ms.foldl (fX G so U dn) b=b++e/\∀q∈e,q∈ms
 | [],b=>{[],Oq,λq hq=>by cases hq}
 |p::ms,b=>by
  obtain ⟨e,h1,h2⟩:=lQ ms (fX G so U dn b p);rw [iE,h1];unfold fX
  split
  ·show ⟨p::e,Oq,λq hq=>by rcases zq9.mp hq with rfl | hq<;>simp_all⟩
  ·show {e,rfl,λq hq=>zq8 _ (h2 q hq)}
def DG{e:be}{s:Nat}:iq so b s<=iq so (b++e) s:=by unfold iq;rw [xM];omega
def uu(hU:∀s,s<3->0<U s):(cU n dn).foldl (fX G so U dn) []∈cz G so U n dn:=by
 let hin:=rE (G:=G) (so:=so) (U:=U) (dn:=dn) (cU n dn) [] [[]] Oq;let hfin:=ir (G:=G) (so:=so) (U:=U) (dn:=dn) (cU n dn) [] [[]] (λc hc=>by rw [zq15.mp hc];show {List.Sublist.refl _,λp hp=>(by cases hp),λs hs=>by let this:=hU s hs;simp [iq];omega}) _ hin
 show zq80.mpr {hin,?_};simp only [Bool.not_eq_true',kh,List.any_eq_false,Bool.and_eq_true,not_and,Bool.not_eq_true',decide_eq_false_iff_not];intro p hp hb hf;obtain ⟨pre,post,e⟩:=List.append_of_mem hp;let srt:=kd (n:=n) (dn:=dn);rw [e] at srt hb hf hfin;rw [jU,iE] at hb hf hfin;obtain ⟨b0,hb0⟩:∃b0,b0=List.foldl (fX G so U dn) [] pre:={_,rfl}
 rw [<- hb0] at hb hf hfin;obtain ⟨e2,h1,h2⟩:=lQ (G:=G) (so:=so) (U:=U) (dn:=dn) post (fX G so U dn b0 p);rw [h1] at hb hf hfin;let srt2:=(List.pairwise_append.mp srt).2.1;rw [zq112] at srt2;unfold fX at hb hf hfin
 by_cases hfb:c9 G so U dn b0 p=true
 ·rw [zq1 hfb] at hb;show hb Oq
 ·rw [zq0 hfb] at hf hfin;obtain ⟨f1,f2⟩:=fits_iff.mp hf;show hfb (fits_iff.mpr {λhs hc=>?_,λj hj=>?_})
  ·let a:=hfin.load _ hs;let b:=DG (so:=so) (b:=b0) (e:=e2) (s:=so p);show f1 hs Oo
  ·let z:=f2 j hj;unfold dX at z ⊢
   cases hg:G j p with
   |none=>rfl
   |some l=>
    rw [hg] at z;simp only [Bool.or_eq_true,Bool.and_eq_true,decide_eq_true_eq,List.mem_append] at z ⊢;rcases z with z | ⟨z1,z2 | z2⟩
    ·show .inl z
    ·show .inr ⟨z1,z2⟩
    ·let this:=srt2.1 j (h2 j z2);omega
def vZ(hU:∀s,s<3->0<U s)(h:b∈cz G so U n dn)(hm:cU n dn≠[]):b≠[]:=by
 rintro rfl;obtain ⟨p,hp⟩:∃p,p∈cU n dn:=Da _ hm;let least:∀k p,p<=k->p∈cU n dn->∃q∈cU n dn,∀j,j<q->j∈dn:=by
  intro k
  induction k with
  |zero=>intro p hk hp;show {p,hp,λj hj=>Oo}
  |succ k ih=>
   intro p hk hp
   by_cases ha:∀j,j<p->j∈dn
   ·show ⟨p,hp,ha⟩
   ·let this:∃j,j<p/\j∉dn:=by apply Dc;intro h';apply ha;intro j hj;apply Dc;intro h'';show h' ⟨j,hj,h''⟩
    obtain ⟨j,hj,hjd⟩:=this;let this:=(miss_iff.mp hp).1;show ih j Oo (miss_iff.mpr ⟨Oo,hjd⟩)
 obtain ⟨q,hq,hall⟩:=least p p (zq4 _) hp;let z:=ye h q hq Oq;let y:c9 G so U dn [] q=true:=by
  show fits_iff.mpr {λhs hc=>?_,λj hj=>?_}
  ·let this:=hU _ hs;simp [iq] at hc;omega
  ·unfold dX
   split
   ·rfl
   ·simp [hall j hj]
 rw [y] at z
 cases z
def DZ:p∈dP n dn b↔p<n/\(p∈dn\/p∈b):=by unfold dP;rw [zq80,zq43];simp
def Can(n:Nat)(dn:be):Prop:=dn.Sublist (List.range n)
def ph:Can n (dP n dn b):=List.filter_sublist
def Can.lt(h:Can n dn)(hp:p∈dn):p<n:=zq43.mp (h.subset hp)
def Can.sorted(h:Can n dn):dn.Pairwise (· < ·):=List.Pairwise.sublist h D9
def mH:∀{a b:be},a.Pairwise (· < ·)->b.Pairwise (· < ·)->(∀p,p∈a↔p∈b)->a=b
 | [],[],_,_,_=>rfl
 | [],y::b,_,_,h=>absurd ((h y).mpr Oq) Oq
 |x::a,[],_,_,h=>absurd ((h x).mp Oq) Oq
 |x::a,y::b,ha,hb,h=>by
  rw [zq112] at ha hb;let exy:x=y:=by
   let h1:=(h x).mp Oq;let h2:=(h y).mpr Oq;rcases zq9.mp h1 with e | h1
   ·show e
   ·rcases zq9.mp h2 with e | h2
    ·show e.symm
    ·let this:=ha.1 y h2;let this:=hb.1 x h1;omega
  subst exy;rw [mH ha.2 hb.2 λp=>?_]
  constructor
  ·intro hp;rcases zq9.mp ((h p).mp (zq8 _ hp)) with e | z
   ·let this:=ha.1 p hp;omega
   ·show z
  ·intro hp;rcases zq9.mp ((h p).mpr (zq8 _ hp)) with e | z
   ·let this:=hb.1 p hp;omega
   ·show z
def Can.miss(h:Can n dn)(hne:dn≠List.range n):cU n dn≠[]:=by
 intro e;apply hne;show mH h.sorted D9 λp=>{λhp=>zq43.mpr (h.lt hp),λhp=>?_}
 apply Dc;intro hd;let this:=miss_iff.mpr {zq43.mp hp,hd};rw [e] at this
 cases this
def Can.len(h:Can n dn):dn.length<=n:=by let this:=h.length_le;rwa [fi] at this
def Can.len_lt(h:Can n dn)(hne:dn≠List.range n):dn.length<n:=by
 rcases Nat.lt_or_ge dn.length n with z | z
 ·show z
 ·show absurd (h.eq_of_length (by rw [fi];let this:=h.len;omega)) hne
def Lay.can{bss:List be}(h:Lay G so U n bss dn):Can n dn:=by
 cases h with
 |nil=>show List.nil_sublist _
 |snoc=>show ph
def lX(h:Can n dn)(hb:b.Sublist (cU n dn)):(dn++b).Perm (dP n dn b):=by let hbm:∀p∈b,p<n/\p∉dn:=λp hp=>miss_iff.mp (hb.subset hp);let nb:b.Nodup:=(List.Pairwise.sublist hb kd).imp λh=>dG h;let nd:dn.Nodup:=h.sorted.imp λh=>dG h;let nk:(dP n dn b).Nodup:=(ph (n:=n) (dn:=dn) (b:=b)).sorted.imp λh=>dG h;let nab:(dn++b).Nodup:=zq92.mpr {nd,nb,λx hx y hy e=>by subst e;show (hbm x hy).2 hx};show (List.perm_ext_iff_of_nodup nab nk).mpr λp=>?_;rw [DZ,zq27];show {λz=>{z.elim (λz=>h.lt z) λz=>(hbm p z).1,z},λz=>z.2}
def DV(h:Can n dn)(hb:b.Sublist (cU n dn)):(dP n dn b).length=dn.length+b.length:=by rw [<- (lX h hb).length_eq,bW]
def jK{acc:List (be×List be)}{k:be}{v:List be}{x:be×List be}(h:x∈je acc k v):x∈acc\/x=(k,v):=by
 unfold je at h
 split at h
 ·show .inl h
 ·rcases zq27.mp h with h | h
  ·show .inl h
  ·show .inr (zq15.mp h)
def BY{acc:List (be×List be)}{k:be}{v:List be}:k∈(je acc k v).map (·.1):=by
 unfold je
 split
 ·assumption
 ·simp
def yX{acc:List (be×List be)}{k:be}{v:List be}{x:be×List be}(h:x∈acc):x∈je acc k v:=by
 unfold je
 split
 ·show h
 ·show mS _ h
def uS{acc:List (be×List be)}{k:be}{v:List be}(h:(acc.map (·.1)).Nodup):((je acc k v).map (·.1)).Nodup:=by
 unfold je
 split
 ·show h
 ·rename_i hk
  rw [dN,zq92];show {h,Oq,λx hx y hy e=>by subst e;rw [List.map_singleton,zq15] at hy;subst hy;show hk hx}
structure WOk(G:Nat->Nat->Option Int)(so:Nat->Nat)(U:Nat->Int)(n r:Nat)(ws:List (be×List be)):Prop where
 lay:∀w∈ws,Lay G so U n w.2 w.1/\w.2.length=r
 nodup:(ws.map (·.1)).Nodup
def WOk.set{acc:List (be×List be)}{bss:List be}(h:WOk G so U n (r+1) acc)(hl:Lay G so U n bss dn)(hr:bss.length=r)(hb:b∈cz G so U n dn):WOk G so U n (r+1) (je acc (dP n dn b) (bss++[b])):=
 ⟨λw hw=>by
  rcases jK hw with hw | rfl
  ·show h.lay w hw
  ·show {hl.snoc hb,by simp [hr]},uS h.nodup⟩
def WOk.add{w:be×List be}(hl:Lay G so U n w.2 w.1)(hr:w.2.length=r):∀(bs:List be) (acc:List (be×List be)),(∀b∈bs,b∈cz G so U n w.1)->WOk G so U n (r+1) acc->WOk G so U n (r+1) (c7 n acc w bs)
 | [],_,_,h=>h
 |b::bs,acc,hb,h=>WOk.add hl hr bs _ (λc hc=>hb c (zq8 _ hc)) (h.set hl hr (hb b Oq))
def WOk.step:∀(ws acc:List (be×List be)),(∀w∈ws,Lay G so U n w.2 w.1/\w.2.length=r)->WOk G so U n (r+1) acc->WOk G so U n (r+1) (ws.foldl (λacc w=>c7 n acc w (cz G so U n w.1)) acc)
 | [],_,_,h=>h
 |w::ws,acc,hw,h=>WOk.step ws _ (λx hx=>hw x (zq8 _ hx)) (WOk.add (hw w Oq).1 (hw w Oq).2 _ _ (λ_ h=>h) h)
def gh:∀r,WOk G so U n r (cJ G so U n r)
 |0=>{λw hw=>by rw [cJ,zq15] at hw;subst hw;show {.nil,rfl},by simp [cJ]}
 |r+1=>WOk.step _ _ (gh r).lay {λw hw=>(by cases hw),Oq}
def jo{w x:be×List be}:∀(bs:List be) (acc:List (be×List be)),x∈acc->x∈c7 n acc w bs
 | [],_,h=>h
 |b::bs,acc,h=>jo bs _ (yX h)
def qB{w:be×List be}{b:be}:∀(bs:List be) (acc:List (be×List be)),b∈bs->dP n w.1 b∈(c7 n acc w bs).map (·.1)
 | [],_,h=>by cases h
 |c::bs,acc,h=>by
  rcases zq9.mp h with rfl | h
  ·obtain ⟨x,hx,e⟩:=zq32.mp (BY (acc:=acc) (k:=dP n w.1 b) (v:=w.2++[b]));show zq32.mpr {x,jo bs _ hx,e}
  ·show qB bs _ h
def oI{x:be×List be}:∀(ws acc:List (be×List be)),x∈acc->x∈ws.foldl (λacc w=>c7 n acc w (cz G so U n w.1)) acc
 | [],_,h=>h
 |w::ws,acc,h=>oI ws _ (jo _ _ h)
def sZ{w:be×List be}{b:be}(hb:b∈cz G so U n w.1):∀(ws acc:List (be×List be)),w∈ws->dP n w.1 b∈(ws.foldl (λacc w=>c7 n acc w (cz G so U n w.1)) acc).map (·.1)
 | [],_,h=>by cases h
 |c::ws,acc,h=>by
  rcases zq9.mp h with rfl | h
  ·obtain ⟨x,hx,e⟩:=zq32.mp (qB (n:=n) (w:=w) (cz G so U n w.1) acc hb);show zq32.mpr {x,oI ws _ hx,e}
  ·show sZ hb ws _ h
def xw(hU:∀s,s<3->0<U s):∀r,cJ G so U n r≠[]
 |0=>by simp [cJ]
 |r+1=>by
  obtain ⟨w,hw⟩:=Da _ (xw hU r);let z:=sZ (uu (G:=G) (so:=so) hU (n:=n) (dn:=w.1)) (cJ G so U n r) [] hw;intro e;rw [cJ,eQ] at e;rw [e] at z
  cases z
def tO(hU:∀s,s<3->0<U s):∀r,(∀k,k<r->List.range n∉(cJ G so U n k).map (·.1))->∀w∈cJ G so U n r,r<=w.1.length
 |0,_,w,_=>cE _
 |r+1,hn,w,hw=>by
  let ih:=tO hU r λk hk=>hn k Oo;let hno:=hn r Oo;let key:∀(ws acc:List (be×List be)),(∀w∈ws,Can n w.1/\w.1≠List.range n/\r<=w.1.length)->(∀w∈acc,r+1<=w.1.length)->∀w∈ws.foldl (λacc w=>c7 n acc w (cz G so U n w.1)) acc,r+1<=w.1.length:=by
   intro ws
   induction ws with
   |nil=>intro acc _ h;show h
   |cons v ws ihw=>
    intro acc h1 h2;show ihw _ (λx hx=>h1 x (zq8 _ hx)) ?_;obtain ⟨c1,c2,c3⟩:=h1 v Oq;let inner:∀(bs:List be) (acc:List (be×List be)),(∀b∈bs,b∈cz G so U n v.1)->(∀w∈acc,r+1<=w.1.length)->∀w∈c7 n acc v bs,r+1<=w.1.length:=by
     intro bs
     induction bs with
     |nil=>intro acc _ h;show h
     |cons b bs ihb=>
      intro acc h3 h4;show ihb _ (λc hc=>h3 c (zq8 _ hc)) λx hx=>?_;rcases jK hx with hx | rfl
      ·show h4 x hx
      ·let hb:=h3 b Oq;let ne:=vZ hU hb (c1.miss c2);let this:=zq93.mpr ne;change r+1<=(dP n v.1 b).length;rw [DV c1 (jw hU hb).sub];omega
    show inner _ _ (λ_ h=>h) h2
  show key _ _ (λx hx=>{((gh r).lay x hx).1.can,λe=>hno (zq32.mpr ⟨x,hx,e⟩),ih x hx}) (λ_ h=>by cases h) w hw
def F4(hU:∀s,s<3->0<U s)(hn:∀k,k<=r->List.range n∉(cJ G so U n k).map (·.1)):r<n:=by obtain ⟨w,hw⟩:=Da _ (xw (G:=G) (so:=so) (U:=U) (n:=n) hU r);let h1:=tO hU r (λk hk=>hn k Oo) w hw;let h2:=((gh r).lay w hw).1.can.len_lt λe=>hn r (zq4 _) (zq32.mpr ⟨w,hw,e⟩);omega
def jz{dn:be}:∀(bts:List be) (p:Nat),(bZ G so U dn bts p).length<=2 * bts.length
 | [],_=>by simp [bZ]
 |b::bts,p=>by
  let this:=jz (dn:=dn) bts p;let h1:(ig G so U dn b p).length<=2:=by
   unfold ig;rw [bW];let a:(if c9 G so U dn b p=true then [b++[p]] else []).length<=1:=by split<;>simp
   let c:(if c9 G so U dn b p=false\/so p<3 then [b] else []).length<=1:=by split<;>simp
   omega
  unfold bZ at *;rw [List.flatMap_cons,bW,cG];omega
def lR{dn:be}:∀(ms:be)(bts:List be),(ms.foldl (bZ G so U dn) bts).length<=2 ^ ms.length * bts.length
 | [],bts=>by simp
 |p::ms,bts=>by
  let a:=lR (dn:=dn) ms (bZ G so U dn bts p);let b:=jz (G:=G) (so:=so) (U:=U) (dn:=dn) bts p;rw [iE,cG,Nat.pow_succ]
  calc _<=_:=a
   _<=2 ^ ms.length * (2 * bts.length):=Nat.mul_le_mul_left _ b
   _=_:=by rw [Nat.mul_assoc]
def uV:be->List be
 | []=>[[]]
 |x::xs=>uV xs++(uV xs).map (x::·)
def tu:∀xs,(uV xs).length=2 ^ xs.length
 | []=>rfl
 |x::xs=>by rw [uV,bW,zq3,tu xs,cG,Nat.pow_succ];omega
def lZ:∀{xs ys:be},ys.Sublist xs->ys∈uV xs
 |_,_,.slnil=>by simp [uV]
 |_,_,.cons _ h=>mS _ (lZ h)
 |_,_,.cons₂ _ h=>i7 _ (zq32.mpr {_,lZ h,rfl})
def ou{α:Type}[DecidableEq α]:∀{L M:List α},L.Nodup->(∀x∈L,x∈M)->L.length<=M.length
 | [],M,_,_=>cE _
 |x::L,M,h,hm=>by rw [zq42] at h;let z:=ou (M:=M.erase x) h.2 λy hy=>(List.mem_erase_of_ne (λe=>h.1 (by rw [<- e];show hy))).mpr (hm y (zq8 _ hy));rw [List.length_erase_of_mem (hm x Oq)] at z;let this:=List.length_pos_of_mem (hm x Oq);rw [cG];omega
def WOk.len{ws:List (be×List be)}(h:WOk G so U n r ws):ws.length<=2 ^ n:=by
 let z:=ou (M:=uV (List.range n)) h.nodup λk hk=>by obtain ⟨w,hw,e⟩:=zq32.mp hk;rw [<- e];show lZ (h.lay w hw).1.can
 rwa [zq3,tu,fi] at z
end
end GD
section
open PySem PySem.Spec PyProof.Rows
namespace L2
variable {d:Addr}
section
variable {prog:Program} {w:World} {A:Around} {E:Value->Shared->Prop} {s:Shared}
def sH{κ:Type}[DecidableEq κ]{knd:HeapKind prog w κ}{a:Addr}{xs:List (κ×Addr×Value)}{k:κ}{v:Value}{Q:Value->Shared->Prop}(hu:knd.room A)(hkey:knd.is s.heap k a)(hm:s.heap.DictOfH knd d xs)
 (h1:∀p,atKey xs k=some p->Q p.2 {s with toks:=s.toks+knd.draws k})
 (h2:atKey xs k=none->∀h',h'.DictOfH knd d (xs++[(k,a,v)])->Heap.SameBut d s.heap h'->Q v {s with heap:=h',toks:=s.toks+knd.draws k})
 (hsz:xs.length<=sizeLine):wpAny (model prog w) A (dictSetDefault d (.ref a) v) Q E s:=by
 obtain ⟨o,es,ep,ho,hc,hd,he,his,hn⟩:=hm;unfold dictSetDefault
 try with_reducible show vi ?_
 show zq2 (knd.pyHash hu hkey (zq2 (wpAny_dictFind_heap (s:={s with toks:=s.toks+knd.draws k}) hu hkey ho hd he his hn ?_ ?_)))
 ·intro hno;let hat:=atKey_none_of_get hno;let hnot:=not_mem_keys_of_get hno;show zq2 (wpAny_rule (zq2 (wpAny_updateDictKeys (hz:=by let e:=size_of_entries he;omega) (s:={s with toks:=s.toks+knd.draws k}) ho hd (zq5 (h2 hat _ ⟨_,_,ep+1,D0 _ ho (Obj.isFreed_of_dict (Obj.data_mapDictKeys hd _)),
   hc.mapDictKeys _,Obj.data_mapDictKeys hd _,by simp [he,entryOfKey],λx hx=>?_,?_⟩ (Heap.SameBut.update ..))))))
  ·rcases zq27.mp hx with hx | hx
   ·show knd.keeps (his x hx) ho hd (Heap.SameBut.update ..)
   ·rw [zq15.mp hx];show knd.keeps hkey ho hd (Heap.SameBut.update ..)
  ·rw [dN,zq92];show {hn,Oq,λx hx y hy e=>?_};simp only [List.map_cons,List.map_nil,List.mem_singleton] at hy;subst hy;show hnot (e ▸ hx)
 ·intro j p hj;let hat:=atKey_of_get hn hj;show zq2 (wpAny_dictEntries (s:={s with toks:=s.toks+knd.draws k}) ho hd ?_);rw [entry_at he j,hj];show zq2 (wpAny_rule (zq5 (h1 p hat)))
def n6{κ:Type}[DecidableEq κ](knd:HeapKind prog w κ)(d a:Addr)(hd:(d==sysModules)=false)(dflt:Value):
  MeetsIn prog w (Builtin.«dict.setdefault» {[.ref d,.ref a,dflt],[]}) (λA R s=>knd.room A.in1/\∃k xs,knd.is s.heap k a/\s.heap.DictOfH knd d xs/\xs.length<=sizeLine/\
   (∀p,atKey xs k=some p->R (.ok (.ret p.2)) {s with toks:=s.toks+knd.draws k})/\
   (atKey xs k=none->∀h',h'.DictOfH knd d (xs++[(k,a,dflt)])->Heap.SameBut d s.heap h'->R (.ok (.ret dflt)) {s with heap:=h',toks:=s.toks+knd.draws k})):=
 .of_wp λA R s ⟨hu,k,xs,hkey,hm,hz,h1,h2⟩=>by unfold Builtin.«dict.setdefault»;show zq2 ?_;unfold Builtin.Dict.keyAndDefault;show zq2 (wpAny_notOrdered_dict hm.typeIs ?_);change wpAny _ _ (pure (d,Value.ref a,some dflt)) _ _ s;show zq5 ?_;change wpAny _ _ (if (d==sysModules)=true then _ else (dictSetDefault d (.ref a) dflt >>= _)) _ _ s;rw [zq0 (by rw [hd];show zq6)];show zq2 (sH (hsz:=hz) hu hkey hm (λp hp=>zq5 {p.2,rfl,h1 p hp}) λhn h' hm' hs'=>zq5 {dflt,rfl,h2 hn h' hm' hs'})
def qR{od:Obj}{Q:Value->Shared->Prop}(hd:(d==sysModules)=false)(hod:s.heap.get? d=some od)(hx:od.ExactDict)
 (h:Q (.ref s.heap.objs.size) {s with heap:=s.heap.push {cls:=.type "dict_items",data:=.fields #[.ref d]}}):wpAny (model prog w) A (call (.builtin "dict.items") [.ref d]) Q E s:=by
 let hT:s.TypeIs (.ref d) "dict":=⟨od,hod,hx.1⟩
 let M:MeetsIn prog w (Builtin.«dict.items» ⟨[.ref d],[]⟩) (λ_ R s=>s.TypeIs (.ref d) "dict"/\R (.ok (.ret (.ref s.heap.objs.size))) {s with heap:=s.heap.push {cls:=.type "dict_items",data:=.fields #[.ref d]}}):=.of_wp λA R s ⟨hT,h⟩=>by unfold Builtin.«dict.items»;show zq2 ?_;unfold Builtin.Dict.noArgs;show zq2 (wpAny_notOrdered_dict hT ?_);change wpAny _ _ (pure d) _ _ s;show zq5 ?_;change wpAny _ _ (Builtin.Dict.showsAll d >>= _) _ _ s;unfold Builtin.Dict.showsAll;rw [zq0 (by rw [hd];show zq6)];show zq2 (zq5 ?_);show zq2 (wpAny_newObj_type (zq5 {_,rfl,h}))
 show call_meetsIn PySem.F.slot_dict_items hT PySem.F.entry_dict_items (PySem.F.args_dict_items_1 _) M ⟨hT,h⟩
def rJ{v d:Addr}{od:Obj}{es:Array DictEntry}{ep:Nat}{Q:Value->Shared->Prop}(hv:s.heap.IsItemsView v d)(ho:s.heap.get? d=some od)(hd:od.data=.dict es ep)
  (hQ:Q (.ref s.heap.objs.size) {s with heap:=s.heap.push {cls:=.type "dict_itemiterator",data:=.fields #[.none,.bool false,.ref d,.int 0 0,.int es.size 0,.int ep 0,.none,.none]}}) :
  wpAny (model prog w) A (pyIter (.ref v)) Q E s:=by
 obtain ⟨ov,hov,hcv,hdv⟩:=id hv;show wpAny_pyIter_slot hv.typeIs F.slot_dict_items_iter (wpAny_call_entry F.slot_dict_items_iter hv.typeIs F.entry_dict_items_iter ?_ (F.args_dict_items_iter_1 _));unfold Builtin.«dict_items.__iter__»;show zq2 (zq5 (zq2 ?_));unfold Builtin.Dict_items.dictOf;show zq2 (wpAny_field hov hdv (x:=.ref d) rfl (zq5 (zq2 ?_)));unfold Builtin.Dict_items.newIterator;show zq2 (wpAny_dictEntries ho hd (zq2 (wpAny_dictEpoch ho hd ?_)));rw [show Builtin.Dict_items.ownsTuple "dict_itemiterator"=true by decide];simp only [if_true];show wpAny_newObj_type (zq5 {_,rfl,"dict_itemiterator",_,{_,eg _ rfl,rfl},F.slot_dict_itemiterator_next.lookup,?_})
  (by simp only [sizeOk,Builtin.Dict_items.ownedTupleFields,List.size_toArray,List.length_append,List.length_cons,List.length_nil,sizeLine_eq];omega)
 simpa [rawInt,Builtin.Dict_items.ownedTupleFields] using hQ
def rY{it d:Addr}{i ep:Nat}{od:Obj}{es:Array DictEntry}{en:DictEntry}{ok ov:Value}{Q:N6->Shared->Prop}(hit:IsItemIter s.heap it d i es.size ep ok ov)
  (hod:s.heap.get? d=some od) (hdd:od.data=.dict es ep) (hx:es[i]?=some en)
  (hQ:∀h',IsItemIterOut h' it d (i+1) es.size ep en.key en.val s.heap.objs.size->h'.get? s.heap.objs.size=some {cls:=.type "tuple",data:=.seq #[en.key,en.val]}->h'.objs.size=s.heap.objs.size+1->
   (∀b o,b≠it->s.heap.get? b=some o->h'.get? b=some o)->Q (some (.ref s.heap.objs.size)) {s with heap:=h'}) :
  wpAny (model prog w) A (pyNext (.ref it)) Q E s:=by
 obtain ⟨hp,g,dr,tk,os⟩:=s;let hT:Shared.TypeIs ⟨hp,g,dr,tk,os⟩ (.ref it) "dict_itemiterator":={_,hit,rfl}
 let hown:Builtin.Dict_items.ownsTuple "dict_itemiterator"=true:=by decide
 let hlt:i<es.size:=(Array.getElem?_eq_some_iff.mp hx).1;unfold pyNext;show zq2 (wpAny_attempt (wpAny_callSpecial?_slot (name:=Str.ofString "__next__") hT F.slot_dict_itemiterator_next (wpAny_call_entry F.slot_dict_itemiterator_next hT F.entry_dict_itemiterator_next ?_ (F.args_dict_itemiterator_next_1 _))));show zq2 (zq5 (zq2 (zq2 ?_)))
 first | show zq2 (wpAny_typeNameOfWhole_itemiter hT (zq5 ?_)) | show zq2 (wpAny_typeNameOf_itemiter hT (zq5 ?_))
 show zq2 (wpAny_fieldsOf hit rfl ?_);simp only [hown,if_true];change wpAny _ _ (if (Value.ref d==Value.none)=true then _ else _) _ _ _;rw [zq0 (show ¬((Value.ref d==Value.none)=true) from zq6)];show zq2 (zq5 (zq2 (wpAny_dictEntries hod hdd ?_)));rw [zq0 Oq];show zq2 (zq5 (zq2 (wpAny_dictEpoch hod hdd ?_)));rw [zq0 Oq];show zq5 ?_;simp only [show ¬((i:Int)<0) from by omega,if_false,Int.toNat_natCast,hx];show zq2 ?_
 first | show zq2 (wpAny_typeNameOfWhole_itemiter hT (zq5 ?_)) | show zq2 (wpAny_typeNameOf_itemiter hT (zq5 ?_))
 show zq2 (wpAny_isOneOf_itemiter hT ?_);change wpAny _ _ (setField (.ref it) 3 (rawInt ((i:Int)+1)) >>= _) _ _ ⟨hp,g,dr,tk,os⟩;show zq2 (wpAny_setField_rec hit Oq λh₁ he₁ hs₁=>?_);replace hs₁:Heap.SameBut it hp h₁:=hs₁;replace he₁:IsItemIter h₁ it d (i+1) es.size ep ok ov:=by
  let e:((i+1:Nat):Int)=(i:Int)+1:=by omega
  unfold IsItemIter;rw [e];simpa [rawInt] using he₁
 let hT₁:Shared.TypeIs ⟨h₁,g,dr,tk,os⟩ (.ref it) "dict_itemiterator":={_,he₁,rfl}
 show zq2 (vi (zq2 (wpAny_isOneOf_itemiter hT₁ (zq2 (wpAny_isOneOf_itemiter hT₁ ?_)))));change wpAny _ _ (Builtin.Dict_items.pairFromOwner (.ref it) 6 en.key en.val) _ _ ⟨h₁,g,dr,tk,os⟩;unfold Builtin.Dict_items.pairFromOwner;show zq2 (wpAny_newTuple ?_);let he₂:IsItemIter (h₁.push {cls:=.type "tuple",data:=.seq #[en.key,en.val]}) it d (i+1) es.size ep ok ov:=cW _ he₁;let hz₁:h₁.objs.size=hp.objs.size:=hs₁.1;let hil:it<hp.objs.size:=cu hit;let ht₂:(h₁.push {cls:=.type "tuple",data:=.seq #[en.key,en.val]}).get? hp.objs.size=some {cls:=.type "tuple",data:=.seq #[en.key,en.val]}:=by rw [<- hz₁];show eg _ rfl
 let hz₂:(h₁.push {cls:=.type "tuple",data:=.seq #[en.key,en.val]}).objs.size=hp.objs.size+1:=by rw [vk,hz₁]
 let hk₂:∀b o,b≠it->hp.get? b=some o->(h₁.push {cls:=.type "tuple",data:=.seq #[en.key,en.val]}).get? b=some o:=λb o hb e=>cW _ (hs₁.extBut b o hb e);generalize h₁.push {cls:=.type "tuple",data:=.seq #[en.key,en.val]}=h₂ at he₂ ht₂ hz₂ hk₂ ⊢;change wpAny _ _ (Builtin.Dict_items.ownedTupleIsFree (.ref it) >>= _) _ _ ⟨h₂,g,dr,tk,os⟩;rw [hz₁];clear he₁ hs₁ hT₁ hz₁ h₁;show zq2 ?_;unfold Builtin.Dict_items.ownedTupleIsFree;show zq2 (wpAny_field he₂ rfl (x:=.none) rfl (zq5 ?_));simp only [if_true];show zq2 (wpAny_field he₂ rfl (x:=ok) rfl (zq2 (wpAny_field he₂ rfl (x:=ov) rfl ?_)));show zq2 (wpAny_setField_rec he₂ Oq λh₃ he₃ hs₃=>?_);replace hs₃:Heap.SameBut it h₂ h₃:=hs₃;replace he₃:IsItemIter h₃ it d (i+1) es.size ep en.key ov:=he₃;show zq2 (wpAny_setField_rec he₃ Oq λh₄ he₄ hs₄=>?_);replace hs₄:Heap.SameBut it h₃ h₄:=hs₄;replace he₄:IsItemIter h₄ it d (i+1) es.size ep en.key en.val:=he₄;show zq2 (wpAny_setField_rec he₄ Oq λh₅ he₅ hs₅=>?_);replace hs₅:Heap.SameBut it h₄ h₅:=hs₅;replace he₅:IsItemIterOut h₅ it d (i+1) es.size ep en.key en.val hp.objs.size:=he₅;show zq2 (wpAny_setField_rec he₅ Oq λh₆ he₆ hs₆=>?_);replace hs₆:Heap.SameBut it h₅ h₆:=hs₆;replace he₆:IsItemIterOut h₆ it d (i+1) es.size ep en.key en.val hp.objs.size:=he₆;let kp:∀b o,b≠it->h₂.get? b=some o->h₆.get? b=some o:=λb o hb e=>hs₆.extBut b o hb (hs₅.extBut b o hb (hs₄.extBut b o hb (hs₃.extBut b o hb e)));show zq2 (wpAny_letGo (zq5 (zq5 {_,rfl,zq5 (hQ h₆ he₆ (kp _ _ (vj hil) ht₂) ?_ λb o hb e=>kp b o hb (hk₂ b o hb e))})));change h₆.objs.size=hp.objs.size+1;rw [hs₆.1,hs₅.1,hs₄.1,hs₃.1,hz₂]
def uk{it:Addr}{i ep:Nat}{od:Obj}{es:Array DictEntry}{ok ov:Value}{Q:N6->Shared->Prop}(hh:A.handled=none)(hit:IsItemIter s.heap it d i es.size ep ok ov)
 (hod:s.heap.get? d=some od) (hdd:od.data=.dict es ep) (hx:es.size<=i)
 (hQ:∀h',Heap.ExtBut it s.heap h'->Q none {s with heap:=h'}):wpAny (model prog w) A (pyNext (.ref it)) Q E s:=by
 let hT:s.TypeIs (.ref it) "dict_itemiterator":={_,hit,rfl}
 let hown:Builtin.Dict_items.ownsTuple "dict_itemiterator"=true:=by decide
 unfold pyNext;show zq2 (wpAny_attempt (wpAny_callSpecial?_slot (name:=Str.ofString "__next__") hT F.slot_dict_itemiterator_next (wpAny_call_entry F.slot_dict_itemiterator_next hT F.entry_dict_itemiterator_next ?_ (F.args_dict_itemiterator_next_1 _))));show zq2 (zq5 (zq2 (zq2 ?_)))
 first | show zq2 (wpAny_typeNameOfWhole_itemiter hT (zq5 ?_)) | show zq2 (wpAny_typeNameOf_itemiter hT (zq5 ?_))
 show zq2 (wpAny_fieldsOf hit rfl ?_);simp only [hown,if_true];change wpAny _ _ (if (Value.ref d==Value.none)=true then _ else _) _ _ s;rw [zq0 (show ¬((Value.ref d==Value.none)=true) from zq6)];show zq2 (zq5 (zq2 (wpAny_dictEntries hod hdd ?_)));rw [zq0 Oq];show zq2 (zq5 (zq2 (wpAny_dictEpoch hod hdd ?_)));rw [zq0 Oq];show zq5 ?_;simp only [show ¬((i:Int)<0) from by omega,if_false,Int.toNat_natCast,Array.getElem?_eq_none hx];show zq2 ?_
 first | show zq2 (wpAny_typeNameOfWhole_itemiter hT (zq5 ?_)) | show zq2 (wpAny_typeNameOf_itemiter hT (zq5 ?_))
 change wpAny _ _ (setField (.ref it) 2 .none >>= _) _ _ s;show zq2 (wpAny_setField hit rfl Oq ?_);change wpAny _ _ (newExc (.type "StopIteration") [] >>= _) _ _ _;show zq2 ?_;simp only [newExc,newTuple];show zq2 (wpAny_newObj_type ?_ (by size_fits));show zq2 (m:=firstArgMember _ _) (wpAny_of_eq (a:=Value.none) (by first | rfl | (simp only [firstArgMember];rfl)) ?_);show wpAny_newObj_type ?_ (by size_fits);simp only [raiseNew];show zq2 (wpAny_handled ?_);rw [show A.in1.handled=none from hh];show zq2 (zq5 (wpAny_throw ?_));show zq2 (wpAny_isInstance (T:="StopIteration") (b:=true) {_,eg _ rfl,rfl} isSubtype_stop ?_);show zq5 (hQ _ (((Heap.SameBut.update ..).extBut.push _).push _))
end
end L2
namespace L2
variable {H:Hp} {Q:VK} {σ:St}
def oT(d:Addr)(o:Obj)(kvs:List (List Key×V)):It:=
  ⟨λi H=>H d=some (.frz o (.dT kvs))/\i<kvs.length,
   λi H x H'=>∃p k b v,x=.ref p/\H p=none/\H'=upd H p (.tup [.ref b,v])/\kvs[i]?=some (k,v)/\H b=some (.tup (k.map kV)),
   λi H=>H d=some (.frz o (.dT kvs))/\kvs.length<=i⟩
def Paired.at{α β:Type}{F:α->β->Prop}:∀{l:List α} {m:List β} {i:Nat} {x:α},Paired F l m->l[i]?=some x->∃y,m[i]?=some y/\F x y
 |_,_,_,_,.nil,e=>by simp at e
 |_,_,0,_,.cons r _,e=>by simp at e;subst e;show {_,rfl,r}
 |_,_,i+1,x,.cons _ t,e=>by obtain ⟨u,h1,h2⟩:=Paired.at (i:=i) (x:=x) t (by simpa using e);show {u,by simpa using h1,h2}
def NJ:=@Paired.at
def Ae{P:Program}{w:World}{H:Hp}{h:Heap}{d:Addr}{o:Obj}{kvs:List (List Key×V)}(ok:HOk P w H h)(e:H d=some (.frz o (.dT kvs))){es:Array DictEntry}{ep:Nat}(ho:o.data=.dict es ep):
  h.get? d=some o/\es.size=kvs.length/\∀(i:Nat)(k:List Key)(v:V),kvs[i]?=some (k,v)->∃(hs:Int)(b:Addr)(u:Value),es[i]?=some ({hs,.ref b,u}:DictEntry)/\H b=some (.tup (k.map kV))/\RelV v u:=by
 obtain ⟨e1,z,hd,xs,rel,o',es',ep',e2,ex,hdat,hes,hn⟩:=ok d _ e;rw [e1] at e2
 cases e2
 rw [ho] at hdat
 cases hdat
 show {e1,(size_of_entries hes).trans (Paired.length rel).symm,λi k v hk=>?_};obtain ⟨⟨k',b,u⟩,hx,h1,h2,h3⟩:=NJ rel hk;show {(tupleKind (bG P w)).hash k',b,u,?_,h2,h3};rw [entry_at hes i,hx];rfl
def ul:entryFor table "dict_itemiterator.__iter__"=some Builtin.«dict_keyiterator.__iter__»:=entryFor_alias (id':="dict_keyiterator.__iter__") Om rfl Ol Om
def ym{prog:Program}{w:World}{A:Around}{E:Value->Shared->Prop}{s:Shared}{it d:Addr}{i n ep:Nat}{ok ov:Value}{Q:Value->Shared->Prop}(he:IsItemIter s.heap it d i n ep ok ov)(h:Q (.ref it) s):wpAny (model prog w) A (pyIter (.ref it)) Q E s:=by
 let hT:s.TypeIs (.ref it) "dict_itemiterator":={_,he,rfl}
 show wpAny_pyIter_slot hT F.slot_dict_itemiterator_iter (wpAny_call_entry F.slot_dict_itemiterator_iter hT ul ?_ (F.args_dict_itemiterator_iter_1 _));change wpAny _ _ (ret (.ref it)) _ _ s;show zq5 {_,rfl,"dict_itemiterator",_,hT,F.slot_dict_itemiterator_next.lookup,h}
def uX{P:Program}{w:World}{K:N5}{elts:N4}{k0:Nat}{pos0:Pos}(d it:Addr)(o:Obj){es:Array DictEntry}{ep:Nat}(ho:o.data=.dict es ep)(kvs:List (List Key×V)):
  mU P w K (.Tuple elts k0 pos0) (oT d o kvs) [it] it (λi h=>∃ok ov,IsItemIter h it d i es.size ep ok ov) where
 mem:=by simp
 obj:=λi h ⟨ok,ov,he⟩ b hb=>by
  let e:b=it:=by simpa using hb
  subst e;show ⟨_,he,λv z=>by
   let z':Data.fields _=Data.cell v:=z
   cases z'⟩
 keep:=λi h h' ⟨ok,ov,he⟩ k=>{ok,ov,k it Oq _ he}
 item:=by
  intro X hP hw hK hc i pins s σ H E I hf st hg;subst hP hw hK;obtain ⟨ok,ov,he⟩:=st;obtain ⟨hg1,hi⟩:=hg;obtain ⟨hd,hsz,hat⟩:=Ae I.hok hg1 ho;obtain ⟨⟨k,v⟩,hk⟩:∃p,kvs[i]?=some p:={_,bN hi}
  obtain ⟨hs0,b,u,hen,hb,ru⟩:=hat i k v hk;obtain ⟨f0,f1,f2,f3,f4,f5⟩:=hf it Oq;show rY he hd ho hen λh1 ho1 hT hz1 hk1=>?_;show {_,rfl,wpAny_letOwnedTupleGo_items ho1 λh2 he2 hs2=>?_};replace hs2:Heap.SameBut it h1 h2:=hs2;let hlt:it<s.heap.objs.size:=cu he;let hk2:∀b o,b≠it->s.heap.get? b=some o->h2.get? b=some o:=λb o b1 q=>(hs2.2 b b1).trans (hk1 b o b1 q);let hT2:h2.get? s.heap.objs.size=some {cls:=.type "tuple",data:=.seq #[.ref b,u]}:=(hs2.2 _ (vj hlt)).trans hT;let hn:H s.heap.objs.size=none:=I.hok.fresh (zq4 _);let nE:∀b v,H b=some v->b≠it:=λb v q z=>by rw [z,f0] at q;cases q
  let ok2:HOk X.prog X.w H h2:=λb v q=>(I.hok b v q).stay (λc v' hc r=>by
   rcases hc with z | z
   ·show hk2 c v' (by rw [z];show nE b v q) r
   ·show hk2 c v' (nE c _ z) r) (λ_ r=>r) λ_ _ r=>r
  let ok3:HOk X.prog X.w (upd H s.heap.objs.size (.tup [.ref b,v])) h2:=λc w' q=>by
   by_cases hb':c=s.heap.objs.size
   ·subst hb';rw [ae] at q
    cases q
    show {by change 2<=sizeLine;decide,[.ref b,u],.cons rfl (.cons ru .nil),{_,hT2,rfl,_,rfl}}
   ·rw [ak hb'] at q;show (ok2 c w' q).stay (λc v' _ r=>r) (λc r=>by rw [ak (au r hn)];show r) λc ys r=>by rw [ak (au r hn)];show r
  let nlt:∀{b:Addr} {o:Obj},s.heap.get? b=some o->b≠s.heap.objs.size:=λq=>dG (cu q);let I2:Inv X pins σ (upd H s.heap.objs.size (.tup [.ref b,v])) {s with heap:=h2,toks:=s.toks}:=
   I.step (g':=s.gens) (d':=s.drawn) (ch:=[it]) (λb hb=>by rw [zq15.mp hb];show ⟨f3,f1,f4,f5⟩)
    (λb o _ _ hc q _=>hk2 b o (λz=>hc (by simp [z])) q)
    (λb o _ _ hc q _=>{o.slots,hk2 b o (λz=>hc (by simp [z])) q})
    (λb o _ q n=>by rw [ak (nlt q)];show n)
    (λb o hc q=>{o,hk2 b o (λz=>hc (by simp [z])) q})
    (λb ys q=>by rw [ak (au q hn)];show q) (λb o v q=>by rw [ak (au q hn)];show q) (λb ps q=>{#[],by rw [ak (au q hn),q];simp})
    (λm ⟨o,es,ep,hm,r⟩=>{o,es,ep,hk2 _ o (Ne.symm f1) hm,r}) ok3 I.bare
  show {.ref s.heap.objs.size,_,I2,rfl,{_,k,b,v,rfl,hn,rfl,hk,hb},{_,_,he2},λc hc=>?_};rw [zq15.mp hc,ak (dG hlt)];show f0
 done:=by intro X hP hw hK hc i pins s σ H E I hf st hg;subst hP hw hK;obtain ⟨ok,ov,he⟩:=st;obtain ⟨hg1,hi⟩:=hg;obtain ⟨hd,hsz,hat⟩:=Ae I.hok hg1 ho;obtain ⟨f0,f1,f2,f3,f4,f5⟩:=hf it Oq;show uk (I.ok.hd hc) he hd ho Oo λh' eb=>{rfl,I.turned (t':=s.toks) (λb o hb e=>eb b o hb e) f0 f1 f3 f4 f5}
 self:=λ_ _ _ _ _ ⟨_,_,he⟩ h=>ym he h
def pI(td:TE):TI:=λσ H R=>td σ H λx H1=>∃a kvs,x=.ref a/\H1 a=some (.dT kvs)/\∀o,R (oT a o kvs) (upd H1 a (.frz o (.dT kvs)))
def yG{X:Cx}{o:Expr}{td:TE}{apos pos pos0:Pos}{elts:N4}{k0:Nat}(ho:PE X o td)(hbase:attributeBase o "items" X.env (eval o X.env)=eval o X.env:=by rfl) (hline:(apos.endLine==pos.line)=true:=by rfl) :
  PI X (.Tuple elts k0 pos0) (.Call (.Attribute o "items" apos) [] [] pos) (pI td):=by
 intro pins s σ H R I h;show wpAny_Call_method0_late hbase hline (thn (ho pins s σ H _ I h) λv s1 hhx=>?_);obtain ⟨x,H1,I1,r1,a,kvs,ex,e,q1⟩:=hhx;subst ex
 cases r1
 obtain ⟨h1,h2⟩:=CI (T:="dict") I1 (show RelV (.ref a) (.ref a) from rfl) (.inr (.inr (.inl {rfl,.inr ⟨kvs,e⟩})));show {"dict",_,PySem.F.plainAttrs_dict,PySem.F.slot_dict_items,PySem.F.type_dict_items,h1,h2,Calls.callWith_builtin rfl (PySem.evalArgs_none ?_)};let okd:=I1.hok a _ e;obtain ⟨z,hd,xs,rel,od,es,ep,g1,g2,g3,g4,g5⟩:=id okd;show qR hd g1 g2 ?_;show rJ (es:=es) (ep:=ep) {_,eg _ rfl,rfl,rfl} (cW _ g1) g3 ?_;let I2:Inv X pins σ (upd H1 a (.frz od (.dT kvs))) {s1 with heap:=s1.heap,toks:=s1.toks}:=I1.write (x:=a) (e:=a) (by rw [e];show True.intro) (.inl rfl) (λb u _ q=>q) ⟨od,g1⟩ {g1,okd.stay (λ_ _ _ q=>q) (λb q=>by rw [ak (aO q e (λz=>nomatch z))];show q) λb ys q=>by rw [ak (aO q e (λz=>nomatch z))];show q}
 let I3:=I2.kept (h':=s1.heap.push {cls:=.type "dict_items",data:=.fields #[.ref a]}) (t':=s1.toks) λb o e=>cW _ e;show {_,[_],_,_,_,rfl,I3.kept (t':=s1.toks) λb o e=>cW _ e,uX a _ od g3 kvs,{_,_,eg _ rfl},λb hb=>?_,q1 od};rw [zq15.mp hb];show I3.fpOk (zq4 _) (I3.hok.fresh (zq4 _))
def vf{X:Cx}{o:Expr}{td:TE}{apos pos pos0:Pos}{elts:N4}{k0:Nat}(ho:XE X o td)(hbase:attributeBase o "items" X.env (eval o X.env)=eval o X.env:=by rfl) (hline:(apos.endLine==pos.line)=true:=by rfl) :
  XI X (.Tuple elts k0 pos0) (.Call (.Attribute o "items" apos) [] [] pos) (pI td):={yG ho.h hbase hline}
def yM{td:TE}{R:It->Hp->Prop}:pI td σ H R=td σ H λx H1=>∃a kvs,x=.ref a/\H1 a=some (.dT kvs)/\∀o,R (oT a o kvs) (upd H1 a (.frz o (.dT kvs))):=rfl
def Af{d:Addr}{o:Obj}{kvs:List (List Key×V)}{g:TG}{tb:TS}{D:dJ}(Pv:Nat->St->Hp->Prop)(h0:Pv 0 σ H)(hl:∀i σ H,i<=kvs.length->Pv i σ H->H d=some (.frz o (.dT kvs)))
 (hs:∀(i:Nat)k v b σ H p,kvs[i]?=some (k,v)->H b=some (.tup (k.map kV))->H p=none->Pv i σ H->g (.ref p) σ (upd H p (.tup [.ref b,v])) λσ2 H2=>tb {D with nx:=Pv (i+1),ct:=Pv (i+1),bk:=D.nx} σ2 H2) (hd:∀σ H,Pv kvs.length σ H->D.nx σ H):kj (oT d o kvs) g tb D σ H:=by
 show {λi m σ H=>m=kvs.length-i/\i<=kvs.length/\Pv i σ H,{kvs.length,Oq,cE _,h0},?_};rintro i m σ H ⟨rfl,hi,p⟩;let q:=hl i σ H hi p
 by_cases hlt:i<kvs.length
 ·show .inr {⟨q,hlt⟩,Pv (i+1),λσ' H' p'=>{kvs.length-(i+1),Oo,rfl,hlt,p'},λx H' y=>?_};obtain ⟨pp,k,b,v,ex,hn,eH,hk,hb⟩:=y;subst ex eH;show hs i k v b σ H pp hk hb hn p
 ·obtain rfl:i=kvs.length:=by omega
  show .inl {{q,zq4 _},hd σ H p}
section
variable {X:Cx}
def Fu:V->N7->Hp->VK->Prop:=λx vs H Q=>∃(l b:Addr)(kvs:List (List Key×V)) (k:List Key) (v:V),x=.ref l/\vs=[.ref b,v]/\H l=some (.dT kvs)/\H b=some (.tup (k.map kV))/\kvs.length<sizeLine/\
 (∀y,cn kvs k=some y->Q y H)/\(cn kvs k=none->Q v (upd H l (.dT (kvs++[(k,v)]))))
def n9(hu:X.A.units+1<cLine):MtM X "dict.setdefault" Fu:=by
 intro pins s σ H x vs u us Q I rx rv h;obtain ⟨l,b,kvs,k,v,rfl,rfl,hl,hb,hz,q1,q2⟩:=h
 cases rx
 obtain ⟨u1,u2,rfl,r1,r2⟩:=tI rv
 cases r1
 obtain ⟨z,hd,xs,rel,dd⟩:=A7 I.hok hl;let hlen:=Paired.length rel;show call_meetsIn PySem.F.slot_dict_setdefault dd.typeIs PySem.F.entry_dict_setdefault (PySem.F.args_dict_setdefault_3 _ _ _) (n6 (tupleKind (bG X.prog X.w)) l b hd u2) {tupleKind_room_in1 hu,k,xs,jA I.hok hb,dd,Oo,λp hp=>?_,λhn h' dd' hs=>?_}
 ·let rk:=rel.val k;rw [hp] at rk
  cases hv:cn kvs k with
  |none=>rw [hv] at rk;show rk.elim
  |some y=>rw [hv] at rk;show {y,H,I.tok _,rk,q1 y hv}
 ·let rk:=rel.val k;rw [hn] at rk;let hv:cn kvs k=none:=by
   cases hv:cn kvs k with
   |none=>rfl
   |some y=>rw [hv] at rk;show rk.elim
  obtain ⟨q,es,ep,hq,h2,h3,h4,_,h5⟩:=dd';show {v,_,iQ (ob:=.dT (kvs++[(k,v)])) I (by rw [hl];show True.intro) hs ⟨q,hq⟩ {by rw [bW,dc];omega,hd,_,KT.keeps (Paired.snoc rel ⟨rfl,hb,r2⟩) λc ys ec=>?_,q,es,ep,hq,h2,h3,h4,h5},r2,q2 hv};rw [ak (aO ec hl (λz=>nomatch z))];show ec
def Iu{l b:Addr}{v:V}:Fu (.ref l) [.ref b,v] H Q=∃(kvs:List (List Key×V)) (k:List Key),H l=some (.dT kvs)/\H b=some (.tup (k.map kV))/\kvs.length<sizeLine/\
  (∀y,cn kvs k=some y->Q y H)/\(cn kvs k=none->Q v (upd H l (.dT (kvs++[(k,v)])))):=propext {by rintro ⟨_,_,kvs,k,_,e1,e2,q⟩;cases e1;cases e2;show ⟨kvs,k,q⟩,by rintro ⟨kvs,k,q⟩;show ⟨l,b,kvs,k,v,rfl,rfl,q⟩}
def xt(tk tv:TE):TE:=λσ H Q=>∀p,H p=none->tk σ (upd H p (.dT [])) λx H1=>tv σ H1 λy H2=>H2 p=some (.dT [])/\∃(b:Addr)(k:List Key),x=.ref b/\H2 b=some (.tup (k.map kV))/\Q (.ref p) (upd H2 p (.dT [(k,y)]))
def va{pos:Pos}{ke ve:Expr}{tk tv:TE}(hu:X.A.units+1<cLine)(hk:XE X ke tk)(hv:XE X ve tv):XE X (.Dict [some ke] [ve] pos) (xt tk tv):=⟨by
 intro pins s σ H Q I q;let hn:=I.hok.fresh (zq4 s.heap.objs.size);let I1:=I.laid (a:=s.heap.objs.size) (o:=.dT []) (h':=s.heap.push {cls:=.type "dict",data:=.dict #[]}) (t':=s.toks) (λ_ _ q=>cW _ q) (zq4 _) (rj s.heap I.big);show wpAny_Dict_any rfl rfl Oq Oq ?_;show pairTrees_cons_walk (thn (hk.h pins _ σ _ _ I1 (q _ hn)) λu s1 ⟨x,H1,J1,rx,q1⟩=>thn (hv.h pins s1 σ H1 _ J1 q1) λw2 s2 ⟨y,H2,J2,ry,q2⟩=>pairTrees_nil_walk ?_);obtain ⟨e,b,k,ex,hb,q3⟩:=q2;subst ex
 cases rx
 unfold storeAll;rw [D3];obtain ⟨z,hd,xs,rel,dd⟩:=A7 J2.hok e
 cases rel
 show zq2 (zq2 (wpAny_dictSet_heap (hsz:=cE _) (show X.A.units<cLine by omega) (jA J2.hok hb) dd λh' dd' hs=>zq5 ?_));dsimp only;rw [List.forIn_nil];show zq5 {.ref s.heap.objs.size,_,?_,rfl,q3};obtain ⟨q,es,ep,hq,h2,h3,h4,_,h5⟩:=dd';show iQ J2 (by rw [e];show True.intro) hs ⟨q,hq⟩ {by change 1<=sizeLine;decide,hd,_,.cons {rfl,?_,ry} .nil,q,es,ep,hq,h2,h3,h4,h5};change upd H2 s.heap.objs.size _ b=_;rw [ak (aO hb e (λz=>nomatch z))];show hb⟩
def Bv{tk tv:TE}:xt tk tv σ H Q=∀p,H p=none->tk σ (upd H p (.dT [])) λx H1=>tv σ H1 λy H2=>H2 p=some (.dT [])/\∃(b:Addr)(k:List Key),x=.ref b/\H2 b=some (.tup (k.map kV))/\Q (.ref p) (upd H2 p (.dT [(k,y)])):=rfl
def zo{pos:Pos}:XE X (.Dict [] [] pos) Cz:={λpins s σ H Q I h=>wpAny_Dict_empty {.ref s.heap.objs.size,_,I.laid (a:=s.heap.objs.size) (o:=.dT []) (t':=s.toks) (λ_ _ q=>cW _ q) (zq4 _) (rj s.heap I.big),rfl,h _ (I.hok.fresh (zq4 _))}}
def EB:Cz σ H Q=∀p,H p=none->Q (.ref p) (upd H p (.dT [])):=rfl
end
end L2
namespace L2
section
variable {prog:Program} {w:World} {A:Around} {E:Value->Shared->Prop} {s:Shared}
def qX{Q:N1->Shared->Prop}{r:Addr}{a b c:Int}{t u v:Tok}{n:Nat}(hh:A.handled=none)(hr:IsRange s.heap r a b c t u v)(hsmall:Builtin.Range.small a b c=true)(hn:Builtin.Range.rangeSize a b c=n)(hlen:n<=2 ^ 24)
  (hQ:∀h' tk acc,(∀b o,s.heap.get? b=some o->h'.get? b=some o)->ItemsOf (λi v=>∃t,v=.int (a+i * c) t) acc n->Q acc.toList {s with heap:=h',toks:=tk}):wpAny (model prog w) A (collect (.ref r)) Q E s:=by
 unfold collect;show zq2 (wpAny_runValue (D7 F.entry_proto_collect ?_));rw [Around.under_plainId F.plain_proto_collect _];change wpAny _ A.in1 (newList [] >>= λl=>again (.builtin "list.__iadd__" {[l,.ref r],[]})) _ _ s;show zq2 (wpAny_newObj_type ?_);show zq5 {plainId_quiet F.plain_list_iadd _,D7 F.entry_list_iadd ?_};rw [Around.under_plainId F.plain_list_iadd _];change wpAny _ A.in1 (Builtin.List.listExtendWith (.ref s.heap.objs.size) (.ref r) (.ref s.heap.objs.size)) _ _ _;let hS:(s.heap.push {cls:=.type "list",data:=.seq ([]:N1).toArray}).get? s.heap.objs.size=some {cls:=.type "list",data:=.seq #[] 0}:=eg _ rfl;show jn (wpAny_extend_range (A:=A) (s:={s with heap:=s.heap.push {cls:=.type "list",data:=.seq ([]:N1).toArray}}) (R:=λr' s'=>∃h' tk acc c',r'=.ok (.ret (.ref s.heap.objs.size))/\s'={s with heap:=h',toks:=tk}/\(∀b o,s.heap.get? b=some o->h'.get? b=some o)/\
   h'.get? s.heap.objs.size=some {cls:=.type "list",dict:=none,data:=.seq acc c',slots:=#[]}/\ItemsOf (λi v=>∃t,v=.int (a+i * c) t) acc n) hh (cW _ hr) hsmall hn hlen _ _ _ hS
  λh' tk acc c' hk hS' hacc=>{h',tk,acc,c',rfl,rfl,λb o e=>hk b o (dG (cu e)) (cW _ e),hS',hacc}) (λfin s' h=>?_) (λe s' h=>?_)
 ·let fin':∀s' r',(∃h' tk acc c',r'=(Except.ok (.ret (.ref s.heap.objs.size)):Result)/\s'={s with heap:=h',toks:=tk}/\(∀b o,s.heap.get? b=some o->h'.get? b=some o)/\
   h'.get? s.heap.objs.size=some {cls:=.type "list",dict:=none,data:=.seq acc c',slots:=#[]}/\ItemsOf (λi v=>∃t,v=.int (a+i * c) t) acc n)->wpAny (model prog w) A (match Value.ref s.heap.objs.size with
   |Value.ref a=>do
    match (<- load a).data with
     |Data.seq xs _=>pure xs.toList
     |_=>unsupported "internal:collect"
   |_=>unsupported "internal:collect") Q E s':=by
   rintro s' r' ⟨h',tk,acc,c',_,rfl,hk,hS',hacc⟩;change wpAny _ A (load s.heap.objs.size >>= _) _ _ _;show zq2 (wpAny_load hS' ?_);show zq5 (hQ h' tk acc hk hacc)
  cases fin with
  |done f=>
   obtain ⟨h',tk,acc,c',e,r⟩:=id h
   cases e
   show fin' _ _ h
  |again c'=>show {h.1,codeAny_mono h.2 λr s'' hr=>by obtain ⟨h',tk,acc,c',e,r⟩:=id hr;subst e;show fin' _ _ hr}
 ·obtain ⟨_,_,_,_,e,_⟩:=h
  cases e
def kq(r:Addr)(n:Nat)(hlen:n<=1000):
  Meets (Builtin.«tuple.__new__» {[.type "tuple",.ref r],[]})
   (λA R s=>A.handled=none/\(∃t u v,IsRange s.heap r 0 n 1 t u v)/\∀(h':Heap)(tk:Nat)(acc:Array Value),(∀b o,s.heap.get? b=some o->h'.get? b=some o)->ItemsOf (λi v=>∃t,v=.int (0+i * 1) t) acc n->
    R (.ok (.ret (.ref h'.objs.size))) {s with heap:=h'.push {cls:=.type "tuple",data:=.seq acc},toks:=tk}):=
 .of_wp λprog w A R s h=>by
  obtain ⟨hh,⟨t,u,v,hr⟩,h⟩:=h;let hsub:=sub_tuple_self;let hinit:=init_tuple_lookup;let hmh:=madeHere_tuple;let hT:s.TypeIs (.ref r) "range":={_,hr,rfl}
  let hh1:A.in1.handled=none:=hh;let hsm:Builtin.Range.small 0 n 1=true:=small_one Oo Oo Oo Oo;let hsz:Builtin.Range.rangeSize 0 n 1=n:=by rw [rangeSize_one];split<;>omega +splitNatSub
  wp_walk using AutoSeq1.wpAny_loadPart' hr,wpAny_typeOf hT,qX hh1 hr hsm hsz (bF hlen On)
  intro h' tk acc hk hacc;change wpAny _ _ (Builtin.Tuple.tupleExact acc.toList.toArray >>= λv=>ret v) _ _ _;unfold Builtin.Tuple.tupleExact;show zq2 (wpAny_newObj_type ?_ (show acc.toList.toArray.size<=sizeLine by simp only [Array.toArray_toList];rw [hacc.1,bB];omega));show zq5 {_,rfl,?_};let e:acc.toList.toArray=acc:=by simp
  rw [e];show h h' tk acc hk hacc
def lh{r:Addr}{n:Nat}{t u v:Tok}{Q:Value->Shared->Prop}(hh:A.handled=none)(hlen:n<=1000)(hr:IsRange s.heap r 0 n 1 t u v)
  (h:∀(h':Heap)(tk:Nat)(acc:Array Value),(∀b o,s.heap.get? b=some o->h'.get? b=some o)->ItemsOf (λi v=>∃t,v=.int (0+i * 1) t) acc n->Q (.ref h'.objs.size) {s with heap:=h'.push {cls:=.type "tuple",data:=.seq acc},toks:=tk}) :
  wpAny (model prog w) A (call (.type "tuple") [.ref r]) Q E s:=
 callType_new F.called_tuple On (F.typeCall_tuple_1 _) (F.newCall_tuple_1 _) (λobj=>F.args_object_init_2 obj _) F.entry_tuple_new
  (kq r n hlen) {hh,⟨t,u,v,hr⟩,λh' tk acc hk hacc=>{{_,eg _ rfl,rfl},h h' tk acc hk hacc}}
end
section
variable {X:Cx}
def qg(ta:TA):TE:=λσ H Q=>ta σ H λvs H1=>∃n:Nat,vs=[.int n]/\n<=1000/\∀l,H1 l=none->Q (.ref l) (upd H1 l (.tup ((List.range n).map λi:Nat=>V.int i)))
def yF{a:Expr}{ta:TA}{p p2 pos pos2:Pos}(hc:X.calm=true)(hm:X.mg "tuple"=none) (hm2:X.mg "range"=none) (ha:PA X [a] ta) (hg:Gl X "tuple") (hg2:Gl X "range") (hs:starEach [a] X.env=[(false,eval a X.env)]:=by rfl)
  (hs2:starEach [.Call (.Name "range" p2) [a] [] pos2] X.env=[(false,eval (.Call (.Name "range" p2) [a] [] pos2) X.env)]:=by rfl) :
  PE X (.Call (.Name "tuple" p) [.Call (.Name "range" p2) [a] [] pos2] [] pos) (qg ta):=by
 intro pins s σ H Q I h;show Call_ (fD I hg hm boot_tuple (Nt ?_ hs2 rfl));rw [hs2];change wpAny _ _ (spliced ((false,eval (.Call (.Name "range" p2) [a] [] pos2) X.env)::[])) _ _ s;show Calls.spliced_cons (Call_ (fD I hg2 hm2 boot_range (Nt (thn (ha pos2 pins s σ H _ I h) λus s1 hhx=>?_) hs rfl)));obtain ⟨vs,H1,I1,r1,q1⟩:=hhx;obtain ⟨n,e,hn,q⟩:=q1;subst e
 cases r1 with
 |cons r rr=>
  cases rr
  obtain ⟨t,rfl⟩:=r;show call_range_1 (Calls.spliced_nil ?_);show lh (n:=n) (I.ok.hd hc) hn (IsRange.new ..) λh' tk acc hk hacc=>?_;let kp:∀b u,s1.heap.get? b=some u->h'.get? b=some u:=λb u e=>hk b u (cW _ e);let I2:Inv X pins σ H1 {s1 with heap:=h',toks:=tk}:=I1.kept kp;show {.ref h'.objs.size,_,I2.laid (t':=tk) (λb u e=>cW _ e) (zq4 _) (show ObjOk X.prog X.w _ _ _ (.tup ((List.range n).map λi:Nat=>V.int i)) from {by rw [zq3,fi,bB];omega,acc.toList,yk hacc,?_}),rfl,q _ (I2.hok.fresh (zq4 _))};let e:=IsTup.new h' acc;simpa using e
def vd{a:Expr}{ta:TA}{p p2 pos pos2:Pos}(hc:X.calm=true)(hm:X.mg "tuple"=none) (hm2:X.mg "range"=none) (ha:XA X [a] ta) (hg:Gl X "tuple") (hg2:Gl X "range") (hs:starEach [a] X.env=[(false,eval a X.env)]:=by rfl)
  (hs2:starEach [.Call (.Name "range" p2) [a] [] pos2] X.env=[(false,eval (.Call (.Name "range" p2) [a] [] pos2) X.env)]:=by rfl) :
  XE X (.Call (.Name "tuple" p) [.Call (.Name "range" p2) [a] [] pos2] [] pos) (qg ta):={yF hc hm hm2 ha.h hg hg2 hs hs2}
def BL{ta:TA}{σ:St}{H:Hp}{Q:VK}:qg ta σ H Q=ta σ H λvs H1=>∃n:Nat,vs=[.int n]/\n<=1000/\∀l,H1 l=none->Q (.ref l) (upd H1 l (.tup ((List.range n).map λi:Nat=>V.int i))):=rfl
end
section
variable {prog:Program} {w:World} {A:Around} {E:Value->Shared->Prop} {s:Shared} {l I S:Addr} {vs:N1} {ln:Nat->Nat} {dv:Value} {R:Result->Shared->Prop}
end
section
variable {X:Cx}
end
end L2
end
namespace GD
section
variable {G:Nat->Nat->Option Int} {so:Nat->Nat} {U:Nat->Int} {n:Nat}
end
end GD
section
open PySem PySem.Spec PyProof.Rows
namespace L2
def xv:∀{xs:N7} {us:N1},us.length=xs.length->(∀(j:Nat)(v:Value),us[j]?=some v->∃x,xs[j]?=some x/\RelV x v)->Vals xs us
 | [],[],_,_=>.nil
 | [],_::_,h,_=>by simp at h
 |_::_,[],h,_=>by simp at h
 |x::xs,u::us,h,hv=>by
  obtain ⟨y,e,r⟩:=hv 0 u rfl
  cases e
  show .cons r (xv (by simpa using h) λj v hj=>?_);obtain ⟨y,e,r⟩:=hv (j+1) v (by simpa using hj);show {y,by simpa using e,r}
def Fn{P:Program}{w:World}{k:Key}{v:Value}(h:(bG P w).is k v=true):RelV (kV k) v:=by
 cases k with
 |inl i=>show Value.isInt_shape h
 |inr x=>show Value.isStrOf_shape h
section
variable {X:Cx}
end
end L2
namespace L2
variable {H:Hp}
def vv(d:Addr)(o:Obj)(kvs:List (Key×V)):It:=
 {λi H=>H d=some (.frz o (.dK kvs))/\i<kvs.length,λi H x H'=>H'=H/\∃k v,kvs[i]?=some (k,v)/\x=kV k,λi H=>H d=some (.frz o (.dK kvs))/\kvs.length<=i}
def Ac{P:Program}{w:World}{h:Heap}{d:Addr}{o:Obj}{kvs:List (Key×V)}{es:Array DictEntry}{ep:Nat}(ok:HOk P w H h)(e:H d=some (.frz o (.dK kvs)))(ho:o.data=.dict es ep):∃vs,KV kvs vs/\h.DictAt (bG P w) d vs ep:=by
 obtain ⟨e1,z,hd,vs,rel,o',es',ep',e2,r⟩:=ok d _ e;rw [e1] at e2
 cases e2
 obtain ⟨r1,r2,r3⟩:=id r;rw [ho] at r2
 cases r2
 show ⟨vs,rel,o,es,e1,r⟩
def ze{P:Program}{w:World}{K:N5}{tg:Expr}(d it:Addr)(o:Obj){es:Array DictEntry}{ep:Nat}(ho:o.data=.dict es ep)(kvs:List (Key×V)):mU P w K tg (vv d o kvs) [it] it (λi h=>h.IsKeyIter it d i kvs.length ep) where
 mem:=by simp
 obj:=λi h st b hb=>by
  let e:b=it:=by simpa using hb
  subst e;obtain ⟨o,e,c,d⟩:=st;show {o,e,λv z=>by rw [d] at z;cases z}
 keep:=λi h h' st k=>st.at λo e=>k it Oq o e
 item:=by
  intro X hP hw hK hc i pins s σ H E I hf st hg;subst hP hw hK;obtain ⟨hg1,hi⟩:=hg;obtain ⟨vs,rel,hm⟩:=Ac I.hok hg1 ho;let hl:=rel.length;obtain ⟨⟨k,v⟩,hk⟩:∃p,kvs[i]?=some p:={_,bN hi}
  obtain ⟨⟨k',v'⟩,hk',e1,_⟩:=NJ rel hk
  cases (show k=k' from e1)
  obtain ⟨f0,f1,f2,f3,f4,f5⟩:=hf it Oq;rw [hl] at st;show wpAny_pyNext_dict_item st hm hk' λkey h' hkey st' sb=>?_;let I1:Inv X pins σ H {s with heap:=h'}:=I.turned (t':=s.toks) (λb o hb e=>(sb.2 b hb).trans e) f0 f1 f3 f4 f5;obtain ⟨o2,e2,c2,d2⟩:=id st';rw [<- hl] at st';show {key,rfl,rC (s:={s with heap:=h'}) e2 c2 d2 On {kV k,H,I1,Fn hkey,⟨rfl,k,v,hk,rfl⟩,st',λb hb=>(hf b hb).1}}
 done:=by intro X hP hw hK hc i pins s σ H E I hf st hg;subst hP hw hK;obtain ⟨hg1,hi⟩:=hg;obtain ⟨vs,rel,hm⟩:=Ac I.hok hg1 ho;let hl:=rel.length;obtain ⟨f0,f1,f2,f3,f4,f5⟩:=hf it Oq;rw [hl] at st;show wpAny_pyNext_dict_end (I.ok.hd hc) st hm (vp Oo) λh' eb=>{rfl,I.turned (t':=s.toks) (λb o hb e=>eb b o hb e) f0 f1 f3 f4 f5}
 self:=λ_ _ _ _ _ st h=>wpAny_pyIter_keyiter st h
def Fj(td:TE):TI:=λσ H R=>td σ H λx H1=>∃a kvs,x=.ref a/\H1 a=some (.dK kvs)/\∀o,R (vv a o kvs) (upd H1 a (.frz o (.dK kvs)))
def CS{X:Cx}{tg o:Expr}{td:TE}(ho:XE X o td):XI X tg o (Fj td):=⟨by
 intro pins s σ H R I h;show thn (ho.h pins s σ H _ I h) λv s1 hhx=>?_;obtain ⟨x,H1,I1,r1,a,kvs,ex,e,q1⟩:=hhx;subst ex
 cases r1
 let okd:=I1.hok a _ e;obtain ⟨z,hd,vs,rel,od,es,ep,g1,g2⟩:=id okd;let hl:=rel.length;let hat:s1.heap.DictAt (bG X.prog X.w) a vs ep:=⟨od,es,g1,g2⟩
 show wpAny_pyIter_dict hd hat ?_;let I2:Inv X pins σ (upd H1 a (.frz od (.dK kvs))) {s1 with heap:=s1.heap,toks:=s1.toks}:=I1.write (x:=a) (e:=a) (by rw [e];show True.intro) (.inl rfl) (λb u _ q=>q) ⟨od,g1⟩ {g1,okd.stay (λ_ _ _ q=>q) (λb q=>by rw [ak (aO q e (λz=>nomatch z))];show q) λb ys q=>by rw [ak (aO q e (λz=>nomatch z))];show q}
 show {_,[_],_,_,_,rfl,I2.kept (t':=s1.toks) λb o e=>cW _ e,ze a _ od g2.2.1 kvs,?_,λb hb=>?_,q1 od}
 ·rw [hl];show {_,eg _ rfl,rfl,rfl}
 ·rw [zq15.mp hb];show I2.fpOk (zq4 _) (I2.hok.fresh (zq4 _))⟩
def EH{td:TE}{σ:St}{R:It->Hp->Prop}:Fj td σ H R=td σ H λx H1=>∃a kvs,x=.ref a/\H1 a=some (.dK kvs)/\∀o,R (vv a o kvs) (upd H1 a (.frz o (.dK kvs))):=rfl
def DQ{d:Addr}{o:Obj}{kvs:List (Key×V)}{g:TG}{tb:TS}{D:dJ}{σ:St}(Pv:Nat->St->Hp->Prop)(h0:Pv 0 σ H)(hl:∀i σ H,i<=kvs.length->Pv i σ H->H d=some (.frz o (.dK kvs)))
 (hs:∀(i:Nat)k v σ H,kvs[i]?=some (k,v)->Pv i σ H->g (kV k) σ H λσ2 H2=>tb {D with nx:=Pv (i+1),ct:=Pv (i+1),bk:=D.nx} σ2 H2) (hd:∀σ H,Pv kvs.length σ H->D.nx σ H):kj (vv d o kvs) g tb D σ H:=by
 show {λi m σ H=>m=kvs.length-i/\i<=kvs.length/\Pv i σ H,{kvs.length,Oq,cE _,h0},?_};rintro i m σ H ⟨rfl,hi,p⟩;let q:=hl i σ H hi p
 by_cases hlt:i<kvs.length
 ·show .inr {⟨q,hlt⟩,Pv (i+1),λσ' H' p'=>{kvs.length-(i+1),Oo,rfl,hlt,p'},λx H' y=>?_};obtain ⟨eH,k,v,hk,ex⟩:=y;subst eH ex;show hs i k v σ H' hk p
 ·obtain rfl:i=kvs.length:=by omega
  show .inl {{q,zq4 _},hd σ H p}
end L2
namespace L2
def Itz(K:N5)(a b:Addr):It:=
  ⟨λi H=>∃xs ys x y,SqL K H a xs/\SqL K H b ys/\xs[i]?=some x/\ys[i]?=some y,
   λi H z H'=>∃p x y,z=.ref p/\H p=none/\H'=upd H p (.tup [x,y])/\(∀xs,SqL K H a xs->xs[i]?=some x)/\∀ys,SqL K H b ys->ys[i]?=some y,
   λi H=>∃xs ys,SqL K H a xs/\SqL K H b ys/\(xs.length<=i\/ys.length<=i)⟩
def IU(z ti to i1 i2 a b:Addr)(i:Nat)(h:Heap):Prop:=IsZip h z ti to .none/\IsPair h ti (.ref i1) (.ref i2)/\(∃u v,IsPair h to u v)/\h.IsListIter i1 a i/\h.IsListIter i2 b i
def CH{P:Program}{w:World}{K:N5}{elts:N4}{k0:Nat}{pos0:Pos}{z ti to i1 i2 a b:Addr}(D:ZipApart z ti to i1 i2 a b):
  mU P w K (.Tuple elts k0 pos0) (Itz K a b) [z,ti,to,i1,i2] z (IU z ti to i1 i2 a b) where
 mem:=by simp
 obj:=λi h ⟨h1,h2,⟨u,v,h3⟩,h4,h5⟩ c hc=>by
  simp only [List.mem_cons,List.not_mem_nil,or_false] at hc;rcases hc with rfl | rfl | rfl | rfl | rfl
  ·show {_,h1,λv e=>by cases (show Data.fields _=Data.cell v from e)}
  ·show {_,h2,λv e=>by cases (show Data.seq _ _=Data.cell v from e)}
  ·show {_,h3,λv e=>by cases (show Data.seq _ _=Data.cell v from e)}
  ·obtain ⟨o,q,_,d⟩:=h4;show {o,q,λv e=>by rw [d] at e;cases e}
  ·obtain ⟨o,q,_,d⟩:=h5;show {o,q,λv e=>by rw [d] at e;cases e}
 keep:=λi h h' ⟨h1,h2,⟨u,v,h3⟩,h4,h5⟩ k=>{k z Oq _ h1,k ti Oq _ h2,{u,v,k to Oq _ h3},h4.at λo q=>k i1 Oq o q,h5.at λo q=>k i2 Oq o q}
 item:=by
  intro X hP hw hK hc i pins s σ H E I hf st hg;subst hP hw hK;obtain ⟨xs,ys,x,y,hqx,hqy,hx,hy⟩:=hg;obtain ⟨its,rv,p,hzz⟩:=I.list hqx;obtain ⟨ots,rw',p',hzz'⟩:=I.list hqy;obtain ⟨u,hu,ru⟩:=rv.get hx;obtain ⟨v,hv,rv'⟩:=rw'.get hy;obtain ⟨hz,hti,⟨oa,ob,hto⟩,hi1,hi2⟩:=st;let hf0:∀c∈[z,ti,to,i1,i2],H c=none:=λc hc=>(hf c hc).1;show wpAny_pyNext_zip_item D hz hti hto hi1 hi2 p.isList p'.isList (x:=u) (y:=v) (by simpa using hu) (by simpa using hv) λh1 z1 t1 a1 a2 t2 hsz hk=>?_;show {_,rfl,wpAny_letOwnedTupleGo_zip z1 λh2 z2 hs2=>?_};replace hs2:Heap.SameBut z h1 h2:=hs2;let zlt:z<s.heap.objs.size:=cu hz;let hk2:∀c o,c≠z->c≠to->c≠i1->c≠i2->s.heap.get? c=some o->h2.get? c=some o:=λc o c1 c2 c3 c4 q=>(hs2.2 c c1).trans (hk c o c1 c2 c3 c4 q);let hT2:IsPair h2 s.heap.objs.size u v:=(hs2.2 _ (vj zlt)).trans t2;let hn:H s.heap.objs.size=none:=I.hok.fresh (zq4 _);let nF:∀c o,H c=some o->c≠z/\c≠to/\c≠i1/\c≠i2:=λc o q=>{λe=>(by rw [e,hf0 z Oq] at q;cases q),λe=>(by rw [e,hf0 to Oq] at q;cases q),λe=>(by rw [e,hf0 i1 Oq] at q;cases q),λe=>(by rw [e,hf0 i2 Oq] at q;cases q)}
  let kp:∀c o o',H c=some o->s.heap.get? c=some o'->h2.get? c=some o':=λc o o' q r=>let ⟨n1,n2,n3,n4⟩:=nF c o q;hk2 c o' n1 n2 n3 n4 r;let ok2:HOk X.prog X.w H h2:=λc o q=>(I.hok c o q).stay (λd v' hd r=>by
   rcases hd with e | e
   ·rw [e] at r ⊢;show kp c o v' q r
   ·show kp d _ v' e r) (λ_ r=>r) λ_ _ r=>r
  let ok3:HOk X.prog X.w (upd H s.heap.objs.size (.tup [x,y])) h2:=λc o q=>by
   by_cases hb:c=s.heap.objs.size
   ·subst hb;rw [ae] at q
    cases q
    show {by change 2<=sizeLine;decide,[u,v],.cons ru (.cons rv' .nil),{_,hT2,rfl,_,rfl}}
   ·rw [ak hb] at q;show (ok2 c o q).stay (λd v' _ r=>r) (λd r=>by rw [ak (au r hn)];show r) λd zs r=>by rw [ak (au r hn)];show r
  let nlt:∀{c:Addr} {o:Obj},s.heap.get? c=some o->c≠s.heap.objs.size:=λq=>dG (cu q);let lg:∀c,c∉[z,ti,to,i1,i2]->c≠z/\c≠to/\c≠i1/\c≠i2:=λc hc=>by simp only [List.mem_cons,List.not_mem_nil,or_false,not_or] at hc;show ⟨hc.1,hc.2.2.1,hc.2.2.2.1,hc.2.2.2.2⟩
  let I2:Inv X pins σ (upd H s.heap.objs.size (.tup [x,y])) {s with heap:=h2,toks:=s.toks}:=
   I.step (g':=s.gens) (d':=s.drawn) (ch:=[z,ti,to,i1,i2]) (λc hc=>let ⟨_,f1,_,f3,f4,f5⟩:=hf c hc;⟨f3,f1,f4,f5⟩)
    (λc o _ _ hc q _=>let ⟨n1,n2,n3,n4⟩:=lg c hc;hk2 c o n1 n2 n3 n4 q)
    (λc o _ _ hc q _=>let ⟨n1,n2,n3,n4⟩:=lg c hc;{o.slots,hk2 c o n1 n2 n3 n4 q})
    (λc o _ q n=>by rw [ak (nlt q)];show n)
    (λc o hc q=>let ⟨n1,n2,n3,n4⟩:=lg c hc;{o,hk2 c o n1 n2 n3 n4 q})
    (λc zs q=>by rw [ak (au q hn)];show q) (λc o v q=>by rw [ak (au q hn)];show q) (λc ps q=>{#[],by rw [ak (au q hn),q];simp})
    (λm ⟨o,es,ep,hm,r⟩=>{o,es,ep,hk2 _ o (hf z Oq).2.1.symm (hf to Oq).2.1.symm (hf i1 Oq).2.1.symm (hf i2 Oq).2.1.symm hm,r}) ok3 I.bare
  show ⟨.ref s.heap.objs.size,_,I2,rfl,{_,x,y,rfl,hn,rfl,λzs hz'=>by rw [I.list_inj hz' hqx];show hx,λzs hz'=>by rw [I.list_inj hz' hqy];show hy},
   {z2,(hs2.2 ti D.TIz).trans (hk ti _ D.TIz D.TITO D.TIi1 D.TIi2 hti),{u,v,(hs2.2 to D.TOz).trans t1},a1.at λo q=>(hs2.2 i1 D.i1z).trans q,a2.at λo q=>(hs2.2 i2 D.i2z).trans q},λc hc=>?_⟩
  let hcl:c≠s.heap.objs.size:=by
   simp only [List.mem_cons,List.not_mem_nil,or_false] at hc;rcases hc with e | e | e | e | e
   ·rw [e];show nlt hz
   ·rw [e];show nlt hti
   ·rw [e];show nlt hto
   ·rw [e];obtain ⟨o,q,_⟩:=hi1;show nlt q
   ·rw [e];obtain ⟨o,q,_⟩:=hi2;show nlt q
  rw [ak hcl];show hf0 c hc
 done:=by
  intro X hP hw hK hc i pins s σ H E I hf st hg;subst hP hw hK;obtain ⟨xs,ys,hqx,hqy,hend⟩:=hg;obtain ⟨its,rv,p,_⟩:=I.list hqx;obtain ⟨ots,rw',p',_⟩:=I.list hqy;let hl1:=rv.length;let hl2:=rw'.length;obtain ⟨hz,hti,⟨oa,ob,hto⟩,hi1,hi2⟩:=st;let hf0:∀c∈[z,ti,to,i1,i2],H c=none:=λc hc=>(hf c hc).1;show wpAny_pyNext_zip_end (I.ok.hd hc) D hz hti hto hi1 hi2 p.isList p'.isList (hend.imp (λh=>by simp;omega) λh=>by simp;omega) λh' hk=>{rfl,?_}
  let lg:∀c,c∉[z,ti,to,i1,i2]->c≠z/\c≠to/\c≠i1/\c≠i2:=λc hc=>by simp only [List.mem_cons,List.not_mem_nil,or_false,not_or] at hc;show ⟨hc.1,hc.2.2.1,hc.2.2.2.1,hc.2.2.2.2⟩
  let kp:∀c o o',H c=some o->s.heap.get? c=some o'->h'.get? c=some o':=λc o o' q r=>hk c o' (λe=>by rw [e,hf0 z Oq] at q;cases q) (λe=>by rw [e,hf0 to Oq] at q;cases q) (λe=>by rw [e,hf0 i1 Oq] at q;cases q) (λe=>by rw [e,hf0 i2 Oq] at q;cases q) r;show I.step (t':=s.toks) (g':=s.gens) (d':=s.drawn) (ch:=[z,ti,to,i1,i2]) (λc hc=>let ⟨_,f1,_,f3,f4,f5⟩:=hf c hc;⟨f3,f1,f4,f5⟩)
    (λc o _ _ hc q _=>let ⟨n1,n2,n3,n4⟩:=lg c hc;hk c o n1 n2 n3 n4 q)
    (λc o _ _ hc q _=>let ⟨n1,n2,n3,n4⟩:=lg c hc;{o.slots,hk c o n1 n2 n3 n4 q})
    (λ_ _ _ _ n=>n) (λc o hc q=>let ⟨n1,n2,n3,n4⟩:=lg c hc;{o,hk c o n1 n2 n3 n4 q}) (λ_ _ q=>q) (λ_ _ _ q=>q) (λc ps q=>{#[],by rw [q];simp})
    (λm ⟨o,es,ep,hm,r⟩=>{o,es,ep,hk _ o (hf z Oq).2.1.symm (hf to Oq).2.1.symm (hf i1 Oq).2.1.symm (hf i2 Oq).2.1.symm hm,r})
    (λc o q=>(I.hok c o q).stay (λd v' hd r=>by
     rcases hd with e | e
     ·rw [e] at r ⊢;show kp c o v' q r
     ·show kp d _ v' e r) (λ_ r=>r) λ_ _ r=>r) I.bare
 self:=λ_ _ _ _ _ ⟨hz,_⟩ h=>wpAny_pyIter_zip hz h
def GF(K:N5)(ta:TA):TI:=λσ H R=>ta σ H λvs H1=>∃a b,vs=[.ref a,.ref b]/\(∃xs,SqL K H1 a xs)/\(∃ys,SqL K H1 b ys)/\R (Itz K a b) H1
def Hw{X:Cx}{a b:Expr}{ta:TA}{p pos pos0:Pos}{elts:N4}{k0:Nat}(hm:X.mg "zip"=none) (ha:PA X [a,b] ta) (hg:Gl X "zip":=by rfl) (hs:starEach [a,b] X.env=(false,eval a X.env)::starEach [b] X.env:=by rfl) (hs2:(backTo pos (starEach [b] X.env)).any (·.1)=false:=by rfl) :
  PI X (.Tuple elts k0 pos0) (.Call (.Name "zip" p) [a,b] [] pos) (GF X.K ta):=by
 intro pins s σ H R I h;show Call_ (fD I hg hm boot_zip (Nt (thn (ha pos pins s σ H _ I h) λus s1 hhx=>?_) hs hs2));obtain ⟨vs,H1,I1,r1,q1⟩:=hhx;obtain ⟨l,m,e,⟨xs,hx⟩,⟨ys,hy⟩,q⟩:=q1;subst e;obtain ⟨u,us',rfl,ru,r2⟩:∃u us',us=u::us'/\RelV (.ref l) u/\Vals [.ref m] us':=by cases r1 with | cons r rr=>show {_,_,rfl,r,rr}
 obtain ⟨v,rfl,rv⟩:=io r2
 cases ru
 cases rv
 obtain ⟨its,_,p1,_⟩:=I1.list hx;obtain ⟨ots,_,p2,_⟩:=I1.list hy;let l1:l<s1.heap.objs.size:=by obtain ⟨o,ho,_⟩:=p1.isList;show cu ho
 let l2:m<s1.heap.objs.size:=by obtain ⟨o,ho,_⟩:=p2.isList;show cu ho
 show call_zip_2 p1.isList p2.isList λh' z1 z2 z3 z4 z5 _ hk=>?_;show wpAny_pyIter_zip z1 ?_;let I2:Inv X pins σ H1 {s1 with heap:=h'}:=I1.kept (t':=s1.toks) hk;show {_,_,_,_,H1,rfl,I2,CH (zipApart_new l1 l2),{z1,z2,{_,_,z3},z4,z5},λc hc=>?_,q};let hle:s1.heap.objs.size<=c:=by
  simp only [List.mem_cons,List.not_mem_nil,or_false] at hc;rcases hc with rfl | rfl | rfl | rfl | rfl
  ·show tY _ _
  ·show tY _ _
  ·show tY _ _
  ·show zq4 _
  ·show tY _ _
 show I1.fpOk hle (I1.hok.fresh hle)
def eD{X:Cx}{a b:Expr}{ta:TA}{p pos pos0:Pos}{elts:N4}{k0:Nat}(hm:X.mg "zip"=none) (ha:XA X [a,b] ta) (hg:Gl X "zip":=by rfl) (hs:starEach [a,b] X.env=(false,eval a X.env)::starEach [b] X.env:=by rfl) (hs2:(backTo pos (starEach [b] X.env)).any (·.1)=false:=by rfl) :
  XI X (.Tuple elts k0 pos0) (.Call (.Name "zip" p) [a,b] [] pos) (GF X.K ta):={Hw hm ha.h hg hs hs2}
def HV{K:N5}{ta:TA}{σ:St}{H:Hp}{R:It->Hp->Prop}:GF K ta σ H R=ta σ H λvs H1=>∃a b,vs=[.ref a,.ref b]/\(∃xs,SqL K H1 a xs)/\(∃ys,SqL K H1 b ys)/\R (Itz K a b) H1:=rfl
def uq{K:N5}{a b:Addr}{xs ys:N7}{g:TG}{tb:TS}{D:dJ}{σ:St}{H:Hp}(hlen:xs.length=ys.length)(Pv:Nat->St->Hp->Prop)(h0:Pv 0 σ H)(hl:∀i σ H,i<=xs.length->Pv i σ H->SqL K H a xs/\SqL K H b ys)
  (hs:∀(i:Nat)x y σ H p,xs[i]?=some x->ys[i]?=some y->H p=none->Pv i σ H->g (.ref p) σ (upd H p (.tup [x,y])) λσ2 H2=>tb {D with nx:=Pv (i+1),ct:=Pv (i+1),bk:=D.nx} σ2 H2) (hd:∀σ H,Pv xs.length σ H->D.nx σ H):kj (Itz K a b) g tb D σ H:=by
 show {λi m σ H=>m=xs.length-i/\i<=xs.length/\Pv i σ H,{xs.length,Oq,cE _,h0},?_};rintro i m σ H ⟨rfl,hi,p⟩;obtain ⟨q1,q2⟩:=hl i σ H hi p
 by_cases hlt:i<xs.length
 ·show .inr {{xs,ys,_,_,q1,q2,bN hlt,bN Oo},Pv (i+1),λσ' H' p'=>{xs.length-(i+1),Oo,rfl,hlt,p'},λx H' y=>?_};obtain ⟨pp,u,v,ex,hn,eH,y1,y2⟩:=y;subst ex eH;show hs i u v σ H pp (y1 xs q1) (y2 ys q2) hn p
 ·obtain rfl:i=xs.length:=by omega
  show .inl {{xs,ys,q1,q2,.inl (zq4 _)},hd σ H p}
end L2
namespace L2
def Jm(l:N0)(x:Str):N0:=if x∈l then l else l++[x]
def wI(ns:N0):N0:=ns.foldl Jm []
section
variable {prog:Program} {w:World} {A:Around} {R:Result->Shared->Prop} {it:Addr} {fp wr:N2} {G:Array GenState->Array GenState->Prop} {n:Nat} {P:Nat->Value->Prop} {St:Nat->Shared->Prop}
end
section
variable {prog:Program} {w:World} {A:Around} {E:Value->Shared->Prop} {s:Shared}
end
def x4(p:Addr)(n:Nat):HO:=.ext λh=>n<scanBound/\∃o es ep t,h.get? p=some o/\o.ExactSet/\o.data=.set es ep t/\t.fits es.size=true/\es.size=n
variable {X:Cx}
def Jz(K:N5):N7->Hp->VK->Prop:=λxs H Q=>∃(a:Addr)(ns:N0),xs=[.ref a]/\SqL K H a (ns.map V.str)/\ns.length<64/\∀p:Addr,H p=none->Q (.ref p) (upd H p (x4 p (wI ns).length))
def Iv{K:N5}{a:Addr}{H:Hp}{Q:VK}:Jz K [.ref a] H Q=∃ns:N0,SqL K H a (ns.map V.str)/\ns.length<64/\∀p:Addr,H p=none->Q (.ref p) (upd H p (x4 p (wI ns).length)):=propext {by rintro ⟨_,ns,e,q⟩;cases e;show ⟨ns,q⟩,by rintro ⟨ns,q⟩;show ⟨a,ns,rfl,q⟩}
def Jx:N7->Hp->VK->Prop:=λxs H Q=>∃(p:Addr)(n:Nat),xs=[.ref p]/\H p=some (x4 p n)/\Q (.int n) H
def Ih{p:Addr}{H:Hp}{Q:VK}:Jx [.ref p] H Q=∃n:Nat,H p=some (x4 p n)/\Q (.int n) H:=propext {by rintro ⟨_,n,e,q⟩;cases e;show ⟨n,q⟩,by rintro ⟨n,q⟩;show ⟨p,n,rfl,q⟩}
end L2
namespace L2
section
variable {X:Cx}
def su:N7->Hp->VK->Prop:=λxs H Q=>∃(a:Addr)(kvs:List (Key×V)) (ns:N0),xs=[.ref a]/\H a=some (.dK kvs)/\kvs.map (·.1)=ns.map Sum.inr/\ns.length<64/\∀l:Addr,H l=none->Q (.ref l) (upd H l (.lst ((FX.srt ns).map V.str)))
def pb(hc:X.calm=true):eO X (.builtin "sorted") su:=by
 intro pins s σ H xs us Q I r h;obtain ⟨a,kvs,ns,rfl,e,hkn,h64,q⟩:=h;obtain ⟨u,rfl,ru⟩:=io r
 cases ru
 obtain ⟨z,hd,ws,rel,dd⟩:=Fg I.hok e;obtain ⟨ep,hat⟩:=dd.dictAt;let hl:=rel.length;let hlk:kvs.length=ns.length:=by let this:=congrArg List.length hkn;simpa using this
 show Calls.call_function_entry kind_sorted plain_sorted entry_sorted (args_sorted1 (.ref a)) ?_;unfold Builtin.«sorted»;show zq2 (m:=checkCount "sorted" 1 1 _) (zq5 ?_);show zq2 (W.kdu_collect (W.kdl_dict (knd:=bG X.prog X.w) (kvs:=ws) (ep:=ep) hd) (I.ok.hd hc) hat (by rw [<- hl];show z) λh' tk acc hk hacc=>?_);let hal:acc.toList.length=ns.length:=by rw [Du,hacc.1];omega
 let hv:Vals (ns.map V.str) acc.toList:=by
  show xv (by rw [zq3];show hal) λj v hj=>?_;obtain ⟨k,x,h1,h2⟩:=hacc.2 j v (by rw [<- xI];show hj);let hj':=(zq7.mp h1).1;obtain ⟨p,hp⟩:∃p,kvs[j]?=some p:={_,bN Oo}
  obtain ⟨q2,hq2,e1,_⟩:=NJ rel hp;rw [h1] at hq2
  cases hq2
  let e2:(kvs.map (·.1))[j]?=some p.1:=by rw [bP,hp];rfl
  rw [hkn,bP] at e2;obtain ⟨n,hn,e3⟩:=zq30.mp e2;show {.str n,by rw [bP,hn];rfl,?_};let z3:=Fn h2;rw [show k=Sum.inr n from e1.symm.trans e3.symm] at z3;show z3
 let hS:=hX hv;show zq2 (wpAny_newList ?_);let hoL:(h'.push (seqObj "list" acc.toList.toArray 0)).get? h'.objs.size=some (seqObj "list" acc.toList.toArray 0):=eg _ rfl;show zq2 (vi (wpAny_call_entry slot_list_sort {_,hoL,rfl} entry_list_sort (list_sort_treeK strKind_oneLt hoL hS.keysOf (λv₁ v₂ fF e=>keyKind_strs (by rw [<- e];show hS)) Oo λst' a1 a2=>{_,rfl,?_}) (args_list_sort _)));obtain ⟨ss',h1,h2,h3⟩:=sorted_out_str hS a1 a2;let eq:=FX.mJ h2 (FX.gH h3);subst eq;show zq5 {_,rfl,?_};obtain ⟨ep',he⟩:=sortedHeap_at (out:=(arrOf st').map (·.2)) hoL;let I1:Inv X pins σ H {s with heap:=h',toks:=tk}:=I.kept (t':=tk) hk;let hk2:∀b o,h'.get? b=some o->(sortedHeap (h'.push (seqObj "list" acc.toList.toArray 0)) h'.objs.size acc.toList ((arrOf st').map (·.2))).get? b=some o:=λb o hb=>by let hlt:=cu hb;rw [sortedHeap_old (dG hlt) (by rw [size_push'];show Nat.lt_succ_of_lt hlt),Heap.get?_push_ne _ _ _ (dG hlt)];show hb
 show {.ref h'.objs.size,_,I1.laid (t':=tk) hk2 (zq4 _) (show ObjOk X.prog X.w _ (sortedHeap (h'.push (seqObj "list" acc.toList.toArray 0)) h'.objs.size acc.toList ((arrOf st').map (·.2))) _ (.lst ((FX.srt ns).map V.str)) from {?_,((arrOf st').map (·.2)).toList,ep',jM h1,?_}),rfl,q _ (I1.hok.fresh (zq4 _))}
 ·rw [zq3,h2.length_eq,bB];omega
 ·rw [D6];show he
def oB{a:Addr}{H:Hp}{Q:VK}:su [.ref a] H Q=∃(kvs:List (Key×V)) (ns:N0),H a=some (.dK kvs)/\kvs.map (·.1)=ns.map Sum.inr/\ns.length<64/\∀l:Addr,H l=none->Q (.ref l) (upd H l (.lst ((FX.srt ns).map V.str))):=propext {by rintro ⟨_,kvs,ns,e,q⟩;cases e;show ⟨kvs,ns,q⟩,by rintro ⟨kvs,ns,q⟩;show ⟨a,kvs,ns,rfl,q⟩}
end
end L2
end
namespace GO
open PySem L2 FB FS FG FO FR FZ GA PyProof.Rows
def atB(w:Int)(d:Deed)(b0 b:Bx):Bx:=match d with
 | .tell _=>b
 | .copy n _=>i6 b (.inr n) (.int (A3 b0 w d))
 | .op _ n _ _=>i6 b (.inr n) (.int (A3 b0 w d))
def beat(w:Int)(b0:Bx):List Deed->BT->BT
 | [],s=>s
 |d::r,s=>beat w b0 r (atB w d b0 s.1,doT w d b0 s.2)
end GO
namespace GV
open PySem PySem.Spec PySem.W PyProof.Rows
mutual
inductive NkIs (h:Heap):WData->Value->Prop where
 |non:NkIs h .none .none
 |int {i:Int} {t:Tok}:NkIs h (.int i) (.int i t)
 |str {x:Str} {t:Tok}:NkIs h (.str x) (.str x t)
 |tup {a:Addr} {o:Obj} {its:Array Value} {n:Nat} {xs:List WData}:h.get? a=some o->o.cls=.type "tuple"->o.data=.seq its n->NksIs h xs its.toList->NkIs h (.tuple xs) (.ref a)
inductive NksIs (h:Heap):List WData->N1->Prop where
 |nil:NksIs h [] []
 |cons {k:WData} {v:Value} {ks:List WData} {vs:N1}:NkIs h k v->NksIs h ks vs->NksIs h (k::ks) (v::vs)
end
mutual
def dpN:WData->Nat
 | .tuple xs=>ya xs+1
 |_=>0
def ya:List WData->Nat
 | []=>0
 |x::r=>max (dpN x) (ya r)
end
mutual
def tkN:WData->Nat
 | .tuple xs=>F2 xs+1
 |_=>1
def F2:List WData->Nat
 | []=>0
 |x::r=>tkN x+F2 r
end
mutual
def NkIs.inj{h:Heap}:∀{x y:WData} {v:Value},NkIs h x v->NkIs h y v->x=y
 |_,_,_,.non,b=>by cases b;rfl
 |_,_,_,.int,b=>by cases b;rfl
 |_,_,_,.str,b=>by cases b;rfl
 |_,_,_,.tup h1 h2 h3 h4,b=>by
  cases b with
  |tup g1 g2 g3 g4=>
   rw [h1] at g1
   cases g1
   rw [h3] at g3
   cases g3
   rw [NksIs.inj h4 g4]
def NksIs.inj{h:Heap}:∀{x y:List WData} {v:N1},NksIs h x v->NksIs h y v->x=y
 |_,_,_,.nil,b=>by cases b;rfl
 |_,_,_,.cons h1 h2,b=>by
  cases b with
  |cons g1 g2=>rw [NkIs.inj h1 g1,NksIs.inj h2 g2]
end
mutual
def NkIs.keep{h h':Heap}(k:∀(a:Addr)(o:Obj)(its:Array Value)(n:Nat),h.get? a=some o->o.data=.seq its n->h'.get? a=some o):∀{x:WData} {v:Value},NkIs h x v->NkIs h' x v
 |_,_,.non=>.non
 |_,_,.int=>.int
 |_,_,.str=>.str
 |_,_,.tup h1 h2 h3 h4=>.tup (k _ _ _ _ h1 h3) h2 h3 (NksIs.keep k h4)
def NksIs.keep{h h':Heap}(k:∀(a:Addr)(o:Obj)(its:Array Value)(n:Nat),h.get? a=some o->o.data=.seq its n->h'.get? a=some o):∀{x:List WData} {v:N1},NksIs h x v->NksIs h' x v
 |_,_,.nil=>.nil
 |_,_,.cons h1 h2=>.cons (NkIs.keep k h1) (NksIs.keep k h2)
end
def NksIs.length{h:Heap}:∀{x:List WData} {v:N1},NksIs h x v->x.length=v.length
 |_,_,.nil=>rfl
 |_,_,.cons _ t=>by rw [cG,cG,NksIs.length t]
def NksIs.at{h:Heap}:∀{x:List WData} {v:N1} {j:Nat} {u:Value},NksIs h x v->v[j]?=some u->∃k,x[j]?=some k/\NkIs h k u
 |_,_,_,_,.nil,e=>by simp at e
 |_,_,0,_,.cons r _,e=>by simp at e;subst e;show {_,rfl,r}
 |_,_,j+1,u,.cons _ t,e=>by obtain ⟨k,h1,h2⟩:=NksIs.at (j:=j) (u:=u) t (by simpa using e);show {k,by simpa using h1,h2}
def lK:∀{xs:List WData} {x:WData},x∈xs->dpN x<=ya xs
 |y::r,x,h=>by
  rw [ya];rcases zq9.mp h with rfl | h
  ·show Nat.le_max_left _ _
  ·show bF (lK h) (Nat.le_max_right _ _)
section
variable {prog:Program} {w:World} {E:Value->Shared->Prop}
mutual
def wf:∀{k:WData} {v:Value} {A:Around} {s:Shared} {Q:Int->Shared->Prop},NkIs s.heap k v->A.units+dpN k<cLine->Q (hashW w.params k) {s with toks:=s.toks+tkN k}->wpAny (model prog w) A (pyHash v) Q E s
 |_,_,A,s,Q,.non,hu,q=>pyHash_slot (T:="NoneType") rfl F.slot_NoneType_hash F.entry_NoneType_hash (F.args_NoneType_hash_1 _) (beq_builtin_none _) (.inr (tR (tY _ _) hu)) (zq2 (zq5 (zq2 (wpAny_mkInt (zq5 {_,_,rfl,q})))))
 |_,_,A,s,Q,.int (i:=i),hu,q=>wpAny_pyHash_int (hashW_int w.params i ▸ q)
 |_,_,A,s,Q,.str,hu,q=>wpAny_pyHash_str q
 |_,_,A,s,Q,.tup (a:=a) (xs:=xs) h1 h2 h3 h4,hu,q=>by rw [dpN] at hu;show pyHash_slot (T:="tuple") {_,h1,h2} F.slot_tuple_hash F.entry_tuple_hash (F.args_tuple_hash_1 _) (beq_builtin_none _) (.inr Oo) ?_;show zq2 (zq5 (zq2 (wpAny_tupleItemsOf h1 h3 (zq2 ?_))));rw [<- Array.forIn_toList];show rF (b:=#[]) h4 (by rw [Around.in1_units];omega) λb hb=>?_;show zq2 (wpAny_mkInt (zq5 {_,_,rfl,?_}));rw [hb];rw [tkN,hashW,<- Nat.add_assoc] at q;show q
def rF:∀{ks:List WData} {vs:N1} {A:Around} {s:Shared} {b:Array Int} {Q:Array Int->Shared->Prop},NksIs s.heap ks vs->A.units+ya ks<cLine->
  (∀b':Array Int,b'.toList=b.toList++hashesW w.params ks->Q b' {s with toks:=s.toks+F2 ks})->wpAny (model prog w) A (forIn vs b λx r=>do let z <- pyHash x;pure PUnit.unit;pure (ForInStep.yield (r.push z))) Q E s
 |_,_,A,s,b,Q,.nil,_,q=>zq5 (q b (by rw [hashesW,iD]))
 |_,_,A,s,b,Q,.cons (k:=k) (ks:=ks) h1 h2,hu,q=>by rw [ya] at hu;rw [D3];show zq2 (zq2 (wf h1 (tR (xG (Nat.le_max_left _ _) _) hu) (zq2 (zq5 (zq5 ?_)))));show rF (s:={s with toks:=s.toks+tkN k}) h2 (tR (xG (Nat.le_max_right _ _) _) hu) λb' hb=>?_;let z:=q b' (by rw [hb,hashesW,Array.toList_push,kD];rfl);rw [F2,<- Nat.add_assoc] at z;show z
end
def DL{x y:List WData}:((List.range (min x.length y.length)).all (λj=>decide (x[j]?=y[j]?))&&x.length==y.length)=decide (WData.tuple x=WData.tuple y):=by
 rw [jT,eN,zq49,qo,zq65]
 constructor
 ·rintro ⟨h,hl⟩;let e:x=y:=by
   apply Dd;intro j
   by_cases hj:j<x.length
   ·show of_decide_eq_true (h j (zq43.mpr Oo))
   ·rw [vp Oo,vp Oo]
  rw [e]
 ·intro e;injection e with e;subst e;show {λj _=>bX rfl,rfl}
def J7:∀(n:Nat){x y:WData} {v u:Value} {A:Around} {s:Shared},dpN x<=n->NkIs s.heap x v->NkIs s.heap y u->A.units+n<cLine->SeqAt.EqAt A s v u (decide (x=y)):=by
 intro n
 induction n with
 |zero=>
  intro x y v u A s hd hx hy hu
  cases hx with
  |tup=>rw [dpN] at hd;omega
  |non=>
   cases hy with
   |non=>rw [bX rfl];show SeqAt.EqAt.same _
   |int=>rw [cR (λz=>nomatch z)];show SeqAt.EqAt.none_int _ _
   |str=>rw [cR (λz=>nomatch z)];show SeqAt.EqAt.none_str _ _
   |tup h1 h2 h3 h4=>rw [cR (λz=>nomatch z)];show SeqAt.EqAt.none_tuple {_,h1,h2,_,h3} hu
  | @int i t=>
   cases hy with
   |non=>rw [cR (λz=>nomatch z)];show SeqAt.EqAt.int_none _ _
   | @int j _=>
    let e:decide (WData.int i=WData.int j)=(i==j):=by rw [jT,qo,zq65];show {λz=>by injection z,λz=>by rw [z]}
    rw [e];show SeqAt.EqAt.int_int _ _ _ _
   |str=>rw [cR (λz=>nomatch z)];show SeqAt.EqAt.int_str _ _ _ _
   |tup h1 h2 h3 h4=>rw [cR (λz=>nomatch z)];show SeqAt.EqAt.int_tuple _ _ {_,h1,h2,_,h3} hu
  | @str i t=>
   cases hy with
   |non=>rw [cR (λz=>nomatch z)];show SeqAt.EqAt.str_none _ _
   |int=>rw [cR (λz=>nomatch z)];show SeqAt.EqAt.str_int _ _ _ _
   | @str j _=>
    let e:decide (WData.str i=WData.str j)=(i==j):=by rw [jT,qo,zq65];show {λz=>by injection z,λz=>by rw [z]}
    rw [e];show SeqAt.EqAt.str_str _ _ _ _
   |tup h1 h2 h3 h4=>rw [cR (λz=>nomatch z)];show SeqAt.EqAt.str_tuple _ _ {_,h1,h2,_,h3} hu
 |succ n ih=>
  intro x y v u A s hd hx hy hu;let hu0:A.units<cLine:=by omega
  cases hx with
  |non=>show ih (cE _) .non hy Oo
  |int=>show ih (cE _) .int hy Oo
  |str=>show ih (cE _) .str hy Oo
  | @tup a oa ia na xs h1 h2 h3 h4=>
   cases hy with
   |non=>rw [cR (λz=>nomatch z)];show SeqAt.EqAt.tuple_none {_,h1,h2,_,h3} hu0
   |int=>rw [cR (λz=>nomatch z)];show SeqAt.EqAt.tuple_int _ _ {_,h1,h2,_,h3} hu0
   |str=>rw [cR (λz=>nomatch z)];show SeqAt.EqAt.tuple_str _ _ {_,h1,h2,_,h3} hu0
   | @tup b ob ib nb ys g1 g2 g3 g4=>
    by_cases hab:a=b
    ·subst hab;rw [bX (NkIs.inj (NkIs.tup h1 h2 h3 h4) (NkIs.tup g1 g2 g3 g4))];show SeqAt.EqAt.same _
    ·let la:ia.size=xs.length:=by rw [<- Du,h4.length]
     let lb:ib.size=ys.length:=by rw [<- Du,g4.length]
     rw [dpN] at hd;let z:=SeqAt.RcAt.tuples (A:=A) (e:=λj=>decide (xs[j]?=ys[j]?)) (show s.heap.IsTuple a ia from {_,h1,h2,_,h3}) (show s.heap.IsTuple b ib from {_,g1,g2,_,g3}) hu0 λj j1 j2=>by
      obtain ⟨k,hk,hkv⟩:=h4.at (j:=j) (u:=ia[j]) (by rw [xI,Ga j1]);obtain ⟨l,hl,hlv⟩:=g4.at (j:=j) (u:=ib[j]) (by rw [xI,Ga j2]);let e:decide (xs[j]?=ys[j]?)=decide (k=l):=by rw [hk,hl,jT,qo,qo];show {λz=>Option.some.inj z,λz=>by rw [z]}
      rw [e];show ih (bF (lK (bR hk)) Oo) hkv hlv (by rw [Around.in1_units];omega)
     rw [la,lb,DL] at z;show SeqAt.EqAt.of_refs hab z
def Bp:∀(n:Nat){x:WData} {v:Value} {A:Around} {s:Shared} {Q:Bool->Shared->Prop},dpN x<=n->NkIs s.heap x v->Q true s->wpAny (model prog w) A (eqIsQuiet n v) Q E s:=by
 intro n
 induction n with
 |zero=>
  intro x v A s Q hd hx q
  cases hx with
  |tup=>rw [dpN] at hd;omega
  |non=>rw [eqIsQuiet_byValue 0 rfl];show zq5 q
  |int=>rw [eqIsQuiet_byValue 0 rfl];show zq5 q
  |str=>rw [eqIsQuiet_byValue 0 rfl];show zq5 q
 |succ n ih=>
  intro x v A s Q hd hx q
  cases hx with
  |non=>rw [eqIsQuiet_byValue _ rfl];show zq5 q
  |int=>rw [eqIsQuiet_byValue _ rfl];show zq5 q
  |str=>rw [eqIsQuiet_byValue _ rfl];show zq5 q
  | @tup a oa ia na xs h1 h2 h3 h4=>
   rw [dpN] at hd;let hT:s.TypeIs (.ref a) "tuple":={_,h1,h2}
   unfold eqIsQuiet;show zq2 (wpAny_specialOf hT F.slot_tuple_eq.lookup (zq2 (wpAny_isInstance hT isSubtype_tuple_tuple ?_)));rw [zq0 On];show zq2 (wpAny_seqItems h1 h3 (zq2 ?_));change wpAny _ _ (forIn ia _ _) _ _ s;rw [<- Array.forIn_toList];show wpAny_forIn_list _ (λfF r s'=>r.1=none/\s'=s/\∃left,NksIs s.heap left fF/\∀k∈left,dpN k<=n) _ ?_ ?_ _ _ {rfl,rfl,xs,h4,λk hk=>bF (lK hk) Oo}
   ·rintro u fF r s' ⟨hr,rfl,left,hl,hk⟩
    cases hl with
    | @cons k _ ks _ l1 l2=>show zq2 (ih (hk k (cS ..)) l1 ?_);rw [zq0 On];show zq5 {rfl,rfl,ks,l2,λj hj=>hk j (zq8 _ hj)}
   ·rintro ⟨r1,r2⟩ s' ⟨hr,rfl,_⟩;let e:r1=none:=hr;subst e;show zq5 q
end
def m7(prog:Program)(w:World):HeapKind prog w WData where
 is:=λh k a=>NkIs h k (.ref a)/\dpN k<=8
 hash:=hashW w.params
 draws:=tkN
 room:=λA=>A.units+8<cLine
 inj:=λhx hy=>hx.1.inj hy.1
 keeps:=λx ho hd hs=>⟨x.1.keep λa o its n e ed=>(hs.2 a λz=>by
  subst z;rw [ho] at e
  cases e
  rw [hd] at ed
  cases ed).trans e,x.2⟩
 pyHash:=λhu hk h=>wf hk.1 (by let this:=hk.2;omega) h
 eqBool:=λhu hx hy h=>J7 8 hx.2 hx.1 hy.1 hu _ _ _ _ h
 quiet:=λhk h=>Bp 8 hk.2 hk.1 h
end GV
namespace L2
open PySem PySem.Spec PySem.W PyProof.Rows GV
variable {H':Hp}
mutual
inductive NkV (K:N5) (H:Hp):WData->V->Prop where
 |non:NkV K H .none .non
 |int {i:Int}:NkV K H (.int i) (.int i)
 |str {x:Str}:NkV K H (.str x) (.str x)
 |tup {a:Addr} {xs:List WData} {vs:N7}:SqT K H a vs->NksV K H xs vs->NkV K H (.tuple xs) (.ref a)
inductive NksV (K:N5) (H:Hp):List WData->N7->Prop where
 |nil:NksV K H [] []
 |cons {k:WData} {x:V} {ks:List WData} {xs:N7}:NkV K H k x->NksV K H ks xs->NksV K H (k::ks) (x::xs)
end
mutual
def NkV.keep{K:N5}{H:Hp}(t:TSame H H'):∀{k:WData} {x:V},NkV K H k x->NkV K H' k x
 |_,_,.non=>.non
 |_,_,.int=>.int
 |_,_,.str=>.str
 |_,_,.tup h1 h2=>.tup (t.seqT h1) (NksV.keep t h2)
def NksV.keep{K:N5}{H:Hp}(t:TSame H H'):∀{k:List WData} {x:List V},NksV K H k x->NksV K H' k x
 |_,_,.nil=>.nil
 |_,_,.cons h1 h2=>.cons (NkV.keep t h1) (NksV.keep t h2)
end
section
variable {X:Cx} {pins:List (Addr×Obj)} {σ:St} {H:Hp} {s:Shared}
mutual
def NkV.is(I:Inv X pins σ H s):∀{k:WData} {x:V} {u:Value},NkV X.K H k x->RelV x u->NkIs s.heap k u
 |_,_,_,.non,r=>by cases r;show .non
 |_,_,_,.int,r=>by obtain ⟨t,rfl⟩:=r;show .int
 |_,_,_,.str,r=>by obtain ⟨t,rfl⟩:=r;show .str
 |_,_,_,.tup h1 h2,r=>by
  cases r
  obtain ⟨its,rv,⟨o,e1,e2,n,e3⟩,_⟩:=I.tuple h1;show .tup e1 e2 e3 (NksV.is I h2 (by simpa using rv))
def NksV.is(I:Inv X pins σ H s):∀{k:List WData} {x:List V} {u:N1},NksV X.K H k x->Vals x u->NksIs s.heap k u
 |_,_,_,.nil,r=>by cases r;show .nil
 |_,_,_,.cons h1 h2,r=>by
  cases r with
  |cons r1 r2=>show .cons (NkV.is I h1 r1) (NksV.is I h2 r2)
end
end
def mZ(pr:Params)(d:Addr)(es:List (WData×Addr×V)):HO:=.ext λh=>es.length<=sizeLine/\(d==sysModules)=false/\∃(xs:List (WData×Addr×Value)) (o:Obj) (en:Array DictEntry) (ep:Nat),
 Paired (λ(p:WData×Addr×V) (q:WData×Addr×Value)=>p.1=q.1/\p.2.1=q.2.1/\RelV p.2.2 q.2.2) es xs/\h.get? d=some o/\o.ExactDict/\o.data=.dict en ep/\en.toList=xs.map (λx=>({hashW pr x.1,.ref x.2.1,x.2.2}:DictEntry))/\(xs.map (·.1)).Nodup
def DnAt(pr:Params)(K:N5)(H:Hp)(d:Addr)(kvs:List (WData×V)):Prop:=∃es:List (WData×Addr×V),H d=some (mZ pr d es)/\kvs=es.map (λp=>(p.1,p.2.2))/\∀p∈es,NkV K H p.1 (.ref p.2.1)/\dpN p.1<=8
def DnAt.same{pr:Params}{K:N5}{H:Hp}{d:Addr}{kvs:List (WData×V)}(h:DnAt pr K H d kvs)(s:Same H H'):DnAt pr K H' d kvs:=by obtain ⟨es,h1,h2,h3⟩:=h;show {es,s _ _ h1,h2,λp hp=>{(h3 p hp).1.keep s.ts,(h3 p hp).2}}
section
variable {X:Cx} {pins:List (Addr×Obj)} {σ:St} {H:Hp} {s:Shared} {d:Addr} {kvs:List (WData×V)} {es:List (WData×Addr×V)}
abbrev DnR (kv:WData×V) (x:WData×Addr×Value):Prop:=kv.1=x.1/\RelV kv.2 x.2.2
def uj{xs:List (WData×Addr×Value)}:∀{es:List (WData×Addr×V)} {xs:List (WData×Addr×Value)},Paired (λ(p:WData×Addr×V) (q:WData×Addr×Value)=>p.1=q.1/\p.2.1=q.2.1/\RelV p.2.2 q.2.2) es xs->Paired DnR (es.map λp=>(p.1,p.2.2)) xs
 |_,_,.nil=>.nil
 |_,_,.cons h t=>.cons ⟨h.1,h.2.2⟩ (uj (xs:=xs) t)
def vS:∀{es:List (WData×Addr×V)} {xs:List (WData×Addr×Value)},Paired (λ(p:WData×Addr×V) (q:WData×Addr×Value)=>p.1=q.1/\p.2.1=q.2.1/\RelV p.2.2 q.2.2) es xs->∀q∈xs,∃p∈es,p.1=q.1/\p.2.1=q.2.1
 |_,_,.nil=>λq h=>by cases h
 |_,_,.cons h t=>λq hq=>by
  rcases zq9.mp hq with rfl | hq
  ·show {_,cS ..,h.1,h.2.1}
  ·obtain ⟨p,hp,e⟩:=vS t q hq;show {p,zq8 _ hp,e}
def pC:∀{kvs:List (WData×V)} {xs:List (WData×Addr×Value)} (k:WData),Paired DnR kvs xs->RelO (cn kvs k) ((atKey xs k).map (·.2))
 |_,_,k,.nil=>trivial
 |_,_,k,.cons (a:=a) (b:=b) (l₂:=l) h t=>by
  by_cases e:a.1=k
  ·rw [dU e,show atKey (b::l) k=some b.2 by simp [atKey,List.find?_cons,<- h.1,e]];show h.2
  ·rw [dw e,show atKey (b::l) k=atKey l k by simp [atKey,List.find?_cons,<- h.1,e]];show pC k t
def A6(I:Inv X pins σ H s)(h1:H d=some (mZ X.w.params d es))(h3:∀p∈es,NkV X.K H p.1 (.ref p.2.1)/\dpN p.1<=8):es.length<=sizeLine/\(d==sysModules)=false/\∃xs,Paired (λ(p:WData×Addr×V) (q:WData×Addr×Value)=>p.1=q.1/\p.2.1=q.2.1/\RelV p.2.2 q.2.2) es xs/\s.heap.DictOfH (m7 X.prog X.w) d xs:=by obtain ⟨⟨z,hd,xs,o,en,ep,rel,e1,e2,e3,e4,e5⟩,_⟩:=I.hok d _ h1;show {z,hd,xs,rel,o,en,ep,e1,e2,e3,e4,λx hx=>?_,e5};obtain ⟨p,hp,ek,ea⟩:=vS rel x hx;obtain ⟨hk,hd8⟩:=h3 p hp;rw [<- ek,<- ea];show {hk.is I rfl,hd8}
def Fh(I:Inv X pins σ H s)(h:DnAt X.w.params X.K H d kvs):kvs.length<=sizeLine/\(d==sysModules)=false/\∃xs,Paired DnR kvs xs/\s.heap.DictOfH (m7 X.prog X.w) d xs:=by obtain ⟨es,h1,rfl,h3⟩:=h;obtain ⟨z,hd,xs,rel,dd⟩:=A6 I h1 h3;show {by rw [zq3];show z,hd,xs,uj (xs:=xs) rel,dd}
def fM{α β:Type}{F:α->β->Prop}{a:α}{b:β}(hf:F a b):∀{l:List α} {m:List β},Paired F l m->Paired F (l++[a]) (m++[b])
 |_,_,.nil=>.cons hf .nil
 |_,_,.cons h t=>.cons h (fM hf t)
end
section
variable {X:Cx}
def pB{A:Around}(hu:A.units+9<cLine):A.in1.units+8<cLine:=by rw [Around.in1_units];omega
def Cy(pr:Params):TE:=λ_ H Q=>∀p,H p=none->Q (.ref p) (upd H p (mZ pr p []))
def vT{pr:Params}{d:Addr}{es:List (WData×Addr×V)}{φ:Heap->Prop}(e:mZ pr d es=.ext φ):∀h1 h2:Heap,φ h1->(∀o,h1.get? d=some o->h2.get? d=some o)->φ h2:=by
 unfold mZ at e
 cases e
 rintro h1 h2 ⟨z,hd,xs,o,en,ep,rel,e1,r⟩ k;show {z,hd,xs,o,en,ep,rel,k _ e1,r}
def zm{pos:Pos}:XE X (.Dict [] [] pos) (Cy X.w.params):=⟨λpins s σ H Q I h=>
 wpAny_Dict_empty ⟨.ref s.heap.objs.size,_,I.laid (a:=s.heap.objs.size) (o:=mZ X.w.params s.heap.objs.size []) (t':=s.toks) (λ_ _ q=>cW _ q) (zq4 _)
  {{cE _,beq_eq_false_iff_ne.mpr (Ne.symm (dG I.big)),[],_,#[],0,.nil,eg _ rfl,⟨rfl,rfl,rfl⟩,rfl,rfl,List.nodup_nil},{_,eg _ rfl},vT rfl},rfl,h _ (I.hok.fresh (zq4 _))⟩⟩
def EA{pr:Params}{σ:St}{H:Hp}{Q:VK}:Cy pr σ H Q=∀p,H p=none->Q (.ref p) (upd H p (mZ pr p [])):=rfl
def Cv(pr:Params)(K:N5)(td tk:TE):TE:=λσ H Q=>td σ H λx H1=>tk σ H1 λy H2=>∃(d b:Addr)(kvs:List (WData×V)) (k:WData) (v:V),x=.ref d/\y=.ref b/\DnAt pr K H2 d kvs/\NkV K H2 k (.ref b)/\dpN k<=8/\cn kvs k=some v/\Q v H2
def zk{o i:Expr}{pos:Pos}{td tk:TE}(hu:X.A.units+9<cLine)(ho:XE X o td)(hi:XE X i tk)(hs:Gj i):XE X (.Subscript o i pos) (Cv X.w.params X.K td tk):=⟨by
 intro pins s σ H Q I h;show xp PySem.F.slot_dict_getitem.lookup hs (thn (ho.h pins s σ H _ I h) λu s1 ⟨x,H1,I1,rx,q1⟩=>thn (hi.h pins s1 σ H1 _ I1 q1) λiv s2 hhx=>?_);obtain ⟨y,H2,I2,ry,d,b,kvs,k,v,ex,ey,hD,hk,hk8,hv,q2⟩:=hhx;subst ex ey
 cases rx
 cases ry
 obtain ⟨z,hd,xs,rel,dd⟩:=Fh I2 hD;let rk:=pC k rel;rw [hv] at rk
 cases hp:atKey xs k with
 |none=>rw [hp] at rk;show rk.elim
 |some p=>rw [hp] at rk;show {dd.typeIs,wpAny_getItem_heap (knd:=m7 X.prog X.w) (pB hu) {hk.is I2 rfl,hk8} dd hp {v,H2,I2.tok _,rk,q2}}⟩
def Ey{pr:Params}{K:N5}{td tk:TE}{σ:St}{H:Hp}{Q:VK}:Cv pr K td tk σ H Q=td σ H λx H1=>tk σ H1 λy H2=>∃(d b:Addr)(kvs:List (WData×V)) (k:WData) (v:V),x=.ref d/\y=.ref b/\DnAt pr K H2 d kvs/\NkV K H2 k (.ref b)/\dpN k<=8/\cn kvs k=some v/\Q v H2:=rfl
end
end L2
namespace L2
open PySem PySem.Spec PySem.W PyProof.Rows GV
section
variable {X:Cx}
def Ma(pr:Params)(K:N5):V->V->Hp->VK->Prop:=λx y H Q=>∃(b d:Addr)(kvs:List (WData×V)) (k:WData),x=.ref b/\y=.ref d/\DnAt pr K H d kvs/\NkV K H k (.ref b)/\dpN k<=8/\Q (.bl (cn kvs k).isSome) H
def JR{pr:Params}{K:N5}{b d:Addr}{H:Hp}{Q:VK}:Ma pr K (.ref b) (.ref d) H Q=∃(kvs:List (WData×V)) (k:WData),DnAt pr K H d kvs/\NkV K H k (.ref b)/\dpN k<=8/\Q (.bl (cn kvs k).isSome) H:=propext {by rintro ⟨_,_,kvs,k,e1,e2,q⟩;cases e1;cases e2;show ⟨kvs,k,q⟩,λ⟨kvs,k,q⟩=>{_,_,kvs,k,rfl,rfl,q}}
def BW(pr:Params)(K:N5)(td tk tv:TE):TS:=λD σ H=>tv σ H λv H1=>td σ H1 λx H2=>tk σ H2 λy H3=>∃(d b:Addr)(kvs:List (WData×V)) (k:WData),x=.ref d/\y=.ref b/\DnAt pr K H3 d kvs/\NkV K H3 k (.ref b)/\dpN k<=8/\kvs.length<sizeLine/\cn kvs k=none/\
 ∀o,DnAt pr K (upd H3 d o) d (kvs++[(k,v)])->D.nx σ (upd H3 d o)
def Es{o i value:Expr}{td tk tv:TE}{pos pos':Pos}(hu:X.A.units+9<cLine)(ho:PE X o td)(hi:PE X i tk)(hv:PE X value tv)(hs:swapsWith value (some (.Subscript o i pos')) pos.line X.env=pure false):
  PS X (.Assign [.Subscript o i pos'] value pos) (BW X.w.params X.K td tk tv):=by
 intro pins s σ H D I h;show wpAny_Assign_Subscript (thn (hv pins s σ H _ I h) λr s1 ⟨v,H1,I1,rv,q1⟩=>thn (ho pins s1 σ H1 _ I1 q1) λu s2 ⟨x,H2,I2,rx,q2⟩=>thn (hi pins s2 σ H2 _ I2 q2) λiv s3 hhx=>?_) hs;obtain ⟨y,H3,I3,ry,d,b,kvs,k,ex,ey,hD,hk,hk8,hz,hn,q3⟩:=hhx;subst ex ey
 cases rx
 cases ry
 obtain ⟨es2,h1,rfl,h3⟩:=hD;obtain ⟨z,hd,xs,rel,dd⟩:=A6 I3 h1 h3;let hlen:=Paired.length rel;let rk:=pC k (uj (xs:=xs) rel);rw [hn] at rk;let ha:atKey xs k=none:=by
  cases hv:atKey xs k with
  |none=>rfl
  |some y=>rw [hv] at rk;show rk.elim
 show wpAny_setItem_heap (knd:=m7 X.prog X.w) (pB hu) {hk.is I3 rfl,hk8} dd (λh' dd' hs'=>?_) (by rw [<- hlen];show z);rw [storedH_new ha] at dd';obtain ⟨q,en,ep,hq,f2,f3,f4,_,f5⟩:=dd';show {σ,_,iQ (ob:=mZ X.w.params d (es2++[(k,b,v)])) I3 (by rw [h1];show True.intro) hs' ⟨q,hq⟩ {{by rw [bW,dc];rw [zq3] at hz;omega,hd,xs++[(k,b,r)],q,en,ep,fM ⟨rfl,rfl,rv⟩ rel,hq,f2,f3,f4,f5},⟨q,hq⟩,vT rfl},q3 _ {es2++[(k,b,v)],ae,by rw [dN];rfl,λp hp=>?_}};let tt:TSame H3 (upd H3 d (mZ X.w.params d (es2++[(k,b,v)]))):={λc ys e=>by rw [ak (aO e h1 (λz=>nomatch z))];show e,λc o u e=>by rw [ak (aO e h1 (λz=>nomatch z))];show e}
 rcases zq27.mp hp with z | z
 ·show {(h3 p z).1.keep tt,(h3 p z).2}
 ·rw [zq15.mp z];show {hk.keep tt,hk8}
def CU{o i value:Expr}{td tk tv:TE}{pos pos':Pos}(hu:X.A.units+9<cLine)(ho:XE X o td)(hi:XE X i tk)(hv:XE X value tv)(hs:swapsWith value (some (.Subscript o i pos')) pos.line X.env=pure false):
  XS X (.Assign [.Subscript o i pos'] value pos) (BW X.w.params X.K td tk tv):={Es hu ho.h hi.h hv.h hs}
def Ir{pr:Params}{K:N5}{td tk tv:TE}{D:dJ}{σ:St}{H:Hp}:BW pr K td tk tv D σ H=tv σ H λv H1=>td σ H1 λx H2=>tk σ H2 λy H3=>∃(d b:Addr)(kvs:List (WData×V)) (k:WData),x=.ref d/\y=.ref b/\DnAt pr K H3 d kvs/\NkV K H3 k (.ref b)/\dpN k<=8/\kvs.length<sizeLine/\cn kvs k=none/\
 ∀o,DnAt pr K (upd H3 d o) d (kvs++[(k,v)])->D.nx σ (upd H3 d o):=rfl
end
section
variable {CX:CXT} {P:Program} {w:World} {K:N5} {mg:Str->N6} {base:Heap} {N:N0} {qual:Str} {scope:Scope} {f:Addr} {cd:Value} {A:Around} {outer:List Env} {s:Shared} {H:Hp} {E:XK}
def Gv:(pA CX P w K mg base N qual scope f cd A outer s H E).w=w:=rfl
def IM{X:Cx}{E:Value->Shared->Prop}:(X.wish E).w=X.w:=rfl
def IW{X:Cx}{N':N0}{scope:Scope}{b:Bk}:(X.blk N' scope b).w=X.w:=rfl
end
end L2
namespace J4
open FG PySem
variable {a b:Nat}
abbrev Rs:=List Row
def yj:Row->Bool
 | .latch _=>true
 |_=>false
def wrS(R:Rs)(g:Row):Rs×Nat:=if g∈R then (R,R.idxOf g) else (R++[g],R.length)
def cr(R:Rs)(b:Int):Rs×Nat:=wrS R (.fix b)
def inS(R:Rs)(n:Str)(k:Nat):Rs×Nat:=wrS R (.inp n k)
def fj(R:Rs)(a:Nat):Rs×Nat:=match R[a]? with
 |some (.fix b)=>cr R (1-b)
 |some (.nt x)=>(R,x)
 |_=>wrS R (.nt a)
def isF(R:Rs)(a:Nat)(b:Int):Bool:=decide (R[a]?=some (.fix b))
def qD(R:Rs)(a b:Nat):Bool:=decide (R[a]?=some (.nt b)) || decide (R[b]?=some (.nt a))
def yD(R:Rs)(o:Bop)(a b:Nat):Rs×Nat:=wrS R (.bin o (min a b) (max a b))
def eF(R:Rs)(a b:Nat):Rs×Nat:=if qD R a b then cr R 0 else if a=b\/isF R a 0\/isF R b 1 then (R,a) else if isF R b 0\/isF R a 1 then (R,b) else yD R .and a b
def dg(R:Rs)(a b:Nat):Rs×Nat:=if qD R a b then cr R 1 else if a=b\/isF R a 1\/isF R b 0 then (R,a) else if isF R b 1\/isF R a 0 then (R,b) else yD R .or a b
def cY(R:Rs)(a b:Nat):Rs×Nat:=if a=b then cr R 0 else if qD R a b then cr R 1 else if isF R a 0 then (R,b) else if isF R a 1 then fj R b else if isF R b 0 then (R,a) else if isF R b 1 then fj R a else yD R .xor a b
def fL(R:Rs)(f:Nat):be->Rs×Nat
 | []=>(R,f)
 |w::ws=>fL (dg R f w).1 (dg R f w).2 ws
def dW(R:Rs)(ws:be):Rs×Nat:=fL (cr R 0).1 (cr R 0).2 ws
def d6(R:Rs):Rs×Nat:=(R++[.latch R.length],R.length)
def f9(R:Rs)(l w:Nat):Rs:=R.set l (.latch w)
def aY{α β:Type}(f:Rs->α->Rs×β)(R:Rs):List α->Rs×List β
 | []=>(R,[])
 |x::xs=>((aY f (f R x).1 xs).1,(f R x).2::(aY f (f R x).1 xs).2)
def bC{α β:Type}{f:Rs->α->Rs×β}{x:α}:∀{xs:List α} {R:Rs},aY f R (xs++[x])=((f (aY f R xs).1 x).1,(aY f R xs).2++[(f (aY f R xs).1 x).2])
 | [],R=>rfl
 |y::xs,R=>by let ih:=bC (f:=f) (x:=x) (xs:=xs) (R:=(f R y).1);rw [nK,aY,ih,aY];rfl
def dq{α β:Type}{f:Rs->α->Rs×β}:∀{xs:List α} {R:Rs},(aY f R xs).2.length=xs.length
 | [],R=>rfl
 |y::xs,R=>by rw [aY,cG,dq,cG]
def jF{w:Nat}:∀{ws:be} {R:Rs} {f:Nat},fL R f (ws++[w])=dg (fL R f ws).1 (fL R f ws).2 w
 | [],R,f=>rfl
 |y::ws,R,f=>by rw [nK,fL,jF,fL]
def Pre(R R':Rs):Prop:=∃E,R'=R++E
def Pre.refl{R:Rs}:Pre R R:={[],Oq}
def Pre.trans{R R1 R2:Rs}(a:Pre R R1)(b:Pre R1 R2):Pre R R2:=by obtain ⟨E,rfl⟩:=a;obtain ⟨F,rfl⟩:=b;show {E++F,by rw [kD]}
def Pre.len{R R':Rs}(a:Pre R R'):R.length<=R'.length:=by obtain ⟨E,rfl⟩:=a;simp
def Pre.get{R R':Rs}(a:Pre R R'){i:Nat}{r:Row}(h:R[i]?=some r):R'[i]?=some r:=by obtain ⟨E,rfl⟩:=a;rw [vm (zq7.mp h).1];show h
def Gr(k:Nat)(R R':Rs):Prop:=Pre R R'/\R'.length<=R.length+k
def Gr.refl{k:Nat}{R:Rs}:Gr k R R:={.refl,Oo}
def Gr.trans{j k:Nat}{R R1 R2:Rs}(a:Gr j R R1)(b:Gr k R1 R2):Gr (j+k) R R2:={a.1.trans b.1,by let this:=a.2;let this:=b.2;omega}
def Gr.mono{j k:Nat}{R R1:Rs}(a:Gr j R R1)(h:j<=k):Gr k R R1:={a.1,by let this:=a.2;omega}
def wr_gr{R:Rs}{g:Row}:Gr 1 R (wrS R g).1:=by
 unfold wrS
 split
 ·show .refl
 ·show {{_,rfl},Oq}
def inv_gr{R:Rs}:Gr 1 R (fj R a).1:=by
 unfold fj
 split
 ·show wr_gr
 ·show .refl
 ·show wr_gr
def both_gr{R:Rs}:Gr 1 R (eF R a b).1:=by
 unfold eF
 split
 ·show wr_gr
 split
 ·show .refl
 split
 ·show .refl
 ·show wr_gr
def either_gr{R:Rs}:Gr 1 R (dg R a b).1:=by
 unfold dg
 split
 ·show wr_gr
 split
 ·show .refl
 split
 ·show .refl
 ·show wr_gr
def unlike_gr{R:Rs}:Gr 1 R (cY R a b).1:=by
 unfold cY
 split
 ·show wr_gr
 split
 ·show wr_gr
 split
 ·show .refl
 split
 ·show inv_gr
 split
 ·show .refl
 split
 ·show inv_gr
 ·show wr_gr
def pX:∀{ws:be} {R:Rs} {f:Nat},Gr ws.length R (fL R f ws).1
 | [],R,f=>.refl
 |w::ws,R,f=>by rw [fL];show (either_gr.trans pX).mono (by simp;omega)
def any_gr{R:Rs}{ws:be}:Gr (ws.length+1) R (dW R ws).1:=by unfold dW;show (wr_gr.trans pX).mono Oo
def latch_gr{R:Rs}:Gr 1 R (d6 R).1:={{_,rfl},by simp [d6]}
def pO{α β:Type}{f:Rs->α->Rs×β}{k:Nat}:∀{xs:List α} {R:Rs},(∀R,∀x∈xs,Gr k R (f R x).1)->Gr (k * xs.length) R (aY f R xs).1
 | [],R,_=>.refl
 |x::xs,R,h=>by rw [aY];show ((h R x (cS ..)).trans (pO λR y hy=>h R y (zq8 _ hy))).mono (by rw [cG,zu];omega)
section
variable (ins:N0) (wd:Nat)
def okR(i m:Nat):Row->Prop
 | .fix b=>b=0\/b=1
 | .inp n k=>n∈ins/\k<wd
 | .nt a=>a<i
 | .bin _ a b=>a<i/\b<i
 | .latch a=>a<m
def Fm(R:Rs):Prop:=∀i r,R[i]?=some r->okR ins wd i R.length r
end
section
variable {ins:N0} {wd:Nat}
def okR.up{i m m':Nat}{r:Row}(h:okR ins wd i m r)(hm:m<=m'):okR ins wd i m' r:=by
 cases r with
 |latch a=>show bT h hm
 |fix b=>show h
 |inp n k=>show h
 |nt a=>show h
 |bin o a b=>show h
def Fm.snoc{R:Rs}{g:Row}(h:Fm ins wd R)(hg:okR ins wd R.length (R.length+1) g):Fm ins wd (R++[g]):=by
 intro i r e;rw [bW,dc]
 by_cases hi:i<R.length
 ·rw [vm hi] at e;show (h i r e).up Oo
 ·rw [tV Oo] at e;let this:i-R.length=0:=by
   by_cases z:i-R.length=0
   ·show z
   ·rw [vp (by simp;omega)] at e;cases e
  rw [this] at e
  cases e
  let hi2:i=R.length:=by omega
  rw [hi2];show hg
def Wf(ins:N0)(wd:Nat)(p:Rs×Nat):Prop:=Fm ins wd p.1/\p.2<p.1.length
def xA{R:Rs}{g:Row}(h:Fm ins wd R)(hg:okR ins wd R.length (R.length+1) g):Wf ins wd (wrS R g):=by
 unfold wrS
 split
 ·next z=>show {h,List.idxOf_lt_length_iff.mpr z}
 ·show {h.snoc hg,Oq}
def dO{R:Rs}{b:Int}(h:Fm ins wd R)(hb:b=0\/b=1):Wf ins wd (cr R b):=xA h hb
def Ja{R:Rs}{n:Str}{k:Nat}(h:Fm ins wd R)(hn:n∈ins)(hk:k<wd):Wf ins wd (inS R n k):=xA h ⟨hn,hk⟩
def dF{R:Rs}(h:Fm ins wd R)(ha:a<R.length):Wf ins wd (fj R a):=by
 unfold fj
 split
 ·next b e=>have z:b=0\/b=1:=h a _ e;show dO h Oo
 ·next x e=>have z:x<a:=h a _ e;show {h,by change x<R.length;omega}
 ·show xA h ha
def uI{R:Rs}{o:Bop}(h:Fm ins wd R)(ha:a<R.length)(hb:b<R.length):Wf ins wd (yD R o a b):=xA h (show min a b<_/\max a b<_ by omega)
def fq{R:Rs}(h:Fm ins wd R)(ha:a<R.length)(hb:b<R.length):Wf ins wd (eF R a b):=by
 unfold eF
 split
 ·show dO h (.inl rfl)
 split
 ·show ⟨h,ha⟩
 split
 ·show ⟨h,hb⟩
 ·show uI h ha hb
def gQ{R:Rs}(h:Fm ins wd R)(ha:a<R.length)(hb:b<R.length):Wf ins wd (dg R a b):=by
 unfold dg
 split
 ·show dO h (.inr rfl)
 split
 ·show ⟨h,ha⟩
 split
 ·show ⟨h,hb⟩
 ·show uI h ha hb
def ee{R:Rs}(h:Fm ins wd R)(ha:a<R.length)(hb:b<R.length):Wf ins wd (cY R a b):=by
 unfold cY
 split
 ·show dO h (.inl rfl)
 split
 ·show dO h (.inr rfl)
 split
 ·show ⟨h,hb⟩
 split
 ·show dF h hb
 split
 ·show ⟨h,ha⟩
 split
 ·show dF h ha
 ·show uI h ha hb
def uJ:∀{ws:be} {R:Rs} {f:Nat},Fm ins wd R->f<R.length->(∀w∈ws,w<R.length)->Wf ins wd (fL R f ws)
 | [],R,f,h,hf,_=>⟨h,hf⟩
 |w::ws,R,f,h,hf,hw=>by rw [fL];let z:=gQ h hf (hw w (cS ..));let l:=(either_gr (R:=R) (a:=f) (b:=w)).1.len;show uJ z.1 z.2 λx hx=>bT (hw x (zq8 _ hx)) l
def fu{R:Rs}{ws:be}(h:Fm ins wd R)(hw:∀w∈ws,w<R.length):Wf ins wd (dW R ws):=by unfold dW;let z:=dO h (.inl rfl:(0:Int)=0\/_);show uJ z.1 z.2 λx hx=>bT (hw x hx) (wr_gr (R:=R) (g:=.fix 0)).1.len
def Av{R:Rs}(h:Fm ins wd R):Wf ins wd (d6 R):={h.snoc (show R.length<R.length+1 by omega),by simp [d6]}
def DY{R:Rs}{l w:Nat}(h:Fm ins wd R)(hw:w<R.length):Fm ins wd (f9 R l w):=by
 unfold f9;intro i r e;rw [kA]
 by_cases hi:l=i
 ·subst hi
  by_cases hl:l<R.length
  ·rw [xE hl] at e;cases e;show hw
  ·rw [vp (by simp;omega)] at e;cases e
 ·rw [Ds hi] at e;show h i r e
def Wfs(ins:N0)(wd:Nat)(p:Rs×be):Prop:=Fm ins wd p.1/\∀w∈p.2,w<p.1.length
def pP{α:Type}{f:Rs->α->Rs×Nat}(k:Nat):∀{xs:List α} {R:Rs},Fm ins wd R->(∀R',Pre R R'->Fm ins wd R'->∀x∈xs,Wf ins wd (f R' x)/\Gr k R' (f R' x).1)->Wfs ins wd (aY f R xs)/\Gr (k * xs.length) R (aY f R xs).1
 | [],R,h,_=>{{h,λw hw=>by cases hw},.refl}
 |x::xs,R,h,hf=>by
  rw [aY];obtain ⟨z,g⟩:=hf R .refl h x (cS ..);obtain ⟨ih,gr⟩:=pP (f:=f) k (xs:=xs) z.1 λR' p h' y hy=>hf R' (g.1.trans p) h' y (zq8 _ hy);show {{ih.1,λw hw=>?_},(g.trans gr).mono (by rw [cG,zu];omega)};rcases zq9.mp hw with rfl | hw
  ·show bT z.2 gr.1.len
  ·show ih.2 w hw
end
end J4
namespace L2
open PySem PySem.Spec PySem.W PyProof.Rows GV
section
variable {X:Cx}
def Ft(pr:Params)(K:N5):V->V->Hp->VK->Prop:=λx y H Q=>∃(b d:Addr)(kvs:List (WData×V)) (k:WData),x=.ref b/\y=.ref d/\DnAt pr K H d kvs/\NkV K H k (.ref b)/\dpN k<=8/\Q (.bl (cn kvs k).isNone) H
def yC(hu:X.A.units+9<cLine):OpR X (compareOp .NotIn) (Ft X.w.params X.K):=by
 intro pins s σ H x y u v Q I rx ry h;obtain ⟨b,d,kvs,k,rfl,rfl,hD,hk,hk8,q⟩:=h
 cases rx
 cases ry
 obtain ⟨z,hd,xs,rel,dd⟩:=Fh I hD;let rk:=pC k rel;show wpAny_notIn_heap (knd:=m7 X.prog X.w) (pB hu) {hk.is I rfl,hk8} hd dd {.bl (cn kvs k).isNone,H,I.tok _,?_,q};let e:(!(atKey xs k).isSome)=(cn kvs k).isNone:=by cases h1:atKey xs k<;>cases h2:cn kvs k<;>rw [h1,h2] at rk<;>first | rfl | show rk.elim
 rw [e];rfl
def Io{pr:Params}{K:N5}{b d:Addr}{H:Hp}{Q:VK}:Ft pr K (.ref b) (.ref d) H Q=∃(kvs:List (WData×V)) (k:WData),DnAt pr K H d kvs/\NkV K H k (.ref b)/\dpN k<=8/\Q (.bl (cn kvs k).isNone) H:=propext {by rintro ⟨_,_,kvs,k,e1,e2,q⟩;cases e1;cases e2;show ⟨kvs,k,q⟩,λ⟨kvs,k,q⟩=>{_,_,kvs,k,rfl,rfl,q}}
end
section
variable {K:N5} {tt:TT} {te:TE} {g:TG} {nt:Nat} {ci:be} {σ:St} {acc:Addr} {Q:Hp->Prop} {H0:Hp}
def Gq{a b:Addr}{xs ys:N7}(hxy:xs.length=ys.length)(Pv:Nat->N7->Hp->Prop)(h0:Pv 0 [] H0)(hl:∀i zs H,i<=xs.length->Pv i zs H->SqL K H a xs/\SqL K H b ys)
  (hs:∀(i:Nat)x y zs H p os,xs[i]?=some x->ys[i]?=some y->os.length=nt->H p=none->Pv i zs H->g (.ref p) (aI os ci σ) (upd H p (.tup [x,y])) λσ1 H1=>(∃os',os'.length=nt/\σ1=aI os' ci σ)/\tt σ1 H1 λb H2=>if b=true then te σ1 H2 λz H3=>H3 acc=some (.lst zs)/\zs.length<sizeLine/\Pv (i+1) (zs++[z]) (upd H3 acc (.lst (zs++[z]))) else Pv (i+1) zs H2)
  (hd:∀zs H,Pv xs.length zs H->Q H):c5 (Itz K a b) g tt te nt ci σ acc Q H0:=by
 show {λi m zs H=>m=xs.length-i/\i<=xs.length/\Pv i zs H,{xs.length,Oq,cE _,h0},?_};rintro i m zs H ⟨rfl,hi,p⟩;obtain ⟨q1,q2⟩:=hl i zs H hi p
 by_cases hlt:i<xs.length
 ·let hx:xs[i]?=some xs[i]:=bN hlt;let hy:ys[i]?=some ys[i]:=bN Oo;show .inr {{xs,ys,xs[i],ys[i],q1,q2,hx,hy},Pv (i+1),λzs' H' p'=>{xs.length-(i+1),Oo,rfl,hlt,p'},λz H' os ho yl=>?_};obtain ⟨pp,x,y,rfl,hpp,rfl,e1,e2⟩:=yl;show hs i x y zs H pp os (e1 xs q1) (e2 ys q2) ho hpp p
 ·let e:i=xs.length:=by omega
  subst e;show .inl {{xs,ys,q1,q2,.inl (zq4 _)},hd zs H p}
end
end L2
namespace J4
open PySem L2 FG PySem.W PyProof.Rows GV
variable {H:Hp} {x:V}
def siV:V->Bool
 | .str _=>true
 | .int _=>true
 |_=>false
def sI(h:siV x=true):cf x=true:=by cases x<;>first | rfl | cases h
def IB{y:V}(hx:siV x=true)(hy:siV y=true):eqV x y=decide (x=y):=by
 cases x with
 |str a=>cases y with
  |str b=>
   by_cases e:a=b
   ·subst e;simp [eqV]
   ·simp [eqV,e]
  |int b=>simp [eqV]
  |_=>cases hy
 |int a=>cases y with
  |str b=>simp [eqV]
  |int b=>
   by_cases e:a=b
   ·subst e;simp [eqV]
   ·simp [eqV,e]
  |_=>cases hy
 |_=>cases hx
def Kd{K:N5}{n:Nat}{a b:Addr}{xs ys:N7}(ha:SqT K H a xs)(hb:SqT K H b ys)(hx:xs.all siV=true)(hy:ys.all siV=true):Rq K H n (.ref a) (.ref b) (decide (xs=ys)):=by
 let z:=Rq.tups (n:=n) (λj=>decide (xs[j]?=ys[j]?)) ha hb λj x y ex ey=>by
  let fx:=zq49.mp hx x (bR ex);let fy:=zq49.mp hy y (bR ey);let e:decide (xs[j]?=ys[j]?)=eqV x y:=by rw [IB fx fy,ex,ey];simp
  rw [e];show Dq.flat (sI fx) (sI fy)
 let e:((List.range (min xs.length ys.length)).all (λj=>decide (xs[j]?=ys[j]?))&&xs.length==ys.length)=decide (xs=ys):=by
  rw [jT,eN,zq49,qo,zq65]
  constructor
  ·rintro ⟨h1,h2⟩;show Dd λj=>?_
   by_cases hj:j<xs.length
   ·show of_decide_eq_true (h1 j (zq43.mpr Oo))
   ·rw [vp Oo,vp Oo]
  ·rintro rfl;show {λj _=>Oq,rfl}
 rw [e] at z;show z
def tJ(r:Row):r.vs.all siV=true:=by cases r<;>rfl
def fw:∀o:Bop,o.str≠"fix"/\o.str≠"in"/\o.str≠"not"/\o.str≠"latch":=by intro o;cases o<;>decide +kernel
def vJ{o o':Bop}(h:o.str=o'.str):o=o':=by cases o<;>cases o'<;>first | rfl | show absurd h Ol
def CK{r r':Row}(h:r.vs=r'.vs):r=r':=by
 let hd:=λ(a b:N7) (e:a=b)=>congrArg List.head? e;let h0:=hd _ _ h
 cases r with
 |fix b=>cases r' with
  |fix b'=>unfold Row.vs at h;injection h with _ h;injection h with h _;injection h with h;rw [h]
  |inp n k=>show absurd h0 (by simp [Row.vs];decide +kernel)
  |nt a=>show absurd h0 (by simp [Row.vs];decide +kernel)
  |bin o a b=>show absurd (V.str.inj (Option.some.inj h0)).symm (fw o).1
  |latch a=>show absurd h0 (by simp [Row.vs];decide +kernel)
 |inp n k=>cases r' with
  |inp n' k'=>unfold Row.vs at h;injection h with _ h;injection h with h1 h;injection h with h2 _;injection h1 with h1;injection h2 with h2;rw [h1,show k=k' by omega]
  |fix b=>show absurd h0 (by simp [Row.vs];decide +kernel)
  |nt a=>show absurd h0 (by simp [Row.vs];decide +kernel)
  |bin o a b=>show absurd (V.str.inj (Option.some.inj h0)).symm (fw o).2.1
  |latch a=>show absurd h0 (by simp [Row.vs];decide +kernel)
 |nt a=>cases r' with
  |nt a'=>unfold Row.vs at h;injection h with _ h;injection h with h _;injection h with h;rw [show a=a' by omega]
  |inp n k=>show absurd h0 (by simp [Row.vs];decide +kernel)
  |fix b=>show absurd h0 (by simp [Row.vs];decide +kernel)
  |bin o a b=>show absurd (V.str.inj (Option.some.inj h0)).symm (fw o).2.2.1
  |latch a=>show absurd h0 (by simp [Row.vs];decide +kernel)
 |bin o a b=>cases r' with
  |bin o' a' b'=>unfold Row.vs at h;injection h with h1 h;injection h with h2 h;injection h with h3 _;injection h1 with h1;injection h2 with h2;injection h3 with h3;rw [vJ h1,show a=a' by omega,show b=b' by omega]
  |fix x=>show absurd (V.str.inj (Option.some.inj h0)) (fw o).1
  |inp n k=>show absurd (V.str.inj (Option.some.inj h0)) (fw o).2.1
  |nt x=>show absurd (V.str.inj (Option.some.inj h0)) (fw o).2.2.1
  |latch x=>show absurd (V.str.inj (Option.some.inj h0)) (fw o).2.2.2
 |latch a=>cases r' with
  |latch a'=>unfold Row.vs at h;injection h with _ h;injection h with h _;injection h with h;rw [show a=a' by omega]
  |inp n k=>show absurd h0 (by simp [Row.vs];decide +kernel)
  |fix b=>show absurd h0 (by simp [Row.vs];decide +kernel)
  |bin o a b=>show absurd (V.str.inj (Option.some.inj h0)).symm (fw o).2.2.2
  |nt a=>show absurd h0 (by simp [Row.vs];decide +kernel)
def uQ{K:N5}{n:Nat}{a b:Addr}{r r':Row}(ha:SqT K H a r.vs)(hb:SqT K H b r'.vs):Rq K H n (.ref a) (.ref b) (decide (r=r')):=by let z:=Kd (n:=n) ha hb (tJ r) (tJ r');rw [show decide (r.vs=r'.vs)=decide (r=r') from decide_eq_decide.mpr {CK,λe=>by rw [e]}] at z;show z
def yp:V->WData
 | .str s=>.str s
 | .int i=>.int i
 |_=>.none
def iX(r:Row):WData:=.tuple (r.vs.map yp)
def Ap{y:V}(hx:siV x=true)(hy:siV y=true)(h:yp x=yp y):x=y:=by cases x<;>cases y<;>first | (cases hx;done) | (cases hy;done) | (injection h with h;rw [h]) | cases h
def rL:∀{xs ys:N7},xs.all siV=true->ys.all siV=true->xs.map yp=ys.map yp->xs=ys
 | [],[],_,_,_=>rfl
 | [],y::ys,_,_,h=>by cases h
 |x::xs,[],_,_,h=>by cases h
 |x::xs,y::ys,hx,hy,h=>by rw [vn,eN] at hx hy;rw [cH,cH] at h;injection h with h1 h2;rw [Ap hx.1 hy.1 h1,rL hx.2 hy.2 h2]
def Ao{r r':Row}(h:iX r=iX r'):r=r':=by unfold iX at h;injection h with h;show CK (rL (tJ r) (tJ r') h)
def AK{K:N5}{H:Hp}:∀{xs:N7},xs.all siV=true->NksV K H (xs.map yp) xs
 | [],_=>.nil
 |x::xs,h=>by
  rw [vn,eN] at h;show .cons ?_ (AK h.2)
  cases x with
  |str s=>show .str
  |int i=>show .int
  |_=>cases h.1
def pU{K:N5}{q:Addr}{r:Row}(h:SqT K H q r.vs):NkV K H (iX r) (.ref q):=.tup h (AK (tJ r))
def pD(r:Row):dpN (iX r)<=8:=by cases r<;>show Nat.le_of_ble_eq_true Os
end J4
namespace J4
open FG FB PySem
variable {xs ys:be}
def vY(R:Rs)(i:Int)(wd:Nat):Rs×be:=aY (λR (b:Nat)=>cr R (i / 2 ^ b % 2)) R (List.range wd)
def opW(R:Rs)(bx:Str->be)(wd:Nat):Opd->Rs×be
 | .box n=>(R,bx n)
 | .word i=>vY R i wd
def tQ(f:Rs->Nat->Nat->Rs×Nat)(R:Rs)(xs ys:be):Rs×be:=aY (λR (p:Nat×Nat)=>f R p.1 p.2) R (xs.zip ys)
def half(R:Rs)(x y:Nat):Rs×Nat:=cY R x y
def fO(R:Rs)(c x y:Nat):Rs×Nat:=cY (half R x y).1 (half R x y).2 c
def jN(R:Rs)(c x y:Nat):Rs×Nat:=eF (fO R c x y).1 x y
def ky(R:Rs)(c x y:Nat):Rs×Nat:=eF (jN R c x y).1 (half R x y).2 c
def gM(R:Rs)(c x y:Nat):Rs×Nat:=dg (ky R c x y).1 (jN R c x y).2 (ky R c x y).2
def adZ(R:Rs)(c:Nat):List (Nat×Nat)->Rs×be×Nat
 | []=>(R,[],c)
 |p::l=>((adZ (gM R c p.1 p.2).1 (gM R c p.1 p.2).2 l).1,(fO R c p.1 p.2).2::(adZ (gM R c p.1 p.2).1 (gM R c p.1 p.2).2 l).2.1,(adZ (gM R c p.1 p.2).1 (gM R c p.1 p.2).2 l).2.2)
def ny(R:Rs)(xs ys:be)(c:Nat):Rs×be:=((adZ R c (xs.zip ys)).1,(adZ R c (xs.zip ys)).2.1++[(adZ R c (xs.zip ys)).2.2])
def iF{p:Nat×Nat}:∀{l:List (Nat×Nat)} {R:Rs} {c:Nat},adZ R c (l++[p])=((gM (adZ R c l).1 (adZ R c l).2.2 p.1 p.2).1,(adZ R c l).2.1++[(fO (adZ R c l).1 (adZ R c l).2.2 p.1 p.2).2],(gM (adZ R c l).1 (adZ R c l).2.2 p.1 p.2).2)
 | [],R,c=>rfl
 |x::l,R,c=>by let ih:=iF (p:=p) (l:=l) (R:=(gM R c x.1 x.2).1) (c:=(gM R c x.1 x.2).2);rw [nK,adZ,ih,adZ];rfl
def gv(R:Rs)(w k:Nat):Rs×be:=((aY (λR (_:Nat)=>cr R 0) R (List.range k)).1,w::(aY (λR (_:Nat)=>cr R 0) R (List.range k)).2)
def Bh(R:Rs)(xs ys:be):Rs×be:=((ny (cr R 0).1 xs ys (cr R 0).2).1,(ny (cr R 0).1 xs ys (cr R 0).2).2.dropLast)
def nB(R:Rs)(xs ys:be):Rs×be:=tQ cY R xs ys
def iI(R:Rs)(xs ys:be):Rs×Nat:=dW (nB R xs ys).1 (nB R xs ys).2
def saS(R:Rs)(xs ys:be):Rs×Nat:=fj (iI R xs ys).1 (iI R xs ys).2
def sG(R:Rs)(xs ys:be):Rs×be:=gv (saS R xs ys).1 (saS R xs ys).2 (xs.length-1)
def eI(R:Rs)(ys:be):Rs×be:=aY fj R ys
def i5(R:Rs)(xs ys:be):Rs×be:=ny (cr (eI R ys).1 1).1 xs (eI R ys).2 (cr (eI R ys).1 1).2
def beS(R:Rs)(xs ys:be):Rs×Nat:=fj (i5 R xs ys).1 ((i5 R xs ys).2.getLastD 0)
def kZ(R:Rs)(xs ys:be):Rs×be:=gv (beS R xs ys).1 (beS R xs ys).2 (xs.length-1)
def kg(R:Rs)(k:Str)(xs ys:be):Rs×be:=
 if k="and" then tQ eF R xs ys else if k="or" then tQ dg R xs ys else if k="xor" then tQ cY R xs ys else if k="plus" then Bh R xs ys else if k="same" then sG R xs ys
 else if k="less" then ((i5 R xs ys).1,(i5 R xs ys).2.dropLast) else kZ R xs ys
def j5(R:Rs)(bx:Str->be)(wd:Nat):Deed->Rs×be
 | .tell o=>opW R bx wd o
 | .copy _ o=>opW R bx wd o
 | .op k _ o p=>kg (opW (opW R bx wd o).1 bx wd p).1 k (opW R bx wd o).2 (opW (opW R bx wd o).1 bx wd p).2
def pv(cs:List (Nat×be))(R:Rs)(b:Nat):Rs×be:=aY (λR (c:Nat×be)=>eF R c.1 (c.2.getD b 0)) R cs
def mY(cs:List (Nat×be))(R:Rs)(b:Nat):Rs×Nat:=dW (pv cs R b).1 (pv cs R b).2
def iO(R:Rs)(cs:List (Nat×be))(wd:Nat):Rs×be:=aY (mY cs) R (List.range wd)
section
variable {ins:N0} {wd:Nat}
def Ws(R:Rs)(ws:be):Prop:=∀w∈ws,w<R.length
def Ws.up{R R':Rs}{ws:be}(h:Ws R ws)(p:Pre R R'):Ws R' ws:=λw hw=>bT (h w hw) p.len
structure Mk(ins:N0)(wd:Nat)(R:Rs)(p:Rs×be)(n k:Nat):Prop where
 fm:Fm ins wd p.1
 ws:Ws p.1 p.2
 len:p.2.length=n
 gr:Gr k R p.1
def g7{α:Type}{f:Rs->α->Rs×Nat}(k:Nat){xs:List α}{R:Rs}(h:Fm ins wd R)(hf:∀R',Pre R R'->Fm ins wd R'->∀x∈xs,Wf ins wd (f R' x)/\Gr k R' (f R' x).1):Mk ins wd R (aY f R xs) xs.length (k * xs.length):=
 let z:=pP k h hf
 ⟨z.1.1,z.1.2,dq,z.2⟩
def uo{R:Rs}{i:Int}{n:Nat}(h:Fm ins wd R):Mk ins wd R (vY R i n) n n:=by
 let z:=g7 (ins:=ins) (wd:=wd) (f:=λR (b:Nat)=>cr R (i / 2 ^ b % 2)) 1 (xs:=List.range n) h λR' _ h' x _=>{dO h' Oo,wr_gr}
 rw [fi,tU] at z;show z
def mR{f:Rs->Nat->Nat->Rs×Nat}{R:Rs}(hl:xs.length=ys.length)(h:Fm ins wd R)(hx:Ws R xs)(hy:Ws R ys)(hf:∀R' a b,Fm ins wd R'->a<R'.length->b<R'.length->Wf ins wd (f R' a b)/\Gr 1 R' (f R' a b).1):Mk ins wd R (tQ f R xs ys) xs.length xs.length:=by let z:=g7 (ins:=ins) (wd:=wd) (f:=λR (p:Nat×Nat)=>f R p.1 p.2) 1 (xs:=xs.zip ys) h λR' p h' x hxx=>hf R' x.1 x.2 h' (bT (hx _ (fU hxx).1) p.len) (bT (hy _ (fU hxx).2) p.len);rw [jV,<- hl,Nat.min_self,tU] at z;show z
def xq{R:Rs}{c x y:Nat}(h:Fm ins wd R)(hc:c<R.length)(hx:x<R.length)(hy:y<R.length):Wf ins wd (half R x y)/\Gr 1 R (half R x y).1/\Wf ins wd (fO R c x y)/\Gr 2 R (fO R c x y).1/\Wf ins wd (jN R c x y)/\Gr 3 R (jN R c x y).1/\Wf ins wd (ky R c x y)/\Gr 4 R (ky R c x y).1/\Wf ins wd (gM R c x y)/\Gr 5 R (gM R c x y).1:=by let w1:Wf ins wd (half R x y):=ee h hx hy;let g1:Gr 1 R (half R x y).1:=unlike_gr;let l1:=g1.1.len;let w2:Wf ins wd (fO R c x y):=ee w1.1 w1.2 Oo;let g2:Gr 2 R (fO R c x y).1:=g1.trans unlike_gr;let p2:Pre (half R x y).1 (fO R c x y).1:=unlike_gr.1;let l2:=g2.1.len;let w3:Wf ins wd (jN R c x y):=fq w2.1 Oo Oo;let g3:Gr 3 R (jN R c x y).1:=g2.trans both_gr;let p3:Pre (fO R c x y).1 (jN R c x y).1:=both_gr.1;let l3:=g3.1.len;let q2:=p2.len;let q3:=p3.len;let w12:=w1.2;let w4:Wf ins wd (ky R c x y):=fq w3.1 Oo Oo;let g4:Gr 4 R (ky R c x y).1:=g3.trans both_gr;let p4:Pre (jN R c x y).1 (ky R c x y).1:=both_gr.1;let q4:=p4.len;let w32:=w3.2;let w5:Wf ins wd (gM R c x y):=gQ w4.1 Oo w4.2;show {w1,g1,w2,g2,w3,g3,w4,g4,w5,g4.trans either_gr}
def oV:∀{l:List (Nat×Nat)} {R:Rs} {c:Nat},Fm ins wd R->c<R.length->(∀p∈l,p.1<R.length/\p.2<R.length)->Mk ins wd R ((adZ R c l).1,(adZ R c l).2.1) l.length (5 * l.length)/\(adZ R c l).2.2<(adZ R c l).1.length
 | [],R,c,h,hc,_=>{{h,(λw hw=>by cases hw),rfl,Gr.refl},hc}
 |p::l,R,c,h,hc,hl=>by
  obtain ⟨hx,hy⟩:=hl p (cS ..);obtain ⟨_,_,w2,g2,_,_,_,_,w5,g5⟩:=xq h hc hx hy;let p5:=g5.1.len;obtain ⟨ih,ihc⟩:=oV (l:=l) w5.1 w5.2 λq hq=>by let this:=hl q (zq8 _ hq);omega
  let pre:Pre (fO R c p.1 p.2).1 (gM R c p.1 p.2).1:=(both_gr.1.trans both_gr.1).trans either_gr.1;rw [adZ];show {{ih.fm,λw hw=>?_,by simp [ih.len],(g5.trans ih.gr).mono (by rw [cG];omega)},ihc};rcases zq9.mp hw with rfl | hw
  ·show bT w2.2 (bF pre.len ih.gr.1.len)
  ·show ih.ws w hw
def kR{R:Rs}{c:Nat}(hl:xs.length=ys.length)(h:Fm ins wd R)(hc:c<R.length)(hx:Ws R xs)(hy:Ws R ys):Mk ins wd R (ny R xs ys c) (xs.length+1) (5 * xs.length):=by
 obtain ⟨z,zc⟩:=oV (l:=xs.zip ys) h hc λp hp=>{hx _ (fU hp).1,hy _ (fU hp).2}
 let e:(xs.zip ys).length=xs.length:=by rw [jV];omega
 rw [e] at z;show {z.fm,λw hw=>?_,by unfold ny;rw [bW,dc];show congrArg (·+1) z.len,z.gr};unfold ny at hw;rcases zq27.mp hw with hw | hw
 ·show z.ws w hw
 ·rw [zq15.mp hw];show zc
def j4{R:Rs}{w k:Nat}(h:Fm ins wd R)(hw:w<R.length):Mk ins wd R (gv R w k) (k+1) k:=by
 let z:=g7 (ins:=ins) (wd:=wd) (f:=λR (_:Nat)=>cr R 0) 1 (xs:=List.range k) h λR' _ h' x _=>{dO h' (.inl rfl),wr_gr}
 rw [fi,tU] at z;show {z.fm,λx hx=>?_,by unfold gv;rw [cG];let this:=z.len;omega,z.gr};unfold gv at hx;rcases zq9.mp hx with rfl | hx
 ·show bT hw z.gr.1.len
 ·show z.ws x hx
def Ep{R:Rs}(hl:xs.length=ys.length)(h:Fm ins wd R)(hx:Ws R xs)(hy:Ws R ys):Mk ins wd R (Bh R xs ys) xs.length (5 * xs.length+1):=by let f:=dO h (.inl rfl:(0:Int)=0\/_);let g:=wr_gr (R:=R) (g:=.fix 0);let z:=kR hl f.1 f.2 (hx.up g.1) (hy.up g.1);show {z.fm,λw hw=>z.ws w ((Gb _).subset hw),?_,(g.trans z.gr).mono Oo};unfold Bh;rw [qt];let this:=z.len;omega
def FF{R:Rs}(hl:xs.length=ys.length)(h:Fm ins wd R)(hx:Ws R xs)(hy:Ws R ys):Wf ins wd (saS R xs ys)/\Gr (2 * xs.length+2) R (saS R xs ys).1:=by
 let z:Mk ins wd R (nB R xs ys) _ _:=mR hl h hx hy λR' a b h' ha hb=>{ee h' ha hb,unlike_gr}
 let a:Wf ins wd (iI R xs ys):=fu z.fm z.ws;let ga:Gr _ (nB R xs ys).1 (iI R xs ys).1:=any_gr;rw [z.len] at ga;show {dF a.1 a.2,((z.gr.trans ga).trans inv_gr).mono Oo}
def EW{R:Rs}(hl:xs.length=ys.length)(h0:0<xs.length)(h:Fm ins wd R)(hx:Ws R xs)(hy:Ws R ys):Mk ins wd R (sG R xs ys) xs.length (3 * xs.length+2):=by obtain ⟨z,g⟩:=FF hl h hx hy;let l:=j4 (k:=xs.length-1) z.1 z.2;show {l.fm,l.ws,by let this:=l.len;unfold sG;omega,(g.trans l.gr).mono Oo}
def A4{R:Rs}(hl:xs.length=ys.length)(h:Fm ins wd R)(hx:Ws R xs)(hy:Ws R ys):Mk ins wd R (i5 R xs ys) (xs.length+1) (6 * xs.length+1):=by
 let v:Mk ins wd R (eI R ys) ys.length (1 * ys.length):=g7 1 h λR' p h' x hxx=>{dF h' (bT (hy x hxx) p.len),inv_gr}
 let f:=dO v.fm (.inr rfl:(1:Int)=0\/_);let g:Gr 1 (eI R ys).1 (cr (eI R ys).1 1).1:=wr_gr;let z:=kR (c:=(cr (eI R ys).1 1).2) (hl.trans v.len.symm) f.1 f.2 ((hx.up v.gr.1).up g.1) (v.ws.up g.1);show {z.fm,z.ws,z.len,((v.gr.trans g).trans z.gr).mono Oo}
def gF{l:be}(h:0<l.length):l.getLastD 0∈l:=by
 cases l with
 |nil=>cases h
 |cons a l=>rw [List.getLastD_cons];show List.getLastD_mem_cons ..
def zS{R:Rs}(hl:xs.length=ys.length)(h0:0<xs.length)(h:Fm ins wd R)(hx:Ws R xs)(hy:Ws R ys):Mk ins wd R (kZ R xs ys) xs.length (7 * xs.length+2):=by let z:=A4 hl h hx hy;let i:Wf ins wd (beS R xs ys):=dF z.fm (z.ws _ (gF (by let this:=z.len;omega)));let g:Gr 1 (i5 R xs ys).1 (beS R xs ys).1:=inv_gr;let l:=j4 (k:=xs.length-1) i.1 i.2;show {l.fm,l.ws,by let this:=l.len;unfold kZ;omega,((z.gr.trans g).trans l.gr).mono Oo}
def wZ{R:Rs}{k:Str}(hl:xs.length=ys.length)(h0:0<xs.length)(h:Fm ins wd R)(hx:Ws R xs)(hy:Ws R ys):Mk ins wd R (kg R k xs ys) xs.length (7 * xs.length+2):=by
 let up:∀{p:Rs×be} {n j:Nat},Mk ins wd R p n j->j<=7 * xs.length+2->Mk ins wd R p n (7 * xs.length+2):=λz hj=>{z.fm,z.ws,z.len,z.gr.mono hj}
 unfold kg
 split
 ·show up (mR hl h hx hy λR' a b h' ha hb=>{fq h' ha hb,both_gr}) Oo
 split
 ·show up (mR hl h hx hy λR' a b h' ha hb=>{gQ h' ha hb,either_gr}) Oo
 split
 ·show up (mR hl h hx hy λR' a b h' ha hb=>{ee h' ha hb,unlike_gr}) Oo
 split
 ·show up (Ep hl h hx hy) Oo
 split
 ·show up (EW hl h0 h hx hy) Oo
 split
 ·let z:=A4 hl h hx hy;show {z.fm,λw hw=>z.ws w ((Gb _).subset hw),by rw [qt];let this:=z.len;omega,z.gr.mono Oo}
 ·show zS hl h0 h hx hy
end
end J4
namespace L2
open PySem PySem.Spec PyProof.Rows
structure FunD(K:N5)(x qual:Str)(st:Stmt)(f:Addr)(fd:FuncData):Prop where
 ex:∃(oc:Value)(od:Option Addr)(dV kV doc pm:Value)(an:Option Addr)(cdv ct:Value)(osl:Array N6),
  fd=W.fnOf x qual (df st) (cM st) (ar st) dV kV doc pm an cdv ct/\K.lookup f=some {oc,od,.func fd,osl}/\W.codeIn K cdv qual=true
 kp:W.keepIn K (.ref f)=true
section
variable {P:Program} {w:World} {K:N5} {mg:Str->N6} {base:Heap}
def FunD.ok{x qual:Str}{st:Stmt}{f:Addr}{fd:FuncData}{N ps:N0}{k:Nat}{sp:Sp}(F:FunD K x qual st f fd)(S:aB N ps (ar st))(len:∀vs H Q E,sp vs H Q E->vs.length=ps.length)
  (hbody:∀(cdv:Value)(A:Around)(outer:List Env)(s:Shared)(H:Hp)(vs:N7)(Q:VK)(E:XK),Room k (A.deeper (envOfC qual (ar st) s.heap.objs.size f cdv))->sp vs H Q E->
   ∃t,PSs (pA CX0 P w K mg base N qual (ar st) f cdv A outer s H E).nox (cM st) t/\t {nx:=λ_ H'=>Q .non H',rt:=Q} (start N vs) H):FnOk P w K mg base CX0 (k+1) f fd ps sp:=by
 obtain ⟨oc,od,dV,kV,doc,pm,an,cdv,ct,osl,rfl,lk,hcd⟩:=F.ex;show Fi lk hcd S len λA outer s H vs Q E hr hsp=>?_;obtain ⟨t,h,q⟩:=hbody cdv A outer s H vs Q E hr hsp;show ⟨t,h.nox,q⟩
structure Gh(K:N5)(mg:Str->N6)(x:Str)(st:Stmt)(ps:N0)(f:Addr)(fd:FuncData)(ds:N1):Prop where
 F:FunD K x x st f fd
 B:Binds K fd ps ds
 M:mg x=some (.ref f)
def J6{h:Heap}{x p q r:Str}{st:Stmt}{f dT:Addr}{oc tc v:Value}{od an td:Option Addr}{osl tsl:Array N6}{kV doc pm cdv ct:Value}{ep:Nat}(X:K.In h)(G:h.Ns mainGlobals mg)(a:W.nsIn K mainGlobals x=some (some (.ref f)))
  (l:K.lookup f=some {oc,od,.func (W.fnOf x x (df st) (cM st) (ar st) (.ref dT) kV doc pm an cdv ct),osl}) (lt:K.lookup dT=some {tc,td,.seq #[v] ep,tsl}) (c:W.codeIn K cdv x=true) (k:W.keepIn K (.ref f)=true)
  (b:∀(kV doc pm:Value)(an:Option Addr)(cdv ct:Value)(s:Shared)(o:Obj)(a b:Value),s.heap.get? dT=some o->o.data=.seq #[v] ep->BindsTo s (W.fnOf x x (df st) (cM st) (ar st) (.ref dT) kV doc pm an cdv ct) {[a,b],[]} [(p,a),(q,b),(r,v)]) :
  Gh K mg x st [p,q,r] f (W.fnOf x x (df st) (cM st) (ar st) (.ref dT) kV doc pm an cdv ct) [v]:=
 ⟨{{oc,od,_,kV,doc,pm,an,cdv,ct,osl,rfl,l,c},k},λs us hK hl=>by
  let hl2:us.length=2:=by simpa using hl
  match us,hl2 with
  | [a,b'],_=>show b kV doc pm an cdv ct s _ a b' (hK _ _ lt) rfl,W.mg_of X G a⟩
end
section
variable {X:Cx} {k:Nat} {f:Addr} {fd:FuncData} {ps:N0} {sp:Sp} {x:Str} {st:Stmt} {p pos:Pos} {e:Expr} {es:N4} {t:TA}
def oO(D:Gh X.K X.mg x st ps f fd [.bool false])(G:FnOk X.prog X.w X.K X.mg X.base CX0 k f fd ps sp)(hr:Room k X.A)(ha:XA X (e::es) t)(hg:Gl X x)(hdb:(x==("__debug__":Str))=false:=by kernel_rfl) (he:starEach (e::es) X.env=(false,eval e X.env)::starEach es X.env:=by rfl) (hpl:(backTo pos (starEach es X.env)).any (·.1)=false:=by rfl) :
  XE X (.Call (.Name x p) (e::es) [] pos) (mK sp [.bl false] E0 t):={wK G hr hg D.M D.F.kp D.B (.cons rfl .nil) oy ha.h hdb he hpl}
end
end L2
namespace L2
open PySem PySem.Spec PyProof.Rows
def w6{K:N5}{a b:Addr}{xs ys:N7}{g:TG}{tb:TS}{D:dJ}{σ:St}{H:Hp}(hlen:xs.length<=ys.length)(Pv:Nat->St->Hp->Prop)(h0:Pv 0 σ H)(hl:∀i σ H,i<=xs.length->Pv i σ H->SqL K H a xs/\SqL K H b ys)
  (hs:∀(i:Nat)x y σ H p,xs[i]?=some x->ys[i]?=some y->H p=none->Pv i σ H->g (.ref p) σ (upd H p (.tup [x,y])) λσ2 H2=>tb {D with nx:=Pv (i+1),ct:=Pv (i+1),bk:=D.nx} σ2 H2) (hd:∀σ H,Pv xs.length σ H->D.nx σ H):kj (Itz K a b) g tb D σ H:=by
 show {λi m σ H=>m=xs.length-i/\i<=xs.length/\Pv i σ H,{xs.length,Oq,cE _,h0},?_};rintro i m σ H ⟨rfl,hi,p⟩;obtain ⟨q1,q2⟩:=hl i σ H hi p
 by_cases hlt:i<xs.length
 ·show .inr {{xs,ys,_,_,q1,q2,bN hlt,bN Oo},Pv (i+1),λσ' H' p'=>{xs.length-(i+1),Oo,rfl,hlt,p'},λx H' y=>?_};obtain ⟨pp,u,v,ex,hn,eH,y1,y2⟩:=y;subst ex eH;show hs i u v σ H pp (y1 xs q1) (y2 ys q2) hn p
 ·obtain rfl:i=xs.length:=by omega
  show .inl {{xs,ys,q1,q2,.inl (zq4 _)},hd σ H p}
end L2
namespace J4
open FG FB PySem
variable {i:Nat}
def lmS(R:Rs)(ls:be):Rs×be:=((fj R (ls.getD 0 0)).1,(fj R (ls.getD 0 0)).2::ls.tail)
def llS(R:Rs)(cm:be):Rs×be:=((cr R 1).1,(cr R 1).2::cm.tail)
def c7(W:List be)(i w:Nat):List be:=W.set i (W.getD i []++[w])
def eR(ms:be):List be:=c7 (c7 (List.replicate ms.length []) 1 (ms.getD 0 0)) (ms.length-1) (ms.getD (ms.length-1) 0)
section
variable (bx:Str->be)
def lO(R:Rs)(nm:Str):Rs×Nat:=dW R (bx nm)
def jm(R:Rs)(nm:Str)(m:Nat):Rs×Nat:=eF (lO bx R nm).1 m (lO bx R nm).2
def tL(R:Rs)(nm:Str)(m:Nat):Rs×Nat:=fj (jm bx R nm m).1 (lO bx R nm).2
def tK(R:Rs)(nm:Str)(m:Nat):Rs×Nat:=eF (tL bx R nm m).1 m (tL bx R nm m).2
def eQ(n:Nat)(s:Rs×List be)(x:FZ.Ed×Nat):Rs×List be:=match x.1 with
 | .go i=>(s.1,c7 s.2 (i+1) x.2)
 | .choose nm i j=>((tK bx s.1 nm x.2).1,c7 (c7 s.2 (i+1) (jm bx s.1 nm x.2).2) (j+1) (tK bx s.1 nm x.2).2)
 | .stop=>(s.1,c7 s.2 (n-1) x.2)
def fQ(R:Rs)(ms:be)(F:Nb):Rs×List be:=((F.map (·.ed)).zip ms.tail).foldl (eQ bx ms.length) (R,eR ms)
def J3(R:Rs)(ms:be)(F:Nb):Rs×be:=aY dW (fQ bx R ms F).1 (fQ bx R ms F).2
variable (wd:Nat)
def wrO(d:Deed):Option Str:=match d with
 | .tell _=>none
 | .copy n _=>some n
 | .op _ n _ _=>some n
def cA(m:Nat)(nm:Option Str)(s:Rs×List (Nat×be))(d:Deed):Rs×List (Nat×be):=if wrO d=nm then ((j5 s.1 bx wd d).1,s.2++[(m,(j5 s.1 bx wd d).2)]) else s
def du(nm:Option Str)(s:Rs×List (Nat×be))(x:List Deed×Nat):Rs×List (Nat×be):=x.1.foldl (cA bx wd x.2 nm) s
def chS(R:Rs)(ms:be)(F:Nb)(nm:Option Str):Rs×List (Nat×be):=((F.map (·.ds)).zip ms.tail).foldl (du bx wd nm) (R,[])
def II(R:Rs)(n:Str):Rs×be:=aY (λR (b:Nat)=>inS R n b) R (List.range wd)
def gB(R:Rs)(ms:be)(F:Nb)(ins:N0)(nm:Option Str):Rs×List (Nat×be):=match nm with
 |some n=>if n∈ins then ((II wd (chS bx wd R ms F (some n)).1 n).1,(chS bx wd R ms F (some n)).2++[(ms.getD 0 0,(II wd (chS bx wd R ms F (some n)).1 n).2)]) else chS bx wd R ms F (some n)
 |none=>chS bx wd R ms F none
def kX(R:Rs)(cs:List (Nat×be)):Rs×Nat:=dW R (cs.map (·.1))
def dm(R:Rs)(cs:List (Nat×be)):Rs×Nat:=fj (kX R cs).1 (kX R cs).2
def ldW(R:Rs)(cs:List (Nat×be))(n:Str):Rs×be:=iO (dm R cs).1 (cs++[((dm R cs).2,bx n)]) wd
def dQ(R:Rs)(ps:List (Nat×Nat)):Rs:=ps.foldl (λR p=>f9 R p.1 p.2) R
def ldS(R:Rs)(cs:List (Nat×be))(n:Str):Rs:=dQ (ldW bx wd R cs n).1 ((bx n).zip (ldW bx wd R cs n).2)
end
def eG{α β:Type}{f:Rs×β->α->Rs×β}(hf:∀s x,Pre s.1 (f s x).1):∀{l:List α} {s:Rs×β},Pre s.1 (l.foldl f s).1
 | [],s=>.refl
 |x::l,s=>(hf s x).trans (eG hf (l:=l))
def ju{α β:Type}{f:Rs×β->α->Rs×β}(hf:∀s x,Pre s.1 (f s x).1){l:List α}{s:Rs×β}:((l.take i).foldl f s).1.length<=(l.foldl f s).1.length:=by
 conv=>rhs;rw [<- kE i l,jU]
 show (eG hf).len
def cv{α:Type}{f:Rs->α->Rs×Nat}(hf:∀R x,Pre R (f R x).1):∀{xs:List α} {R:Rs},Pre R (aY f R xs).1
 | [],R=>.refl
 |x::xs,R=>(hf R x).trans (cv hf (xs:=xs))
def oW:∀{l:List (Nat×Nat)} {R:Rs} {c:Nat},Pre R (adZ R c l).1
 | [],R,c=>.refl
 |p::l,R,c=>((((unlike_gr.1.trans unlike_gr.1).trans both_gr.1).trans both_gr.1).trans either_gr.1:Pre R (gM R c p.1 p.2).1).trans (oW (l:=l))
def rO{R:Rs}{w k:Nat}:Pre R (gv R w k).1:=cv λR x=>wr_gr.1
def dif_pre{R:Rs}{xs ys:be}:Pre R (i5 R xs ys).1:=((cv λR x=>inv_gr.1:Pre R (eI R ys).1).trans wr_gr.1).trans oW
def BO{R:Rs}{k:Str}{xs ys:be}:Pre R (kg R k xs ys).1:=by
 unfold kg
 split
 ·show cv λR x=>both_gr.1
 split
 ·show cv λR x=>either_gr.1
 split
 ·show cv λR x=>unlike_gr.1
 split
 ·show (wr_gr.1:Pre R (cr R 0).1).trans oW
 split
 ·show (((cv λR x=>unlike_gr.1:Pre R (nB R xs ys).1).trans any_gr.1).trans inv_gr.1).trans rO
 split
 ·show dif_pre
 ·show (dif_pre.trans inv_gr.1).trans rO
def opW_pre{R:Rs}{bx:Str->be}{wd:Nat}{o:Opd}:Pre R (opW R bx wd o).1:=by
 cases o with
 |box n=>show .refl
 |word i=>show cv λR x=>wr_gr.1
def Az{R:Rs}{bx:Str->be}{wd:Nat}{d:Deed}:Pre R (j5 R bx wd d).1:=by
 cases d with
 |tell o=>show opW_pre
 |copy n o=>show opW_pre
 |op k n o p=>show (opW_pre.trans opW_pre).trans BO
section
variable {bx:Str->be} {wd:Nat}
def pickD_pre{m:Nat}{nm:Option Str}{s:Rs×List (Nat×be)}{d:Deed}:Pre s.1 (cA bx wd m nm s d).1:=by
 unfold cA
 split
 ·show Az
 ·show .refl
def pickB_pre{nm:Option Str}{s:Rs×List (Nat×be)}{x:List Deed×Nat}:Pre s.1 (du bx wd nm s x).1:=eG λs d=>pickD_pre
def qh{R:Rs}{nm:Str}{m:Nat}:Pre R (lO bx R nm).1/\Pre (lO bx R nm).1 (jm bx R nm m).1/\Pre (jm bx R nm m).1 (tL bx R nm m).1/\Pre (tL bx R nm m).1 (tK bx R nm m).1:=⟨any_gr.1,both_gr.1,inv_gr.1,both_gr.1⟩
def yZ{n:Nat}{s:Rs×List be}{x:FZ.Ed×Nat}:Pre s.1 (eQ bx n s x).1:=by
 unfold eQ
 split
 ·show .refl
 ·obtain ⟨a,b,c,d⟩:=qh (bx:=bx) (R:=s.1) (nm:=by assumption) (m:=x.2);show ((a.trans b).trans c).trans d
 ·show .refl
def WsW(R:Rs)(W:List be):Prop:=∀ws∈W,Ws R ws
def WsW.up{R R':Rs}{W:List be}(h:WsW R W)(p:Pre R R'):WsW R' W:=λws hw=>(h ws hw).up p
def Ai{α:Type}{W:List (List α)}{x:α}(h:x∈W.getD i []):∃ws∈W,x∈ws:=by
 rw [eK] at h
 cases e:W[i]? with
 |none=>rw [e] at h;cases h
 |some ws=>rw [e] at h;show {ws,bR e,h}
def WsW.add{R:Rs}{W:List be}{w:Nat}(h:WsW R W)(hw:w<R.length):WsW R (c7 W i w):=by
 intro ws hm x hx;unfold c7 at hm;rcases D8 hm with z | rfl
 ·show h ws z x hx
 ·rcases zq27.mp hx with z | z
  ·obtain ⟨ws,h1,h2⟩:=Ai z;show h ws h1 x h2
  ·rw [zq15.mp z];show hw
def d8(W:List be):Nat:=W.flatten.length
def addW_len{W:List be}{w:Nat}:(c7 W i w).length=W.length:=by unfold c7;rw [kA]
def de:∀{W:List be} {i w:Nat},d8 (c7 W i w)<=d8 W+1
 | [],i,w=>by simp [c7,d8]
 |c::W,0,w=>by simp [c7,d8];omega
 |c::W,i+1,w=>by let z:=de (W:=W) (i:=i) (w:=w);simp only [c7,d8,List.set_cons_succ,List.flatten_cons,List.length_append,List.getD_cons_succ] at z ⊢;omega
def sC{n:Nat}:d8 (List.replicate n [])=0:=by
 induction n with
 |zero=>rfl
 |succ n ih=>simpa [d8,List.replicate_succ] using ih
def oK{ms:be}:(eR ms).length=ms.length:=by unfold eR;rw [addW_len,addW_len,tW]
def iB{ms:be}:d8 (eR ms)<=2:=by unfold eR;let a:=de (W:=c7 (List.replicate ms.length []) 1 (ms.getD 0 0)) (i:=ms.length-1) (w:=ms.getD (ms.length-1) 0);let b:=de (W:=List.replicate ms.length []) (i:=1) (w:=ms.getD 0 0);rw [sC] at b;omega
def iT{R:Rs}{ms:be}(h:Ws R ms)(hi:i<ms.length):ms.getD i 0<R.length:=by rw [eK,bN hi];show h _ (kB hi)
def tN{R:Rs}{ms:be}(h:Ws R ms)(h2:2<=ms.length):WsW R (eR ms):=by show WsW.add (WsW.add (λws hw=>?_) (iT h Oo)) (iT h Oo);rw [(List.mem_replicate.mp hw).2];intro x hx;cases hx
structure WyS(ins:N0)(wi n:Nat)(s:Rs×List be):Prop where
 fm:Fm ins wi s.1
 ws:WsW s.1 s.2
 len:s.2.length=n
def Cq{ins:N0}{wi n:Nat}{s:Rs×List be}{x:FZ.Ed×Nat}{k:Nat}(h:WyS ins wi n s)(hx:x.2<s.1.length)(hn:∀nm i j,x.1=.choose nm i j->Ws s.1 (bx nm)/\(bx nm).length<=k):
  WyS ins wi n (eQ bx n s x)/\Gr (k+4) s.1 (eQ bx n s x).1/\d8 (eQ bx n s x).2<=d8 s.2+2:=by
 obtain ⟨e,m⟩:=x
 cases e with
 |stop=>show {{h.fm,h.ws.add hx,addW_len.trans h.len},.refl,bF de Oo}
 |go i=>show {{h.fm,h.ws.add hx,addW_len.trans h.len},.refl,bF de Oo}
 |choose nm i j=>obtain ⟨hb,hk⟩:=hn nm i j rfl;obtain ⟨p1,p2,p3,p4⟩:=qh (bx:=bx) (R:=s.1) (nm:=nm) (m:=m);let q1:=p1.len;let q2:=p2.len;let q3:=p3.len;let q4:=p4.len;dsimp only at hx;let f:Wf ins wi (lO bx s.1 nm):=fu h.fm hb;let f2:=f.2;let a:Wf ins wi (jm bx s.1 nm m):=fq f.1 Oo f.2;let i2:Wf ins wi (tL bx s.1 nm m):=dF a.1 Oo;let b:Wf ins wi (tK bx s.1 nm m):=fq i2.1 Oo i2.2;let a2:=a.2;let g1:Gr _ s.1 (lO bx s.1 nm).1:=any_gr;show {{b.1,((h.ws.up (((p1.trans p2).trans p3).trans p4)).add (by change (jm bx s.1 nm m).2<(tK bx s.1 nm m).1.length;omega)).add b.2,addW_len.trans (addW_len.trans h.len)},((((g1.trans both_gr).trans inv_gr).trans both_gr).mono Oo),?_};let z1:=de (W:=c7 s.2 (i+1) (jm bx s.1 nm m).2) (i:=j+1) (w:=(tK bx s.1 nm m).2);let z2:=de (W:=s.2) (i:=i+1) (w:=(jm bx s.1 nm m).2);change d8 (c7 (c7 s.2 (i+1) (jm bx s.1 nm m).2) (j+1) (tK bx s.1 nm m).2)<=_;omega
def kL{ins:N0}{wi n k:Nat}:∀{l:List (FZ.Ed×Nat)} {s:Rs×List be},WyS ins wi n s->(∀x∈l,x.2<s.1.length/\∀nm i j,x.1=.choose nm i j->Ws s.1 (bx nm)/\(bx nm).length<=k)->
  WyS ins wi n (l.foldl (eQ bx n) s)/\Gr ((k+4) * l.length) s.1 (l.foldl (eQ bx n) s).1/\d8 (l.foldl (eQ bx n) s).2<=d8 s.2+2 * l.length
 | [],s,h,_=>{h,.refl,Oq}
 |x::l,s,h,hl=>by
  obtain ⟨hx,hn⟩:=hl x (cS ..);obtain ⟨h1,g1,m1⟩:=Cq h hx hn;let p1:=g1.1.len;obtain ⟨h2,g2,m2⟩:=kL (l:=l) h1 λy hy=>by obtain ⟨a,b⟩:=hl y (zq8 _ hy);show {Oo,λnm i j e=>{(b nm i j e).1.up g1.1,(b nm i j e).2}}
  show {h2,(g1.trans g2).mono (by rw [cG,zu];omega),?_};rw [cG,iE];omega
end
end J4
namespace FD
open PySem
def iS:∀(zs:N3)(acc:Array Nat),((zs.map di).foldl (λacc p=>acc++("":Str).cps++p.cps) acc).toList=acc.toList++zs.map FA.ltr
 | [],acc=>by simp
 |z::zs,acc=>by rw [cH,iE,iS zs,cH,show ("":Str).cps=#[] from by decide +kernel];simp [di]
def pM(zs:N3):(Txt.join "" (zs.map di)).cps.toList=zs.map FA.ltr:=by
 change (((zs.map di).drop 1).foldl (λacc p=>acc++("":Str).cps++p.cps) ((zs.map di).headD Str.empty).cps).toList=_
 cases zs with
 |nil=>rfl
 |cons z zs=>change ((zs.map di).foldl (λacc p=>acc++("":Str).cps++p.cps) (di z).cps).toList=_;rw [iS];simp [di]
def FT(n:Int)(j k:Nat):Int:=(bU n).getD k 0+3 * (j:Int) * (if decide ((k:Int)=n / 64 % ((bU n).length:Int))=true then 1 else 0)
def AI{n:Int}{i j:Nat}(hi:i<8)(hj:j<8)(h:m6 n i=m6 n j):i=j:=by
 let e:∀j,(m6 n j).cps.toList=((List.range (bU n).length).map (FT n j)).map FA.ltr:=λj=>by rw [<- pM,gm];rfl
 let h1:=congrArg (λs:Str=>s.cps.toList) h;rw [e,e] at h1;let ln:0<(bU n).length:=by rw [jg];omega
 let k0:0<=n / 64 % ((bU n).length:Int):=i8 _ Oo;let k1:n / 64 % ((bU n).length:Int)<(bU n).length:=nJ _ Oo;obtain ⟨k,hk⟩:∃k:Nat,(k:Int)=n / 64 % ((bU n).length:Int):={(n / 64 % ((bU n).length:Int)).toNat,Oo}
 let h2:=congrArg (λl:be=>l[k]?) h1;let hkl:k<(bU n).length:=by omega
 simp only [List.getElem?_map,List.getElem?_range hkl,Option.map_some,Option.some.injEq] at h2;unfold FT at h2;rw [<- hk] at h2;simp only [decide_true,if_true,Int.mul_one] at h2;unfold FA.ltr at h2;generalize (bU n).getD k 0=a at h2;omega
def pR{n:Int}{m:Nat}(h:m<=8):(fE n m).Nodup:=by
 unfold fE
 split
 ·show List.Sublist.nodup (CZ _ _) Ol
 ·rw [List.Nodup,List.pairwise_map];show List.Pairwise.imp_of_mem (λ{a b} ha hb hab z=>hab ?_) (List.nodup_range (n:=m));show AI (by let this:=zq43.mp ha;omega) (by let this:=zq43.mp hb;omega) z
end FD
local macro_rules | `(tactic| simp_arith [$ts,*] $l:location)=>`(tactic| simp only [L2.MQ,L2.Mf,L2.MR,L2.Mg,L2.MS,L2.Mh,L2.MT,L2.Mi,L2.MU,L2.Mj,L2.MV,L2.Ml,L2.MW,L2.Mm,L2.MX,L2.Mn,L2.MY,L2.Mo,L2.MZ,L2.Mp,L2.LY,L2.JM,L2.LZ,L2.JN,L2.M0,L2.JO,L2.M2,L2.JP,L2.M3,L2.JQ,L2.r_c,L2.Mv,L2.MA,L2.MP,L2.y_I,L2.y_U,L2.JI,L2.JJ,L2.JZ,L2.HM,L2.ED,L2.Iy,L2.r_B,L2.JC,L2.Mw,L2.K3,L2.HA,L2.K5,L2.Ip,L2.Mq,L2.Im,L2.BH,L2.HH,L2.K7,L2.Fw,L2.JE,L2.Mc,L2.K1,L2.HE,L2.HD,L2.Kb,L2.JY,L2.HF,L2.Mx,L2.BC,L2.Iq,L2.HN,L2.EF,L2.JT,L2.Mu,L2.Mt,L2.I0,L2.Ia,L2.Ib,L2.Ic,L2.Id,L2.Ie,L2.Ig,L2.JL,L2.EG,L2.EI,L2.HU,L2.EJ,L2.EK,L2.HI,L2.HJ,L2.JK,L2.Me,L2.JV,L2.JU,L2.JW,L2.JG,L2.K9,L2.Br,L2.HK,L2.HY,L2.HQ,true_and,and_true,forall_const,Int.reduceLT,L2.Ew,L2.yN,L2.Kc,L2.nj,L2.nu,L2.Ka,L2.JS,L2.BD,L2.Gu,L2.IL,L2.IV,L2.HB,L2.HC,List.map_cons,List.map_nil,List.getElem?_cons_zero,List.getElem?_cons_succ,Option.join_some,L2.Md,L2.HZ,L2.ER,L2.Ez,L2.HG,L2.HL,L2.HP,List.set_cons_zero,List.set_cons_succ,L2.BA,L2.Iw,L2.HR,L2.Il,L2.Ik,L2.HS,L2.Gp,L2.IW,L2.Gv,L2.JD,L2.Ex,L2.Ey,L2.Bv,L2.EA,L2.EB,L2.yM,L2.EH,L2.HV,L2.JR,L2.EL,L2.Ih,L2.Io,L2.Ir,L2.Iu,L2.Iv,L2.BJ,L2.oB,L2.oC,L2.BL,L2.IM,$ts,*] $l:location)
local macro_rules | `(tactic| ac_rfl)=>`(tactic| simp only [L2.start,List.map,List.length,List.cons_append,List.nil_append,List.replicate,Nat.reduceAdd,Nat.reduceSub])
local macro_rules | `(tactic| simp_arith [$ts,*])=>`(tactic| simp_arith [$ts,*] at ⊢)
local macro_rules|`(#[$x:term])=>`(L2.aa $x L2.ac)
local macro_rules|`(#[$x:term,$xs:term,*])=>`(L2.aa $x #[$xs,*])
local macro_rules|`(!$n:num)=>`(L2.yqv $n L2.vl)
local macro_rules | `(tactic| rwa [$[$ts:term],*]) => `(tactic| simp_arith [$[$ts:term],*])
local macro_rules | `(∅) => `(by first | exact propext ⟨by rintro ⟨_,e,q⟩;cases e;exact q,fun q=>⟨_,rfl,q⟩⟩ | exact propext ⟨by rintro ⟨_,_,e,q⟩;cases e;exact q,fun q=>⟨_,_,rfl,q⟩⟩ | exact propext ⟨by rintro ⟨_,_,_,e,q⟩;cases e;exact q,fun q=>⟨_,_,_,rfl,q⟩⟩ | exact propext ⟨by rintro ⟨_,_,_,_,e,q⟩;cases e;exact q,fun q=>⟨_,_,_,_,rfl,q⟩⟩ | exact propext ⟨by rintro ⟨_,_,_,_,_,e,q⟩;cases e;exact q,fun q=>⟨_,_,_,_,_,rfl,q⟩⟩ | exact propext ⟨by rintro ⟨_,_,_,_,_,_,e,q⟩;cases e;exact q,fun q=>⟨_,_,_,_,_,_,rfl,q⟩⟩ | exact ⟨rfl,rfl,rfl,Ol,rfl,Ol,Ol⟩ | (intro vs H Q E h; first | (obtain ⟨h,_⟩ := h; cases h; rfl) | (obtain ⟨_,h,_⟩ := h; cases h; rfl) | (obtain ⟨_,_,h,_⟩ := h; cases h; rfl) | (obtain ⟨_,_,_,h,_⟩ := h; cases h; rfl) | (obtain ⟨_,_,_,_,h,_⟩ := h; cases h; rfl) | (obtain ⟨_,_,_,_,_,h,_⟩ := h; cases h; rfl) | (obtain ⟨_,_,_,_,_,_,h,_⟩ := h; cases h; rfl) | (obtain ⟨_,_,_,_,_,_,_,h,_⟩ := h; cases h; rfl)))
namespace K61
open PySem L2 PyProof.Rows FD FB FS FO FR FG J4
def top(i:Nat):Stmt:=PySem.Challenge.pw_deedloom_k61_nets_formed.main.body.getD i (.Pass ⟨0,0,0,0⟩)
abbrev s_0:Stmt:=bj (top 1) 0
def MC:aB ["self","width","ins","boxes","rows"] ["self","width","ins","boxes","rows"] (ar s_0):=∅
abbrev s_1:Stmt:=top 2
def MD:aB ["rows"] ["rows"] (ar s_1):=∅
abbrev s_2:Stmt:=top 3
def ME:aB ["row"] ["row"] (ar s_2):=∅
abbrev s_3:Stmt:=top 6
def MF:aB ["deed"] ["deed"] (ar s_3):=∅
abbrev s_4:Stmt:=top 7
def MG:aB ["deed"] ["deed"] (ar s_4):=∅
abbrev s_5:Stmt:=top 8
def MH:aB ["deed"] ["deed"] (ar s_5):=∅
abbrev s_6:Stmt:=top 9
def MI:aB ["deed"] ["deed"] (ar s_6):=∅
abbrev s_7:Stmt:=bj (top 11) 0
def MJ:aB ["self"] ["self"] (ar s_7):=∅
abbrev s_8:Stmt:=bj (top 11) 1
def MK:aB ["self","row"] ["self","row"] (ar s_8):=∅
abbrev s_9:Stmt:=bj (top 11) 2
def ML:aB ["self","bit"] ["self","bit"] (ar s_9):=∅
abbrev Kf:Stmt:=bj (top 11) 3
def Lk:aB ["self","name","bit"] ["self","name","bit"] (ar Kf):=∅
abbrev Kg:Stmt:=bj (top 11) 4
def sc_11:aB ["self","a","row"] ["self","a"] (ar Kg):=∅
abbrev Kh:Stmt:=bj (top 11) 5
def Ll:aB ["self","a","b"] ["self","a","b"] (ar Kh):=∅
abbrev Ki:Stmt:=bj (top 11) 6
def Lm:aB ["self","a","b"] ["self","a","b"] (ar Ki):=∅
abbrev Kj:Stmt:=bj (top 11) 7
def sc_14:aB ["self","a","b","one","other"] ["self","a","b"] (ar Kj):=∅
abbrev Kk:Stmt:=bj (top 11) 8
def sc_15:aB ["self","wires","found","wire"] ["self","wires"] (ar Kk):=∅
abbrev Kl:Stmt:=bj (top 11) 9
def Ln:aB ["self","kind","a","b"] ["self","kind","a","b"] (ar Kl):=∅
abbrev Km:Stmt:=bj (top 11) 10
def Lo:aB ["self","wire","bit"] ["self","wire","bit"] (ar Km):=∅
abbrev Kn:Stmt:=bj (top 11) 11
def Lp:aB ["self","a","b"] ["self","a","b"] (ar Kn):=∅
abbrev Ko:Stmt:=bj (top 11) 12
def Lq:aB ["self"] ["self"] (ar Ko):=∅
abbrev Kp:Stmt:=bj (top 11) 13
def Lr:aB ["self","latch","wire"] ["self","latch","wire"] (ar Kp):=∅
abbrev Kq:Stmt:=top 13
def sc_21:aB ["sheet","deed","boxes","width","words"] ["sheet","deed","boxes","width"] (ar Kq):=∅
abbrev Kr:Stmt:=top 14
def Ls:aB ["sheet","operand","boxes","width"] ["sheet","operand","boxes","width"] (ar Kr):=∅
abbrev Ks:Stmt:=top 15
def sc_23:aB ["sheet","op","xs","ys","apart","difference"] ["sheet","op","xs","ys"] (ar Ks):=∅
abbrev Kt:Stmt:=top 16
def sc_24:aB ["sheet","xs","ys","carry","wires","x","y","half"] ["sheet","xs","ys","carry"] (ar Kt):=∅
abbrev Ku:Stmt:=top 17
def Lu:aB ["sheet","wire","width"] ["sheet","wire","width"] (ar Ku):=∅
abbrev Kv:Stmt:=top 18
def sc_26:aB ["sheet","choices","width","chosen","bit"] ["sheet","choices","width"] (ar Kv):=∅
abbrev Kw:Stmt:=bj (top 20) 0
def Lv:aB ["self","rows","boxes","tell","said","stop"] ["self","rows","boxes","tell","said","stop"] (ar Kw):=∅
abbrev Kx:Stmt:=top 21
def sc_28:aB ["program","table","coded","sheet","boxes","name","many","latches","marks","coming","leads","latch","wire","tells","tell"] ["program","table","coded"] (ar Kx):=∅
abbrev Ky:Stmt:=top 23
def Lw:aB ["sheet","latches"] ["sheet","latches"] (ar Ky):=∅
abbrev Kz:Stmt:=top 24
def Lx:aB ["sheet","coming"] ["sheet","coming"] (ar Kz):=∅
abbrev KA:Stmt:=top 28
def sc_31:aB ["sheet","table","boxes","marks","mark","ways","state","ending","filled"] ["sheet","table","boxes","marks"] (ar KA):=∅
abbrev KB:Stmt:=top 29
def sc_32:aB ["sheet","program","table","boxes","marks","name","choices","state","mark","deed"] ["sheet","program","table","boxes","marks","name"] (ar KB):=∅
abbrev KC:Stmt:=top 30
def sc_33:aB ["sheet","program","name","boxes","choices","held","wires","latch","wire"] ["sheet","program","name","boxes","choices"] (ar KC):=∅
abbrev KD:Stmt:=top 33
def sc_34:aB ["program","parting","first"] ["program"] (ar KD):=∅
abbrev KE:Stmt:=bj (top 34) 0
def Ly:aB ["self"] ["self"] (ar KE):=∅
abbrev KF:Stmt:=bj (top 34) 1
def Lz:aB ["self"] ["self"] (ar KF):=∅
abbrev KG:Stmt:=bj (top 34) 2
def LA:aB ["self","block"] ["self","block"] (ar KG):=∅
abbrev KH:Stmt:=bj (top 34) 3
def LB:aB ["self","block"] ["self","block"] (ar KH):=∅
abbrev KI:Stmt:=bj (top 34) 4
def sc_39:aB ["self","rows","block","row"] ["self","rows","block"] (ar KI):=∅
abbrev KJ:Stmt:=bj (top 34) 5
def LC:aB ["self","row","block"] ["self","row","block"] (ar KJ):=∅
abbrev KL:Stmt:=bj (top 34) 6
def sc_41:aB ["self","row","block","behind","ones","others"] ["self","row","block"] (ar KL):=∅
abbrev KM:Stmt:=bj (top 34) 7
def sc_42:aB ["self","row","block","behind","look","inner"] ["self","row","block"] (ar KM):=∅
abbrev KN:Stmt:=top 36
def LD:aB ["ending","places"] ["ending","places"] (ar KN):=∅
abbrev KO:Stmt:=top 38
def sc_44:aB ["deeds","j","k","earlier","later","name"] ["deeds","j","k"] (ar KO):=∅
abbrev KP:Stmt:=top 39
def sc_45:aB ["deeds","units","layer","everything","ways","longer","done","beats","beat"] ["deeds","units"] (ar KP):=∅
abbrev KQ:Stmt:=bj (top 40) 0
def LE:aB ["self","deeds","units"] ["self","deeds","units"] (ar KQ):=∅
abbrev KR:Stmt:=bj (top 40) 1
def sc_47:aB ["self","done","place","missing","beats"] ["self","done"] (ar KR):=∅
abbrev KS:Stmt:=bj (top 40) 2
def sc_48:aB ["self","done","beats","place","more","beat","taken"] ["self","done","beats","place"] (ar KS):=∅
abbrev KU:Stmt:=bj (top 40) 3
def LF:aB ["self","done","beat","missing"] ["self","done","beat","missing"] (ar KU):=∅
abbrev KW:Stmt:=bj (top 40) 4
def sc_50:aB ["self","done","beat","place","sort","earlier","lean","ahead"] ["self","done","beat","place"] (ar KW):=∅
abbrev KY:Stmt:=top 42
def sc_51:aB ["program","units","blocks","block","laid_blocks","firsts","many","beats","table","deeds"] ["program","units"] (ar KY):=∅
abbrev KZ:Stmt:=top 43
def sc_52:aB ["block","units","deeds","ending","beats"] ["block","units"] (ar KZ):=∅
abbrev L0:Stmt:=top 44
def LG:aB ["deeds","name"] ["deeds","name"] (ar L0):=∅
abbrev L3:Stmt:=top 46
def LH:aB ["_law_found"] ["_law_found"] (ar L3):=∅
abbrev L4:Stmt:=top 47
def LI:aB ["_law_script","_law_k"] ["_law_script","_law_k"] (ar L4):=∅
abbrev L5:Stmt:=top 48
def sc_56:aB ["_law_cell","_law_k","_law_number"] ["_law_cell","_law_k"] (ar L5):=∅
abbrev L6:Stmt:=top 49
def sc_57:aB ["_law_number","_law_many","_law_letters","_law_some","_law_at_here","_law_names_here","_law_j","_law_spots"] ["_law_number","_law_many"] (ar L6):=∅
abbrev L7:Stmt:=top 50
def LJ:aB ["_law_number","_law_names_here","_law_top"] ["_law_number","_law_names_here","_law_top"] (ar L7):=∅
abbrev L8:Stmt:=top 51
def sc_59:aB ["_law_number","_law_names_here","_law_top","_law_name","_law_one","_law_other","_law_way"] ["_law_number","_law_names_here","_law_top"] (ar L8):=∅
abbrev L9:Stmt:=top 52
def sc_60:aB ["_law_numbers","_law_names_here","_law_top","_law_deep","_law_rows","_law_at_here","_law_number","_law_cut","_law_end","_law_name","_law_ones"] ["_law_numbers","_law_names_here","_law_top","_law_deep"] (ar L9):=∅
abbrev La:Stmt:=top 53
def sc_61:aB ["_law_script","_law_start","_law_many","_law_k","_law_found","_law_some","_law_at_here","_law_left"] ["_law_script","_law_start","_law_many"] (ar La):=∅
abbrev Lc:Stmt:=top 54
def sc_62:aB ["_law_script","_law_many","_law_number","_law_width","_law_names_here","_law_ins","_law_numbers","_law_rows"] ["_law_script","_law_many"] (ar Lc):=∅
abbrev Ld:Stmt:=top 56
def sc_63:aB ["_law_cell","_law_number"] ["_law_cell"] (ar Ld):=∅
abbrev Le:Stmt:=top 57
def LK:aB ["_law_found","_law_most"] ["_law_found","_law_most"] (ar Le):=∅
abbrev Lf:Stmt:=top 58
def LL:aB ["_law_row","_law_at_here","_law_many","_law_drawn_here"] ["_law_row","_law_at_here","_law_many","_law_drawn_here"] (ar Lf):=∅
abbrev Lg:Stmt:=top 59
def LM:aB ["_law_found","_law_many","_law_width"] ["_law_found","_law_many","_law_width"] (ar Lg):=∅
abbrev Lh:Stmt:=top 60
def sc_67:aB ["_law_net","_law_drawn_here","_law_many","_law_at_here","_law_name"] ["_law_net","_law_drawn_here"] (ar Lh):=∅
abbrev Li:Stmt:=top 62
def sc_68:aB ["_law_rows","_law_found","_law_row"] ["_law_rows"] (ar Li):=∅
abbrev Lj:Stmt:=top 63
def sc_69:aB ["_law_script","_law_drawn_here","_law_program","_law_table","_law_kept","_law_net","_law_many","_law_again"] ["_law_script"] (ar Lj):=∅
def kvs_SORTS:List (Key×V):=[(.inr "plus",.int 0),(.inr "less",.int 0),(.inr "below",.int 1),(.inr "same",.int 1),(.inr "and",.int 2),(.inr "or",.int 2),(.inr "xor",.int 2)]
set_option genInjectivity false in
structure Ad where
 pr:Params
 D10:Addr
 k10:Tok
 C10:Addr
 C11:Addr
 C12:Addr
 C13:Addr
 C14:Addr
 f_0:Addr
 e_0:FuncData
 f_1:Addr
 e_1:FuncData
 f_2:Addr
 e_2:FuncData
 f_3:Addr
 e_3:FuncData
 f_4:Addr
 e_4:FuncData
 f_5:Addr
 e_5:FuncData
 f_6:Addr
 e_6:FuncData
 f_7:Addr
 e_7:FuncData
 f_8:Addr
 e_8:FuncData
 f_9:Addr
 e_9:FuncData
 f_10:Addr
 e_10:FuncData
 f_11:Addr
 e_11:FuncData
 f_12:Addr
 e_12:FuncData
 f_13:Addr
 e_13:FuncData
 f_14:Addr
 e_14:FuncData
 f_15:Addr
 e_15:FuncData
 f_16:Addr
 e_16:FuncData
 f_17:Addr
 e_17:FuncData
 f_18:Addr
 e_18:FuncData
 f_19:Addr
 e_19:FuncData
 f_20:Addr
 e_20:FuncData
 f_21:Addr
 e_21:FuncData
 f_22:Addr
 e_22:FuncData
 f_23:Addr
 e_23:FuncData
 f_24:Addr
 e_24:FuncData
 f_25:Addr
 e_25:FuncData
 f_26:Addr
 e_26:FuncData
 f_27:Addr
 e_27:FuncData
 f_28:Addr
 e_28:FuncData
 f_29:Addr
 e_29:FuncData
 f_30:Addr
 e_30:FuncData
 f_31:Addr
 e_31:FuncData
 f_32:Addr
 e_32:FuncData
 f_33:Addr
 e_33:FuncData
 f_34:Addr
 e_34:FuncData
 f_35:Addr
 e_35:FuncData
 f_36:Addr
 e_36:FuncData
 f_37:Addr
 e_37:FuncData
 f_38:Addr
 e_38:FuncData
 f_39:Addr
 e_39:FuncData
 f_40:Addr
 e_40:FuncData
 f_41:Addr
 e_41:FuncData
 f_42:Addr
 e_42:FuncData
 f_43:Addr
 e_43:FuncData
 f_44:Addr
 e_44:FuncData
 f_45:Addr
 e_45:FuncData
 f_46:Addr
 e_46:FuncData
 f_47:Addr
 e_47:FuncData
 f_48:Addr
 e_48:FuncData
 f_49:Addr
 e_49:FuncData
 f_50:Addr
 e_50:FuncData
 f_51:Addr
 e_51:FuncData
 f_52:Addr
 e_52:FuncData
 f_53:Addr
 e_53:FuncData
 f_54:Addr
 e_54:FuncData
 f_55:Addr
 e_55:FuncData
 f_56:Addr
 e_56:FuncData
 f_57:Addr
 e_57:FuncData
 f_58:Addr
 e_58:FuncData
 f_59:Addr
 e_59:FuncData
 f_60:Addr
 e_60:FuncData
 f_61:Addr
 e_61:FuncData
 f_62:Addr
 e_62:FuncData
 f_63:Addr
 e_63:FuncData
 f_64:Addr
 e_64:FuncData
 f_65:Addr
 e_65:FuncData
 f_66:Addr
 e_66:FuncData
 f_67:Addr
 e_67:FuncData
 f_68:Addr
 e_68:FuncData
 f_69:Addr
 e_69:FuncData
structure Txt(K:N5)(mg:Str->N6)(t:Ad):Prop where
 g10:mg "SORTS"=some (.ref t.D10)
 k11:qA K t.pr t.D10 kvs_SORTS
 g11:mg "MOST_DEEDS"=some (.int 8 t.k10)
 c10:KlsAt K mg "Parting" t.C10
 n10:NoAttr K t.C10 "blocks"
 c11:KlsAt K mg "Program" t.C11
 n11:NoAttr K t.C11 "width"
 n12:NoAttr K t.C11 "ins"
 n13:NoAttr K t.C11 "boxes"
 n15:NoAttr K t.C11 "rows"
 c12:KlsAt K mg "Layer" t.C12
 n16:NoAttr K t.C12 "units"
 n17:NoAttr K t.C12 "sorts"
 n18:NoAttr K t.C12 "gaps"
 c13:KlsAt K mg "Sheet" t.C13
 n19:NoAttr K t.C13 "rows"
 n20:NoAttr K t.C13 "known"
 c14:KlsAt K mg "Net" t.C14
 n21:NoAttr K t.C14 "rows"
 n22:NoAttr K t.C14 "boxes"
 n23:NoAttr K t.C14 "tell"
 n24:NoAttr K t.C14 "said"
 n25:NoAttr K t.C14 "stop"
 d_0:bh K t.C11 "__init__" "Program.__init__" s_0 ["self","width","ins","boxes","rows"] t.f_0 t.e_0
 d_1:br K mg "copied" s_1 ["rows"] t.f_1 t.e_1
 d_2:br K mg "copied_row" s_2 ["row"] t.f_2 t.e_2
 d_3:br K mg "operands_of" s_3 ["deed"] t.f_3 t.e_3
 d_4:br K mg "boxes_read" s_4 ["deed"] t.f_4 t.e_4
 d_5:br K mg "box_written" s_5 ["deed"] t.f_5 t.e_5
 d_6:br K mg "sort_of" s_6 ["deed"] t.f_6 t.e_6
 d_7:bh K t.C13 "__init__" "Sheet.__init__" s_7 ["self"] t.f_7 t.e_7
 d_8:bh K t.C13 "written" "Sheet.written" s_8 ["self","row"] t.f_8 t.e_8
 d_9:bh K t.C13 "fixed" "Sheet.fixed" s_9 ["self","bit"] t.f_9 t.e_9
 d_10:bh K t.C13 "taken_in" "Sheet.taken_in" Kf ["self","name","bit"] t.f_10 t.e_10
 d_11:bh K t.C13 "inverse" "Sheet.inverse" Kg ["self","a"] t.f_11 t.e_11
 d_12:bh K t.C13 "both" "Sheet.both" Kh ["self","a","b"] t.f_12 t.e_12
 d_13:bh K t.C13 "either" "Sheet.either" Ki ["self","a","b"] t.f_13 t.e_13
 d_14:bh K t.C13 "unlike" "Sheet.unlike" Kj ["self","a","b"] t.f_14 t.e_14
 d_15:bh K t.C13 "any_of" "Sheet.any_of" Kk ["self","wires"] t.f_15 t.e_15
 d_16:bh K t.C13 "in_order" "Sheet.in_order" Kl ["self","kind","a","b"] t.f_16 t.e_16
 d_17:bh K t.C13 "is_fixed" "Sheet.is_fixed" Km ["self","wire","bit"] t.f_17 t.e_17
 d_18:bh K t.C13 "are_inverse" "Sheet.are_inverse" Kn ["self","a","b"] t.f_18 t.e_18
 d_19:bh K t.C13 "latch" "Sheet.latch" Ko ["self"] t.f_19 t.e_19
 d_20:bh K t.C13 "lead" "Sheet.lead" Kp ["self","latch","wire"] t.f_20 t.e_20
 d_21:br K mg "wires_made" Kq ["sheet","deed","boxes","width"] t.f_21 t.e_21
 d_22:br K mg "operand_wires" Kr ["sheet","operand","boxes","width"] t.f_22 t.e_22
 d_23:br K mg "wires_reckoned" Ks ["sheet","op","xs","ys"] t.f_23 t.e_23
 d_24:br K mg "sum_wires" Kt ["sheet","xs","ys","carry"] t.f_24 t.e_24
 d_25:br K mg "lone_bit" Ku ["sheet","wire","width"] t.f_25 t.e_25
 d_26:br K mg "wires_chosen" Kv ["sheet","choices","width"] t.f_26 t.e_26
 d_27:bh K t.C14 "__init__" "Net.__init__" Kw ["self","rows","boxes","tell","said","stop"] t.f_27 t.e_27
 d_28:Gh K mg "net_of" Kx ["program","table","coded"] t.f_28 t.e_28 [.bool false]
 d_29:br K mg "lone_marks" Ky ["sheet","latches"] t.f_29 t.e_29
 d_30:br K mg "lone_leads" Kz ["sheet","coming"] t.f_30 t.e_30
 d_31:br K mg "marks_coming" KA ["sheet","table","boxes","marks"] t.f_31 t.e_31
 d_32:br K mg "write_choices" KB ["sheet","program","table","boxes","marks","name"] t.f_32 t.e_32
 d_33:br K mg "lead_box" KC ["sheet","program","name","boxes","choices"] t.f_33 t.e_33
 d_34:br K mg "blocks_of" KD ["program"] t.f_34 t.e_34
 d_35:bh K t.C10 "__init__" "Parting.__init__" KE ["self"] t.f_35 t.e_35
 d_36:bh K t.C10 "keep_place" "Parting.keep_place" KF ["self"] t.f_36 t.e_36
 d_37:bh K t.C10 "numbered" "Parting.numbered" KG ["self","block"] t.f_37 t.e_37
 d_38:bh K t.C10 "way_to" "Parting.way_to" KH ["self","block"] t.f_38 t.e_38
 d_39:bh K t.C10 "opened" "Parting.opened" KI ["self","rows","block"] t.f_39 t.e_39
 d_40:bh K t.C10 "with_row" "Parting.with_row" KJ ["self","row","block"] t.f_40 t.e_40
 d_41:bh K t.C10 "with_if" "Parting.with_if" KL ["self","row","block"] t.f_41 t.e_41
 d_42:bh K t.C10 "with_while" "Parting.with_while" KM ["self","row","block"] t.f_42 t.e_42
 d_43:br K mg "led_anew" KN ["ending","places"] t.f_43 t.e_43
 d_44:br K mg "gap" KO ["deeds","j","k"] t.f_44 t.e_44
 d_45:br K mg "laid" KP ["deeds","units"] t.f_45 t.e_45
 d_46:bh K t.C12 "__init__" "Layer.__init__" KQ ["self","deeds","units"] t.f_46 t.e_46
 d_47:bh K t.C12 "full_beats" "Layer.full_beats" KR ["self","done"] t.f_47 t.e_47
 d_48:bh K t.C12 "grown" "Layer.grown" KS ["self","done","beats","place"] t.f_48 t.e_48
 d_49:bh K t.C12 "has_room" "Layer.has_room" KU ["self","done","beat","missing"] t.f_49 t.e_49
 d_50:bh K t.C12 "fits" "Layer.fits" KW ["self","done","beat","place"] t.f_50 t.e_50
 d_51:br K mg "table_of" KY ["program","units"] t.f_51 t.e_51
 d_52:br K mg "beats_of" KZ ["block","units"] t.f_52 t.e_52
 d_53:br K mg "writes" L0 ["deeds","name"] t.f_53 t.e_53
 d_54:br K mg "_law_whole" L3 ["_law_found"] t.f_54 t.e_54
 d_55:br K mg "_law_at" L4 ["_law_script","_law_k"] t.f_55 t.e_55
 d_56:br K mg "_law_mixed" L5 ["_law_cell","_law_k"] t.f_56 t.e_56
 d_57:br K mg "_law_names" L6 ["_law_number","_law_many"] t.f_57 t.e_57
 d_58:br K mg "_law_operand" L7 ["_law_number","_law_names_here","_law_top"] t.f_58 t.e_58
 d_59:br K mg "_law_deed" L8 ["_law_number","_law_names_here","_law_top"] t.f_59 t.e_59
 d_60:br K mg "_law_statements" L9 ["_law_numbers","_law_names_here","_law_top","_law_deep"] t.f_60 t.e_60
 d_61:br K mg "_law_folds" La ["_law_script","_law_start","_law_many"] t.f_61 t.e_61
 d_62:br K mg "_law_drawn" Lc ["_law_script","_law_many"] t.f_62 t.e_62
 d_63:br K mg "_law_units" Ld ["_law_cell"] t.f_63 t.e_63
 d_64:br K mg "_law_wire" Le ["_law_found","_law_most"] t.f_64 t.e_64
 d_65:br K mg "_law_fine_row" Lf ["_law_row","_law_at_here","_law_many","_law_drawn_here"] t.f_65 t.e_65
 d_66:br K mg "_law_wires" Lg ["_law_found","_law_many","_law_width"] t.f_66 t.e_66
 d_67:br K mg "_law_net_fine" Lh ["_law_net","_law_drawn_here"] t.f_67 t.e_67
 d_68:br K mg "_law_copied" Li ["_law_rows"] t.f_68 t.e_68
 d_69:br K mg "law" Lj ["_law_script"] t.f_69 t.e_69
 z11:mg "range"=none
 z12:mg "isinstance"=none
 z13:mg "int"=none
 z14:mg "bool"=none
 z15:mg "len"=none
 z16:mg "str"=none
 z17:mg "tuple"=none
 z18:mg "sum"=none
 z19:mg "list"=none
 z20:mg "min"=none
 z21:mg "reversed"=none
 z22:mg "enumerate"=none
 z23:mg "sorted"=none
 z24:mg "any"=none
 z25:mg "zip"=none
 z26:mg "set"=none
 z27:mg "max"=none
 z28:mg "dict"=none
def Aq{K:N5}{pr:Params}{D:Addr}{h0 h1 h2 h3 h4 h5 h6:Int}{t0 u0 t1 u1 t2 u2 t3 u3 t4 u4 t5 u5 t6 u6:Tok}{ep:Nat}(l:K.lookup D=some {.type "dict",none,.dict (List.toArray [{h0,.str "plus" t0,.int 0 u0},{h1,.str "less" t1,.int 0 u1},{h2,.str "below" t2,.int 1 u2},{h3,.str "same" t3,.int 1 u3},{h4,.str "and" t4,.int 2 u4},{h5,.str "or" t5,.int 2 u5},{h6,.str "xor" t6,.int 2 u6}]) ep,#[]}) (s:(D==sysModules)=false) (hD:[h0,h1,h2,h3,h4,h5,h6]=kvs_SORTS.map (λkv=>GI pr kv.1)):qA K pr D kvs_SORTS:=by simp only [kvs_SORTS,List.map_cons,List.map_nil,List.cons.injEq,and_true] at hD;obtain ⟨e0,e1,e2,e3,e4,e5,e6⟩:=hD;show {_,_,l,s,Ol,.cons {Om,e0,{_,rfl}} (.cons {Om,e1,{_,rfl}} (.cons {Om,e2,{_,rfl}} (.cons {Om,e3,{_,rfl}} (.cons {Om,e4,{_,rfl}} (.cons {Om,e5,{_,rfl}} (.cons {Om,e6,{_,rfl}} (.nil)))))))}
variable {H:Hp} {u:TS}
def ic(u:TS)(D:dJ):L2.St->Hp->Prop:=u D
def later{D:dJ}{σ:L2.St}(h:u D σ H):ic u D σ H:=h
def BI{t:TS}{D:dJ}{σ:L2.St}:CB t u D σ H=t {D with nx:=ic u D} σ H:=rfl
def BB{t:TS}{D:dJ}{σ:L2.St}:IF t u D σ H=∃Mid:L2.St->Hp->Prop,t {D with nx:=Mid} σ H/\∀σ' H',Mid σ' H'->ic u D σ' H':=rfl
def HW{c:TT}{t:TS}{D:dJ}{σ:L2.St}:IE c t u D σ H=c σ H λb H1=>if b=true then ic t D σ H1 else ic u D σ H1:=rfl
end K61
local macro_rules | `(tactic| simp_arith! [$ts,*])=>`(tactic| simp_arith [-L2.BH,-L2.BA,K61.BI,K61.BB,$ts,*])
local macro_rules|`(tactic|erw [$[$ts:term],*])=>`(tactic|simp_arith! [$[$ts:term],*])
local macro_rules | `(tactic| simp_arith only [$ts,*])=>`(tactic| simp_arith [-L2.BH,-L2.Fw,-L2.BA,K61.BI,K61.HW,K61.BB,$ts,*])
namespace K61
open PySem L2 PyProof.Rows FD FB FS FO FR FG J4
def sS:Sp:=λvs H Q _=>∃c k:Int,vs=[.int c,.int k]/\Builtin.Int.intBits c<=2 ^ 20/\0<=k/\k<=1000/\Q (.int (j6 c k)) H
def g9{c k:Int}{H:Hp}{Q:VK}{E:XK}:sS [.int c,.int k] H Q E=(Builtin.Int.intBits c<=2 ^ 20/\0<=k/\k<=1000/\Q (.int (j6 c k)) H):=propext {by rintro ⟨_,_,e,q⟩;cases e;show q,by intro q;show ⟨c,k,rfl,q⟩}
def FH(K:N5):Sp:=λvs H Q _=>∃(a:Addr)(ns:N3)(k:Int),vs=[.ref a,.int k]/\SqL K H a (ns.map V.int)/\0<=k/\Q (.int (atF ns k)) H
section
variable {P:Program} {w:World} {K:N5} {mg:Str->N6} {base:Heap} {t:Ad}
def JF{a:Addr}{k:Int}{H:Hp}{Q:VK}{E:XK}:FH K [.ref a,.int k] H Q E=∃ns:N3,SqL K H a (ns.map V.int)/\0<=k/\Q (.int (atF ns k)) H:=propext {by rintro ⟨_,ns,_,e,q⟩;cases e;show ⟨ns,q⟩,by rintro ⟨ns,q⟩;show ⟨a,ns,k,rfl,q⟩}
def mi(T:Txt K mg t):FnOk P w K mg base CX0 1 t.f_56 t.e_56 ["_law_cell","_law_k"] sS:=by
 show T.d_56.F.ok sc_56 ∅ ?_;rintro cdv A outer s H vs Q E hr ⟨c,k,rfl,hb,k0,k1,q⟩;show {_,(XSs.h (af (aM (aA IO (!0) (ax xB ai ai) (aH _)) (aj (ao (ax aZ (ax bo (ax dD (!0) (ax xB ai ai)) (ax ql ai (ax dC ai (ax aZ (!1) ai)))) (ax ql ai ai)))) aF) (af (aw (i:=2) sc_56.nd rfl ll (ax aZ (ax bM (ax bM (ax dC (!0) ai) (ax dC (ax dC ai (!1)) (!1))) (!1)) ai)) (af (aw (i:=2) sc_56.nd rfl ll (ax aZ (ax dC (!2) (!2)) ai)) (aj (ao (ax aZ (ax dC (!2) ai) ai))))))),?_}
 ac_rfl;rwa [];unfold j6 at q;let cp:zy 10 40:=⟨On,On,On⟩
 show {cp,aJ (λe=>?_) (λe=>?_)}
 ·rw [zq1 e] at q;let m0:0<=k % 60:=i8 _ On;let m1:k % 60<60:=nJ _ On;show {cp,.inl ⟨On,On⟩,⟨Oo,Oo,On⟩,FA.CDivB.pow Oo,⟨On,On,On⟩,On,q}
 ·rw [zq0 e] at q;let n0:0<=(c * 1103515245+7919 * k * k+k) % 2147483647:=i8 _ On;let n1:(c * 1103515245+7919 * k * k+k) % 2147483647<2147483647:=nJ _ On;show {.inr ⟨On,On⟩,.inl ⟨On,On⟩,.inr ⟨Oo,Oo⟩,.inl ⟨Oo,Oo⟩,.inr ⟨On,On⟩,q}
def Fp(T:Txt K mg t):FnOk P w K mg base CX0 1 t.f_55 t.e_55 ["_law_script","_law_k"] (FH K):=by
 show T.d_55.F.ok LI ∅ ?_;rintro cdv A outer s H vs Q E hr ⟨a,ns,k,rfl,hS,k0,q⟩;show {_,(XSs.h (af (aM (aA jS (!1) (az aC gl T.z15 Nm #[!0]) (aH _)) (aj (ao (aq aP (!0) (!1)))) aF) (aj (ao ai)))),?_}
 ac_rfl;rwa [];unfold atF at q;show {_,.inl hS,aJ (λe=>?_) (λe=>?_)}
 ·rw [zq3] at e;rw [zq1 e] at q;obtain ⟨n,rfl⟩:=vo k0;let hn:n<ns.length:=by omega
  show {_,_,hS,bO (by rw [bP,bN hn];rfl),?_};rw [eh,eK,bN hn] at q;show q
 ·rw [zq3] at e;rw [zq0 e] at q;show q
def sp_law(K:N5):Sp:=λvs H Q _=>∃(a:Addr)(ns:N3),vs=[.ref a]/\SqL K H a (ns.map V.int)/\ns.length<=63/\(∀z∈ns,Builtin.Int.intBits z<=2 ^ 20)/\∀H',Q (.bl true) H'
def sX(K:N5):Sp:=λvs H Q _=>∃(x:V)(k:String),vs=[x]/\gC K H x k/\Q (.bl (decide (k="int"))) H
def B2(T:Txt K mg t):FnOk P w K mg base CX0 1 t.f_54 t.e_54 ["_law_found"] (sX K):=by
 show T.d_54.F.ok LH ∅ ?_;rintro cdv A outer s H vs Q E hr ⟨x,k,rfl,hk,q⟩;show {_,(XSs.h (aj (ao (cx (az dk gl T.z12 boot_isinstance #[!0,(dy (v:=.ty "int") gl T.z13 boot_int rfl)]) (dB (F7 (az dk gl T.z12 boot_isinstance #[!0,(dy (v:=.ty "bool") gl T.z14 boot_bool rfl)]))))))),?_}
 ac_rfl;rwa [];show {x,"int",k,rfl,Ol,hk,_,rfl,iW (λe=>{x,"bool",k,rfl,Ol,hk,_,rfl,?_}) (λe=>?_)}
 ·let h:k="int"\/k="bool":=by
   unfold ix at e;rw [nH,eN] at e;rcases e with e | e
   ·show .inl (by simpa using e)
   ·show .inr (by simpa using e.1)
  rcases h with rfl | rfl
  ·show q
  ·show q
 ·let h:¬k="int":=λz=>by subst z;show absurd e Ol
  rw [cR h] at q;show q
def yO{i:Int}{H:Hp}{Q:VK}{E:XK}:sX K [.int i] H Q E=Q (.bl true) H:=propext {by rintro ⟨_,_,e,k,q⟩;cases e;cases k;show q,by intro q;show {_,_,rfl,.int,q}}
variable {n:Int}
def sT:Sp:=λvs H Q _=>∃n m:Int,vs=[.int n,.int m]/\0<=n/\0<=m/\m<=8/\∀p H',Same H H'->H p=none->H' p=some (.lst ((fE n m.toNat).map V.str))->Q (.ref p) H'
def EN{m:Int}{H:Hp}{Q:VK}{E:XK}:sT [.int n,.int m] H Q E=(0<=n/\0<=m/\m<=8/\∀p H',Same H H'->H p=none->H' p=some (.lst ((fE n m.toNat).map V.str))->Q (.ref p) H'):=propext {by rintro ⟨_,_,e,q⟩;cases e;show q,by intro q;show ⟨n,m,rfl,q⟩}
def EZ:(List.range (1+n % 6).toNat).map (λi:Nat=>V.int (n / ((i:Int)+1) % 26))=(bU n).map V.int:=by unfold bU;rw [gm];rfl
def il(n:Int)(j:Nat):N3:=(List.range (bU n).length).map λk:Nat=>(bU n).getD k 0+3 * (j:Int) * (if decide ((k:Int)=n / 64 % ((bU n).length:Int))=true then 1 else 0)
def yY{j:Nat}:Txt.join "" ((il n j).map di)=m6 n j:=by unfold il m6;rw [gm];rfl
def uw{z:Int}:(di z).length=1:=rfl
def Ct{xs:N3}:((xs.map di).map (·.length)).sum=xs.length:=by
 induction xs with
 |nil=>rfl
 |cons x xs ih=>rw [cH,cH,u9,ih,uw,cG];omega
def AX(T:Txt K mg t):FnOk P w K mg base CX0 1 t.f_57 t.e_57 ["_law_number","_law_many"] sT:=by
 show T.d_57.F.ok sc_57 ∅ ?_;rintro cdv A outer s H vs Q E hr ⟨n,m,rfl,n0,m0,m8,q⟩;show {_,(XSs.h (af (aw (i:=2) sc_57.nd rfl lc aG) (af (aw (i:=3) sc_57.nd rfl lc (aU (tns:=["_law_k"]) (cns:=["_law_number"]) (ci:=[0]) rfl (Np Om) (bL gl T.z11 #[ax bM ai (ax aZ (yqv 0 vc) ai)]) (λ_=>(ay (i:=1) (show List.Nodup [(".0":Str),("_law_k":Str),("_law_number":Str)] by decide +kernel) rfl ll (Or.inr Om))) (λ_=>bf) (λ_=>(ax aZ (ax bo (yqv 2 vc) (ax bM (!1) ai)) ai)))) (af (aw (i:=4) sc_57.nd rfl lc (ax aZ (ax bo (yqv 0 vc) ai) (az aC gl T.z15 Nm #[yqv 3 vc]))) (af (aw (i:=5) sc_57.nd rfl ll (aR ac)) (af (bv PassesOwn.never rfl (bL gl T.z11 #[!1]) (ay (i:=6) sc_57.nd rfl lc) (af (cK (i:=7) sc_57.nd rfl ll rfl Om (tns:=["_law_k"]) (cns:=["_law_some","_law_at_here","_law_j"]) (ci:=[3,4,6]) rfl (Np Om) (bL gl T.z11 #[az aC gl T.z15 Nm #[yqv 3 vc]]) (λ_=>(ay (i:=1) (show List.Nodup [(".0":Str),("_law_k":Str),("_law_some":Str),("_law_at_here":Str),("_law_j":Str)] by decide +kernel) rfl ll (Or.inr Om))) (λ_=>bf) (λ_=>(ax bM (aq aP (yqv 2 vc) (!1)) (ax dC (ax dC ai (yqv 4 vc)) (c6 oe gl T.z13 boot_int #[bu bi (!1) (yqv 3 vc) (aH _)]))))) (aj (aT (bH Nk Ni Nj aS (!5) #[(bH PySem.F.plainAttrs_str PySem.F.slot_str_join PySem.F.type_str_join E1 aG #[(aU (tns:=["_law_spot"]) (cns:=["_law_letters"]) (ci:=[2]) rfl (Np Om) (aX (!7)) (λ_=>(ay (i:=1) (show List.Nodup [(".0":Str),("_law_spot":Str),("_law_letters":Str)] by decide +kernel) rfl ll (Or.inr Om))) (λ_=>bf) (λ_=>(aq GH (yqv 2 vc) (ax aZ (!1) ai))))])]))))) (af (aM (aA bi (ax aZ (ax bo (yqv 0 vc) ai) ai) ai (aH _)) (aj (aw (i:=5) sc_57.nd rfl ll (bD cO (aR (eZ Os)) cj (bE (!1))))) aF) (aj (ao (!5)))))))))),?_}
 ac_rfl;rwa [];let z0:0<=n % 6:=i8 _ On;let z1:n % 6<6:=nJ _ On;let hln:=jg n;let hl1:1<=(bU n).length/\(bU n).length<=6:=by omega
 show {Oo,Oo,λacc hacc bk=>vK (λi=>V.int (n / ((i:Int)+1) % 26)) (by rw [bB];omega) hacc (λi hi H3 Q' s3 h=>?_) ?_}
 ·rwa [];show {Nr Oo (by omega +splitNatSub),h}
 rw [EZ];unfold fE at q;let sA:Same H (upd H acc (.lst ((bU n).map V.int))):=Ng hacc;show {Nr On On,_,.inl (Nh ae),by rw [zq3];omega,λp0 hp0=>{Oo,Oo,?_}};let hq0:H p0=none:=sA.free hp0;rw [zq3];show jx (λj σ H'=>Same (upd H acc (.lst ((bU n).map V.int))) H'/\H' p0=some (.lst ((List.range j).map λi=>V.str (m6 n i)))/\∃o6 o7,σ=[some (.int n),some (.int m),some (.str "abcdefghijklmnopqrstuvwxyz"),some (.ref acc),some (.int (n / 64 % ((bU n).length:Int))),some (.ref p0),o6,o7])
  {Ng hp0,ae,_,_,rfl} ?_ ?_
 ·rintro j σ H' hj ⟨sm,hl,o6,o7,rfl⟩;rwa [];let hA:H' acc=some (.lst ((bU n).map V.int)):=sm _ _ ae;show {_,.inl (Nh hA),by rw [zq3];omega,by rw [zq3];omega +splitNatSub,λb hb bk=>?_};rw [eh,zq3];show vK (λk=>V.int ((bU n).getD k 0+3 * (j:Int) * (if decide ((k:Int)=n / 64 % ((bU n).length:Int))=true then 1 else 0))) (by rw [bB];omega) hb (λk hk H3 Q' s3 h=>?_) ?_
  ·rwa [];show {_,_,Nh (s3 _ _ hA),bO (v:=V.int ((bU n).getD k 0)) (by rw [bP,eK,bN hk];rfl),?_};rwa [];show {.inl ⟨On,On⟩,.inl ⟨Oo,(by omega +splitNatSub)⟩,h}
  let e1:(List.range (bU n).length).map (λk:Nat=>V.int ((bU n).getD k 0+3 * (j:Int) * (if decide ((k:Int)=n / 64 % ((bU n).length:Int))=true then 1 else 0)))=(il n j).map V.int:=by unfold il;rw [gm];rfl
  rw [e1];let s1:=Ng (o:=.lst ((il n j).map V.int)) hb;let hs6:(il n j).length<=6:=by unfold il;simp;omega
  show {.inl {rfl,_,Nh (s1 _ _ hl)},{_,Nh ae},λc hc bk2=>?_};show DE (λx=>match x with | .int i=>.str (di i) | _=>.non) (by rw [zq3,bB];omega) (Nh ae) hc (λx hx H3 Q' s3 h=>?_) ?_
  ·obtain ⟨i,_,rfl⟩:=zq32.mp hx;rwa [];show {Ol,_,FA.GN i,h}
  let e2:((il n j).map V.int).map (λx=>match x with | .int i=>V.str (di i) | _=>.non)=((il n j).map di).map V.str:=by rw [gm,gm];rfl
  rw [e2];let s2:=s1.updN (o:=.lst (((il n j).map di).map V.str)) hc;show {_,Nh ae,?_,_,s2 _ _ hl,?_,(sm.trans s2).updM hp0,?_,_,_,rfl}
  ·rw [Ct,zq3];let this:("":Str).length=0:=by decide +kernel
   rw [this];omega
  ·rw [zq3,fi,bB];omega
  ·rw [ae,yY,zt,dN];rfl
 ·rintro σ H' ⟨sm,hl,o6,o7,rfl⟩;rwa [];show {Nr On On,aJ (λe=>?_) (λe=>?_)}
  ·rw [zq1 e] at q;intro b hb;show {_,Nh ae,λc hc=>?_};show q c _ ((sA.trans sm).trans ((Ng hb).updN hc)) ((sA.trans sm).free ((Ng hb).free hc)) ?_;rw [ae,kK m0,zx];rfl
  ·rw [zq0 e] at q;show q p0 H' (sA.trans sm) hq0 ?_;rw [hl,gm];rfl
structure NmsV(K:N5)(H:Hp)(b:Addr)(ns:N0)(wd:Int):Prop where
 at_:SqL K H b (ns.map V.str)
 pos:0<ns.length
 few:ns.length<=8
 w1:1<=wd
 w8:wd<=8
def NmsV.same{K:N5}{H H':Hp}{b:Addr}{ns:N0}{wd:Int}(h:NmsV K H b ns wd)(s:Same H H'):NmsV K H' b ns wd:={s.seq h.at_,h.pos,h.few,h.w1,h.w8}
def vE(K:N5)(n:Int)(b:Addr)(top:Int)(H:Hp)(Q:VK):Prop:=∃(ns:N0)(wd:Int),top=1 * 2 ^ wd.toNat/\NmsV K H b ns wd/\∀(o:Opd)H',Same H H'->Opd.good ns wd o->Q o.v H'
def xj(K:N5):Sp:=λvs H Q _=>∃(n:Int)(b:Addr)(top:Int),vs=[.int n,.ref b,.int top]/\vE K n b top H Q
def BE{n:Int}{b:Addr}{top:Int}{H:Hp}{Q:VK}{E:XK}:xj K [.int n,.ref b,.int top] H Q E=vE K n b top H Q:=∅
def pQ{ns:N0}{x:Int}(h:0<ns.length):∃n∈ns,atI (ns.map V.str) (x % ((ns.map V.str).length:Int))=some (V.str n):=by
 let l0:(0:Int)<((ns.map V.str).length:Int):=by rw [zq3];omega
 let h0:=i8 x (show ((ns.map V.str).length:Int)≠0 by omega);let h1:=nJ x l0;generalize x % ((ns.map V.str).length:Int)=y at h0 h1;obtain ⟨m,rfl⟩:∃m:Nat,y=(m:Int):=⟨y.toNat,Oo⟩
 rw [zq3] at h1;show {ns[m],kB Oo,bO ?_};rw [bP,bN Oo];rfl
def Eb(T:Txt K mg t):FnOk P w K mg base CX0 1 t.f_58 t.e_58 ["_law_number","_law_names_here","_law_top"] (xj K):=by
 show T.d_58.F.ok LJ ∅ ?_;rintro cdv A outer s H vs Q E hr ⟨n,b,top,rfl,ns,wd,htop,hN,q⟩;let hp:(0:Int)<top:=by rw [htop,Int.one_mul];show Int.pow_pos On
 show {_,(XSs.h (af (aM (aA bi (ax aZ (!0) ai) ai (aH _)) (aj (ao (ax aZ (aq aP (aR (aa (ax aZ (ax bo (!0) ai) (!2)) (aa (ax dD (!2) ai) (eZ Os)))) (ax aZ (ax bo (!0) ai) ai)) (!2)))) aF) (aj (ao (aq aP (!1) (ax aZ (ax bo (!0) ai) (az aC gl T.z15 Nm #[!1]))))))),?_}
 ac_rfl;rwa [];show aJ (λ_=>{Nr On On,hp,λp hp0=>{Nr On On,?_}}) (λ_=>?_)
 ·let s1:=Ng (o:=.lst [V.int (n / 12 % top),V.int (top-1),V.int 0,V.int 1]) hp0;obtain ⟨z,hz⟩:∃z:Int,atI [V.int (n / 12 % top),V.int (top-1),V.int 0,V.int 1] (n / 3 % 4)=some (V.int z):=by
   rcases (by omega:n / 3 % 4=0\/n / 3 % 4=1\/n / 3 % 4=2\/n / 3 % 4=3) with e | e | e | e<;>rw [e]
   ·show {_,rfl}
   ·show {_,rfl}
   ·show {_,rfl}
   ·show {_,rfl}
  show {_,_,Nh ae,hz,hp,q (.word (z % top)) _ s1 {i8 _ Oo,?_}};let this:=nJ z hp;rw [htop,Int.one_mul] at this ⊢;show this
 ·obtain ⟨m,hm,he⟩:=pQ (ns:=ns) (x:=n / 3) hN.pos;show {Nr On On,_,.inl hN.at_,by rw [zq3];let this:=hN.pos;omega,_,_,hN.at_,he,q (.box m) H (Nq _) hm}
def kY(K:N5)(n:Int)(b:Addr)(top:Int)(H:Hp)(Q:VK):Prop:=∃(ns:N0)(wd:Int),top=1 * 2 ^ wd.toNat/\NmsV K H b ns wd/\∀(d:Deed)q H',Same H H'->H' q=some (.tup d.vs)->d.fine->Deed.good ns wd d->Q (.ref q) H'
def sL(K:N5):Sp:=λvs H Q _=>∃(n:Int)(b:Addr)(top:Int),vs=[.int n,.ref b,.int top]/\kY K n b top H Q
def pZ{n:Int}{b:Addr}{top:Int}{H:Hp}{Q:VK}{E:XK}:sL K [.int n,.ref b,.int top] H Q E=kY K n b top H Q:=∅
def AR(T:Txt K mg t):FnOk P w K mg base CX0 2 t.f_59 t.e_59 ["_law_number","_law_names_here","_law_top"] (sL K):=by
 show T.d_59.F.ok sc_59 ∅ ?_;rintro cdv A outer s H vs Q E hr ⟨n,b,top,rfl,ns,wd,htop,hN,q⟩;show {_,(XSs.h (af (aw (i:=3) sc_59.nd rfl ll (aq aP (!1) (ax aZ (ax bo (!0) ai) (az aC gl T.z15 Nm #[!1])))) (af (aw (i:=4) sc_59.nd rfl ll (av T.d_58 (Eb T) hr.m #[ax bo (!0) ai,!1,!2] gl)) (af (aw (i:=5) sc_59.nd rfl ll (av T.d_58 (Eb T) hr.m #[ax bo (!0) ai,!1,!2] gl)) (af (aw (i:=6) sc_59.nd rfl ll (ax aZ (!0) ai)) (af (aM (aA jS (!6) ai (aH _)) (aj (ao (aK #[aG,!4]))) aF) (af (aM (aA bi (!6) ai (aH _)) (aj (ao (aK #[aG,!3,!4]))) aF) (aj (ao (aK #[aq aP (aR (eZ Os)) (ax dD (!6) ai),!3,!4,!5])))))))))),?_}
 ac_rfl;rwa [BE];obtain ⟨c,hc,he⟩:=pQ (ns:=ns) (x:=n / 10) hN.pos;show {Nr On On,_,.inl hN.at_,by rw [zq3];let this:=hN.pos;omega,_,_,hN.at_,he,Nr On On,ns,wd,htop,hN,λo H1 s1 ho=>?_};rwa [BE];show {Nr On On,ns,wd,htop,hN.same s1,λo2 H2 s2 ho2=>?_};let s12:=s1.trans s2;show aJ (λ_ p hp=>q (.tell o) p _ (s12.updN hp) ae trivial ho) (λh2=>?_);show aJ (λ_ p hp=>q (.copy c o) p _ (s12.updN hp) ae trivial ⟨hc,ho⟩) (λh3=>?_);intro p hp;let m0:0<=n % 10:=i8 _ On;let m1:n % 10<10:=nJ _ On;obtain ⟨f,hf,hfe⟩:∃f∈opsL,atI [V.str "plus",V.str "less",V.str "and",V.str "or",V.str "xor",V.str "below",V.str "same"] (n % 10-3)=some (V.str f):=by
  rcases (by omega:n % 10-3=0\/n % 10-3=1\/n % 10-3=2\/n % 10-3=3\/n % 10-3=4\/n % 10-3=5\/n % 10-3=6) with e | e | e | e | e | e | e<;>rw [e]
  ·show {"plus",Ol,rfl}
  ·show {"less",Ol,rfl}
  ·show {"and",Ol,rfl}
  ·show {"or",Ol,rfl}
  ·show {"xor",Ol,rfl}
  ·show {"below",Ol,rfl}
  ·show {"same",Ol,rfl}
 show {_,_,Nh ae,hfe,λp2 hp2=>?_};show q (.op f c o o2) p2 _ ((s12.updN hp).updN hp2) ae hf ⟨hf,hc,ho,ho2⟩
def qK(K:N5)(D:Nat)(a b:Addr)(top dp:Int)(H:Hp)(Q:VK):Prop:=∃(ns:N0)(wd:Int)(xs:N3)(e:Nat),top=1 * 2 ^ wd.toNat/\NmsV K H b ns wd/\dp=(e:Int)/\e<D/\SqL K H a (xs.map V.int)/\xs.length<=200/\
 ∀p ys ss g H',Same H H'->(∀c∈p::g,H c=none)->p∉g->H' p=some (.lst ys)->StmsV K H' ys ss g->eP ns wd ss->ce ss<=e->bJ ss<=2 * xs.length->Q (.ref p) H'
def jj(K:N5)(D:Nat):Sp:=λvs H Q _=>∃(a b:Addr)(top dp:Int),vs=[.ref a,.ref b,.int top,.int dp]/\qK K D a b top dp H Q
def StI(K:N5)(H:Hp)(ns:N0)(wd:Int)(e:Nat)(k:Addr)(i:Nat)(H':Hp):Prop:=Same H H'/\∃ys ss g,H' k=some (.lst ys)/\StmsV K H' ys ss g/\k∉g/\(∀c∈g,H c=none)/\eP ns wd ss/\ce ss<=e/\bJ ss<=2 * i
def gZ{D:Nat}{a b:Addr}{top dp:Int}{H:Hp}{Q:VK}{E:XK}:jj K D [.ref a,.ref b,.int top,.int dp] H Q E=qK K D a b top dp H Q:=∅
def StI.add{H H1 H2:Hp}{ns:N0}{wd:Int}{e k i j:Nat}{x:V}{s:Stm}{g2:N2}(h:StI K H ns wd e k i H1)(hk:H k=none)(sm:Same H1 H2)(hx:StmV K H2 x s g2)(f2:∀c∈g2,H1 c=none)(hg:s.good ns wd)(hd:s.deep<=e)(hm:2 * i+s.many<=2 * j)(hj:j<=200):
  ∃ys,H2 k=some (.lst ys)/\ys.length<sizeLine/\StI K H ns wd e k j (upd H2 k (.lst (ys++[x]))):=by
 obtain ⟨s1,ys,ss,g,ek,hy,ng,fg,gd,dp,my⟩:=h;let e2:=sm _ _ ek;let kg2:k∉g2:=λz=>by let this:=f2 k z;rw [ek] at this;cases this
 let tt:TSame H2 (upd H2 k (.lst (ys++[x]))):=Nv e2;let ly:=hy.length;let lm:=j0 ss;show {ys,e2,by rw [bB];omega,(s1.trans sm).updM hk,ys++[x],ss++[s],g++g2,ae,((hy.same sm).keep tt (Kept.upd ng)).snoc (hx.keep tt (Kept.upd kg2)),?_,?_,?_,?_,?_}
 ·intro z;rcases zq27.mp z with z | z
  ·show ng z
  ·show kg2 z
 ·intro c hc;rcases zq27.mp hc with z | z
  ·show fg c z
  ·show s1.free (f2 c z)
 ·show goodL_append.mpr ⟨gd,hg,trivial⟩
 ·rw [iR,ce,ce];omega
 ·rw [g6,bJ,bJ];omega
def uU(T:Txt K mg t)(D:Nat)(G_60:FnOk P w K mg base CX0 (D+3) t.f_60 t.e_60 ["_law_numbers","_law_names_here","_law_top","_law_deep"] (jj K D)):FnOk P w K mg base CX0 (D+4) t.f_60 t.e_60 ["_law_numbers","_law_names_here","_law_top","_law_deep"] (jj K (D+1)):=by
 show T.d_60.F.ok sc_60 ∅ ?_;rintro cdv A outer s H vs Q E hr ⟨a,b,top,dp,rfl,ns,wd,xs,e,htop,hN,rfl,heD,ha,hxl,q⟩;show {_,(XSs.h (af (aw (i:=4) sc_60.nd rfl ll (aR ac)) (af (aw (i:=5) sc_60.nd rfl ll ai) (af (oN PassesOwn.never (aA jS (!5) (az aC gl T.z15 Nm #[!0]) (aH _)) (af (aw (i:=6) sc_60.nd rfl ll (ax bo (aq aP (!0) (!5)) ai)) (af (aw (i:=5) sc_60.nd rfl ll (ax bM (!5) ai)) (af (aw (i:=7) sc_60.nd rfl ll (az (jp rfl) gl T.z20 boot_min #[az aC gl T.z15 Nm #[!0],ax bM (!5) (ax aZ (ax bo (!6) ai) ai)])) (af (aw (i:=8) sc_60.nd rfl ll (az (jp rfl) gl T.z20 boot_min #[az aC gl T.z15 Nm #[!0],ax bM (!7) (ax aZ (ax bo (!6) ai) ai)])) (af (aw (i:=9) sc_60.nd rfl ll (aq aP (!1) (ax aZ (ax bo (!6) ai) (az aC gl T.z15 Nm #[!1])))) (aj (aM (cq (cD (aA bi (!3) ai (aH _)) (cQ (aA qj (ax aZ (aq aP (!0) (ax dD (!5) ai)) ai) ai (aH _))))) (aj (aT (bH Nk Ni Nj aS (!4) #[av T.d_59 (AR T) hr.m #[!6,!1,!2] gl]))) (aj (aM (aA bi (ax aZ (aq aP (!0) (ax dD (!5) ai)) ai) ai (aH _)) (af (aw (i:=10) sc_60.nd rfl ll (av T.d_60 G_60 hr.m #[bD cO (!0) (bE (!5)) (bE (!7)),!1,!2,ax dD (!3) ai] gl)) (af (aT (bH Nk Ni Nj aS (!4) #[aK #[aG,!9,!10,av T.d_60 G_60 hr.m #[bD cO (!0) (bE (!7)) (bE (!8)),!1,!2,ax dD (!3) ai] gl]])) (aj (aw (i:=5) sc_60.nd rfl ll (!8))))) (af (aw (i:=10) sc_60.nd rfl ll (av T.d_60 G_60 hr.m #[bD cO (!0) (bE (!5)) (bE (!7)),!1,!2,ax dD (!3) ai] gl)) (af (aM (aA qj (ax aZ (ax bo (!6) ai) ai) ai (aH _)) (aj (aT (bH Nk Ni Nj aS (!10) #[aK #[aG,!9,!9,ai]]))) aF) (af (aT (bH Nk Ni Nj aS (!4) #[aK #[aG,!9,!10]])) (aj (aw (i:=5) sc_60.nd rfl ll (!7)))))))))))))))) (aj (ao (!4))))))),?_}
 ac_rfl;erw [];intro k hk;let t1:=Ng (o:=.lst []) hk;show later ?_;erw [];show later ?_;erw [];show ⟨λm σ H'=>∃(i:Nat)(o6 o7 o8 o9 o10:N8),m=xs.length-i/\i<=xs.length/\StI K H ns wd e k i H'/\σ=[some (.ref a),some (.ref b),some (.int top),some (.int e),some (.ref k),some (.int i),o6,o7,o8,o9,o10],
  {_,0,_,_,_,_,_,rfl,cE _,{t1,[],[],[],ae,.nil,Oq,Oq,trivial,cE _,cE _},rfl},?_⟩
 rintro m σ H1 ⟨i,o6,o7,o8,o9,o10,rfl,hi,hI,rfl⟩;let s1:=hI.1;erw [];show {_,.inl (s1.seq ha),aJ (λh1=>?_) (λh1=>?_)}
 ·rw [zq3] at h1;show {λσ' H'=>∃(j:Nat)(o6 o7 o8 o9 o10:N8),i<j/\j<=xs.length/\StI K H ns wd e k j H'/\σ'=[some (.ref a),some (.ref b),some (.int top),some (.int e),some (.ref k),some (.int j),o6,o7,o8,o9,o10],?_,?_}
  ·rintro σ' H' ⟨j,o6,o7,o8,o9,o10,h2,h3,h4,rfl⟩;show {xs.length-j,Oo,j,_,_,_,_,_,rfl,h3,h4,rfl}
  ·let hx0:(xs.map V.int)[i]?=some (.int xs[i]):=by rw [bP,bN Oo];rfl
   show {_,_,s1.seq ha,bO hx0,?_};erw [];let hN1:=hN.same s1;obtain ⟨nm,hnm,hne⟩:=pQ (ns:=ns) (x:=xs[i] / 16 / 1024) hN.pos;obtain ⟨ct,hct,c1,c2⟩:∃ct:Nat,(if (i:Int)+1+xs[i] / 16 / 16 % 5<(xs.length:Int) then (i:Int)+1+xs[i] / 16 / 16 % 5 else (xs.length:Int))=(ct:Int)/\i+1<=ct/\ct<=xs.length:=by
    let h0:0<=xs[i] / 16 / 16 % 5:=i8 _ On
    split
    ·show {((i:Int)+1+xs[i] / 16 / 16 % 5).toNat,Oo,Oo,Oo}
    ·show ⟨xs.length,rfl,Oo,Oo⟩
   obtain ⟨en,hen,e1,e2⟩:∃en:Nat,(if (ct:Int)+xs[i] / 16 / 128 % 4<(xs.length:Int) then (ct:Int)+xs[i] / 16 / 128 % 4 else (xs.length:Int))=(en:Int)/\ct<=en/\en<=xs.length:=by
    let h0:0<=xs[i] / 16 / 128 % 4:=i8 _ On
    split
    ·show {((ct:Int)+xs[i] / 16 / 128 % 4).toNat,Oo,Oo,Oo}
    ·show ⟨xs.length,rfl,Oo,Oo⟩
   show {Nr On On,later ?_};erw [];show later ?_;erw [];show {_,.inl (s1.seq ha),Nr On On,?_};rw [zq3,hct];show later ?_;erw [];show {_,.inl (s1.seq ha),Nr On On,?_};rw [zq3,hen];show later ?_;erw [];show {Nr On On,_,.inl hN1.at_,by rw [zq3];let this:=hN.pos;omega,_,_,hN1.at_,hne,?_};show later ?_;erw [gZ,pZ];let ei1:(i:Int)+1=((i+1:Nat):Int):=by omega
   let deedC:tyV K "list" (V.ref k) H1/\kY K (xs[i] / 16) b top H1 λx H1=>∃xs_2,H1 k=some (HO.lst xs_2)/\xs_2.length<sizeLine/\∃(j:Nat)(o6 o7 o8 o9 o10_1:N8),i<j/\j<=xs.length/\StI K H ns wd e k j (upd H1 k (HO.lst (xs_2++[x])))/\
     [some (V.ref a),some (V.ref b),some (V.int top),some (V.int ↑e),some (V.ref k),some (V.int ((i:Int)+1)),some (V.int (xs[i] / 16)),some (V.int ct),some (V.int en),some (V.str nm),o10]=[some (V.ref a),some (V.ref b),some (V.int top),some (V.int ↑e),some (V.ref k),some (V.int ↑j),o6,o7,o8,o9,o10_1]:=by
    obtain ⟨_,ys0,_,_,ek,_⟩:=id hI;show {.inl {rfl,_,Nh ek},ns,wd,htop,hN1,λd q0 H2 s2 hq hf hgd=>?_};obtain ⟨ys,e5,l5,hI2⟩:=hI.add (j:=i+1) hk s2 (.deed hf (Nl hq)) Oq hgd (cE _) (by rw [Stm.many];omega) Oo;show {ys,e5,l5,i+1,_,_,_,_,_,Oo,Oo,hI2,by rw [ei1]}
   show aJ (λhe0=>?_) (λhe0=>?_)
   ·rw [zq1 trivial];show deedC
   let hx1:atI (xs.map V.int) ((i:Int)+1-1)=some (.int xs[i]):=by rw [show (i:Int)+1-1=(i:Int) by omega];show bO hx0
   show {_,_,s1.seq ha,hx1,?_};rwa [gZ,pZ];obtain ⟨e',rfl⟩:∃e',e=e'+1:={e-1,Oo}
   show aJ (λ_=>deedC) (λh5=>{_,_,s1.seq ha,hx1,?_});clear deedC;rwa [gZ,pZ];let ec1:dY (xs.map V.int) (some ((i:Int)+1)) (some (ct:Int))=((xs.take ct).drop (i+1)).map V.int:=by rw [qY Oo Oo,eh,show ((i:Int)+1).toNat=i+1 by omega,De,zx]
   let ec2:dY (xs.map V.int) (some (ct:Int)) (some (en:Int))=((xs.take en).drop ct).map V.int:=by rw [qY Oo Oo,eh,eh,De,zx]
   let lc1:((xs.take ct).drop (i+1)).length=ct-(i+1):=by rw [xF,dz];omega
   let lc2:((xs.take en).drop ct).length=en-ct:=by rw [xF,dz];omega
   obtain ⟨_,ys0,_,_,ek,_⟩:=id hI;show aJ (λ_=>{_,s1.seq ha,λp hp=>?_}) (λ_=>{_,s1.seq ha,λp hp=>?_})
   ·rw [ec1];let t2:=Ng (o:=.lst (((xs.take ct).drop (i+1)).map V.int)) hp;show {ns,wd,_,e',htop,hN1.same t2,Oo,Oo,Nh ae,Oo,λp1 ys1 ss1 g1 H2 s2 f1 n1 ep1 v1 gd1 d1 m1=>?_};let s12:=t2.trans s2;show later ?_;erw [gZ];show {.inl {rfl,_,Nh (s12 _ _ ek)},_,(s1.trans s12).seq ha,λp' hp'=>?_};rw [ec2];let t3:=Ng (o:=.lst (((xs.take en).drop ct).map V.int)) hp';let s13:=s12.trans t3;show {ns,wd,_,e',htop,hN1.same s13,Oo,Oo,Nh ae,Oo,λp2 ys2 ss2 g2 H3 s3 f2 n2 ep2 v2 gd2 d2 m2 pq hpq=>?_};let t4:=Ng (o:=.tup [V.str "if",V.str nm,V.ref p1,V.ref p2]) hpq;let hfr:∀c∈p1::p2::(g1++g2),H1 c=none:=λc hc=>by
     rcases zq9.mp hc with z | hc
     ·rw [z];show t2.free (f1 p1 Oq)
     rcases zq9.mp hc with z | hc
     ·rw [z];show s13.free (f2 p2 Oq)
     rcases zq27.mp hc with z | z
     ·show t2.free (f1 c (zq8 _ z))
     ·show s13.free (f2 c (zq8 _ z))
    obtain ⟨ys,e5,l5,hI2⟩:=hI.add (j:=en) hk ((s13.trans s3).trans t4) (.ifs (Nl ae) (t4 _ _ (s3 _ _ (t3 _ _ ep1))) (t4 _ _ ep2) (((v1.same t3).same s3).same t4) (v2.same t4)) hfr ⟨hnm,gd1,gd2⟩ (by rw [Stm.deep];omega) (by rw [Stm.many];omega) Oo;show {ys,e5,l5,later ?_};erw [];show {en,_,_,_,_,_,Oo,Oo,hI2,rfl}
   ·rw [ec1];let t2:=Ng (o:=.lst (((xs.take ct).drop (i+1)).map V.int)) hp;show {ns,wd,_,e',htop,hN1.same t2,Oo,Oo,Nh ae,Oo,λp1 ys1 ss1 g1 H2 s2 f1 n1 ep1 v1 gd1 d1 m1=>?_};show later ?_;erw [];show {Nr On On,?_};let s12:=t2.trans s2;let hfr:∀c∈p1::g1,H1 c=none:=λc hc=>t2.free (f1 c hc);let np1:p1≠k:=λz=>by let this:=hfr p1 Oq;rw [z,ek] at this;cases this
    show aJ (λ_=>{.inl {rfl,_,Nh ep1},λpd hpd=>?_}) (λ_=>?_)
    ·let t3:=Ng (o:=.tup [V.str "less",V.str nm,V.str nm,V.int 1]) hpd;let lv1:=v1.length;let lm1:=j0 ss1;show {ys1,t3 _ _ ep1,by rw [bB];omega,?_};let tt:TSame _ (upd (upd H2 pd (.tup [V.str "less",V.str nm,V.str nm,V.int 1])) p1 (.lst (ys1++[V.ref pd]))):=Nv (t3 _ _ ep1);let s14:Same H1 (upd (upd H2 pd (.tup [V.str "less",V.str nm,V.str nm,V.int 1])) p1 (.lst (ys1++[V.ref pd]))):=(s12.trans t3).updM (hfr p1 Oq);let dgood:Deed.good ns wd (.op "less" nm (.box nm) (.word 1)):=⟨Ol,hnm,hnm,On,by
      let hw:=hN.w1;obtain ⟨m,hm⟩:∃m,wd.toNat=m+1:={wd.toNat-1,Oo}
      let hp2:(0:Int)<2 ^ m:=Int.pow_pos On;rw [hm,Int.pow_succ];omega⟩
     let v2:StmsV K (upd (upd H2 pd (.tup [V.str "less",V.str nm,V.str nm,V.int 1])) p1 (.lst (ys1++[V.ref pd]))) (ys1++[V.ref pd]) (ss1++[.deed (.op "less" nm (.box nm) (.word 1))]) (g1++[]):=
      ((v1.same t3).keep tt (Kept.upd n1)).snoc (.deed (show FB.Deed.fine (.op "less" nm (.box nm) (.word 1)) from dgood.1) (tt.seqT (Nl ae)))
     show later ?_;erw [];show {.inl {rfl,_,Nh (s14 _ _ ek)},λpq hpq=>?_};let t4:=Ng (o:=.tup [V.str "while",V.str nm,V.ref p1]) hpq;obtain ⟨ys,e5,l5,hI2⟩:=hI.add (j:=ct) hk (s14.trans t4) (.whl (Nl ae) (t4 _ _ ae) (v2.same t4)) (by rw [iD];show hfr) {hnm,goodL_append.mpr ⟨gd1,dgood,trivial⟩} (by rw [Stm.deep,iR,ce,ce,Stm.deep];omega) (by rw [Stm.many,g6,bJ,bJ,Stm.many];omega) Oo;show {ys,e5,l5,later ?_};erw [];show {ct,_,_,_,_,_,Oo,Oo,hI2,rfl}
    ·show later ?_;erw [];show {.inl {rfl,_,Nh (s12 _ _ ek)},λpq hpq=>?_};let t4:=Ng (o:=.tup [V.str "while",V.str nm,V.ref p1]) hpq;obtain ⟨ys,e5,l5,hI2⟩:=hI.add (j:=ct) hk (s12.trans t4) (.whl (Nl ae) (t4 _ _ ep1) (v1.same t4)) hfr ⟨hnm,gd1⟩ (by rw [Stm.deep];omega) (by rw [Stm.many];omega) Oo;show {ys,e5,l5,later ?_};erw [];show {ct,_,_,_,_,_,Oo,Oo,hI2,rfl}
 ·rw [zq3] at h1;obtain ⟨_,ys,ss,g,ek,hy,ng,fg,gd,dd,my⟩:=hI;let ei:i=xs.length:=by omega
  subst ei;show later ?_;erw [];show q k ys ss g H1 s1 (λc hc=>by
   rcases zq9.mp hc with z | z
   ·rw [z];show hk
   ·show fg c z) ng ek hy gd dd my
def se(T:Txt K mg t):∀D,FnOk P w K mg base CX0 (D+3) t.f_60 t.e_60 ["_law_numbers","_law_names_here","_law_top","_law_deep"] (jj K D)
 |0=>{λvs H Q E h=>by obtain ⟨_,_,_,_,_,_,_,_,_,_,_,_,h,_⟩:=h;omega,λ_ _ _ _ _ _ _ _ _ _ _ _ _ h=>by obtain ⟨_,_,_,_,_,_,_,_,_,_,_,_,h,_⟩:=h;omega}
 |D+1=>uU T D (se T D)
def qH(K:N5)(a:Addr)(st:Int)(m:Int)(H:Hp)(Q:VK):Prop:=∃(ns:N3)(many:Nat),m=(many:Int)/\0<many/\many<=100/\0<=st/\st<=10/\SqL K H a (ns.map V.int)/\(∀z∈ns,Builtin.Int.intBits z<=2 ^ 20)/\∀p (fs:N3) H',Same H H'->H p=none->H' p=some (.lst (fs.map V.int))->fs.length=many->Q (.ref p) H'
def sN(K:N5):Sp:=λvs H Q _=>∃(a:Addr)(st m:Int),vs=[.ref a,.int st,.int m]/\qH K a st m H Q
def EE{a:Addr}{st m:Int}{H:Hp}{Q:VK}{E:XK}:sN K [.ref a,.int st,.int m] H Q E=qH K a st m H Q:=∅
def AT(T:Txt K mg t):FnOk P w K mg base CX0 2 t.f_61 t.e_61 ["_law_script","_law_start","_law_many"] (sN K):=by
 show T.d_61.F.ok sc_61 ∅ ?_;rintro cdv A outer s H vs Q E hr ⟨a,st,m,rfl,ns,many,rfl,m0,m1,st0,st1,ha,hb,q⟩;show {_,(XSs.h (af (cK (i:=4) sc_61.nd rfl ll rfl Om (tns:=["_law_k"]) (cns:=[]) (ci:=[]) rfl (Np Om) (bL gl T.z11 #[!2]) (λ_=>(ay (i:=1) (show List.Nodup [(".0":Str),("_law_k":Str)] by decide +kernel) rfl ll (Or.inr Om))) (λ_=>bf) (λ_=>(ax bM (ax dC (ax dC (!1) (!1)) ai) ai))) (af (aw (i:=5) sc_61.nd rfl ll (bD cO (!0) cj (bE ai))) (af (bv PassesOwn.never rfl (vg gl T.z11 #[!1,az aC gl T.z15 Nm #[!5]]) (ay (i:=3) sc_61.nd rfl ll) (af (aw (i:=6) sc_61.nd rfl ll (ax aZ (!3) (!2))) (af (aw (i:=7) sc_61.nd rfl ll (ax bM (ax bM (ax dC (aq aP (!4) (!6)) ai) (ax dC (av T.d_56 (mi T) hr.m #[aq aP (!5) (!3),!3] gl) ai)) (av T.d_56 (mi T) hr.m #[aq aP (!5) (!3),ax bM (!3) ai] gl))) (aj (kU (ax aZ (!7) ai) (kT (!4) (!6) jf)))))) (aj (ao (!4))))))),?_}
 ac_rfl;rwa [g9];show {Oo,(by omega +splitNatSub),λacc hacc bk=>?_};rw [eh];show lu (λ_=>true) (λk:Nat=>V.int ((k:Int) * k * 7919+5)) (by rw [bB];omega) hacc (λi _ H1 Q' _ h=>h H1 (Nq _)) (λi hi H1 Q' s1 _ h=>?_) (λH1 s1 h1=>?_)
 ·rwa [];show {.inl ⟨Oo,(by omega +splitNatSub)⟩,.inr ⟨On,On⟩,h H1 (Nq _)}
 obtain ⟨fs0,hfs0,lf0⟩:∃fs0:N3,((List.range many).filter λ_=>true).map (λk:Nat=>V.int ((k:Int) * k * 7919+5))=fs0.map V.int/\fs0.length=many:=by show {(List.range many).map λk:Nat=>(k:Int) * k * 7919+5,?_,Oq};rw [gm,List.filter_eq_self.mpr (λ_ _=>rfl)];rfl
 rw [hfs0] at h1;show {_,s1.seq ha,λps hps=>?_};rw [kK On,<- zx];let t2:=Ng (o:=.lst ((ns.take (Int.toNat 63)).map V.int)) hps;let hbt:∀z∈ns.take (Int.toNat 63),Builtin.Int.intBits z<=2 ^ 20:=λz hz=>hb z (i9 hz);let lt:(ns.take (Int.toNat 63)).length<=63:=by rw [dz];show Nat.min_le_left ..
 generalize ns.take (Int.toNat 63)=cs at t2 hbt lt ⊢;let hpa:ps≠acc:=λz=>by rw [z,h1] at hps;cases hps
 let hps2:upd H1 ps (.lst (cs.map V.int)) ps=some (.lst (cs.map V.int)):=ae;generalize upd H1 ps (.lst (cs.map V.int))=H2 at t2 hps2 ⊢;show {_,.inl (Nh hps2),{Oo,Oo,Oo,by rw [zq3];omega +splitNatSub},?_};rw [zq3];show rB (λi σ H'=>Same H H'/\H' ps=some (.lst (cs.map V.int))/\∃(fs:N3)(o3 o6 o7:N8),H' acc=some (.lst (fs.map V.int))/\fs.length=many/\σ=[some (.ref a),some (.int st),some (.int many),o3,some (.ref acc),some (.ref ps),o6,o7])
  {s1.trans t2,hps2,fs0,_,_,_,t2 _ _ h1,lf0,rfl} ?_ ?_
 ·rintro i σ H3 hi ⟨s3,hp3,fs,o3,o6,o7,hf3,lf,rfl⟩;rwa [g9];let hsi:∃j:Nat,st+(i:Int)=(j:Int)/\j<cs.length:={(st+i).toNat,Oo,Oo}
  obtain ⟨j,hj,hjl⟩:=hsi;rw [hj];obtain ⟨mm,hmm,hml⟩:∃mm:Nat,(j:Int) % (many:Int)=(mm:Int)/\mm<many:={j % many,Oo,Nat.mod_lt _ m0}
  rw [hmm];let hcj:(cs.map V.int)[j]?=some (.int cs[j]):=by rw [bP,bN hjl];rfl
  let hfm:(fs.map V.int)[mm]?=some (.int fs[mm]):=by rw [bP,bN Oo];rfl
  show {Oo,_,_,Nh hf3,bO hfm,?_};rwa [g9];show {.inr ⟨On,On⟩,_,_,Nh hp3,bO hcj,?_};rwa [g9];show {hbt _ (kB hjl),Oo,Oo,.inr ⟨On,On⟩,_,_,Nh hp3,bO hcj,?_};rwa [g9];show {hbt _ (kB hjl),Oo,Oo,acc,_,_,mm,rfl,rfl,hf3,FL.pL (by rw [zq3];omega),s3.updM hacc,?_,?_}
  ·rw [ak hpa];show hp3
  ·show {fs.set mm _,_,_,_,by rw [ae,List.map_set],by rw [kA];show lf,rfl}
 ·rintro σ H3 ⟨s3,hp3,fs,o3,o6,o7,hf3,lf,rfl⟩;rwa [];show q acc fs H3 s3 hacc hf3 lf
structure DrV(K:N5)(H H':Hp)(q:Addr)(wd:Int)(ins oth:N0)(ss:Nf)(pi po pr:Addr)(xs:N7)(g:N2)(many:Nat):Prop where
 tup:H' q=some (.tup [.int wd,.ref pi,.ref po,.ref pr])
 ia:H' pi=some (.lst (ins.map V.str))
 oa:H' po=some (.lst (oth.map V.str))
 ra:H' pr=some (.lst xs)
 st:StmsV K H' xs ss g
 gd:eP (ins++oth) wd ss
 dp:ce ss<=3
 mn:bJ ss<=2 * many
 w1:1<=wd
 w8:wd<=8
 pos:0<(ins++oth).length
 few:(ins++oth).length<=8
 nd:(ins++oth).Nodup
 fr:∀c∈pr::g,H c=none
 nf:pr∉g
def qG(K:N5)(a:Addr)(m:Int)(H:Hp)(Q:VK):Prop:=∃(ns:N3)(many:Nat),m=(many:Int)/\0<many/\many<=100/\SqL K H a (ns.map V.int)/\(∀z∈ns,Builtin.Int.intBits z<=2 ^ 20)/\
 ∀q wd ins oth ss pi po pr xs g H',Same H H'->DrV K H H' q wd ins oth ss pi po pr xs g many->Q (.ref q) H'
def sM(K:N5):Sp:=λvs H Q _=>∃(a:Addr)(m:Int),vs=[.ref a,.int m]/\qG K a m H Q
def EC{a:Addr}{m:Int}{H:Hp}{Q:VK}{E:XK}:sM K [.ref a,.int m] H Q E=qG K a m H Q:=∅
def AS(T:Txt K mg t):FnOk P w K mg base CX0 8 t.f_62 t.e_62 ["_law_script","_law_many"] (sM K):=by
 let G_60:=@se P w K mg base t T 4;show T.d_62.F.ok sc_62 ∅ ?_;rintro cdv A outer s H vs Q E hr ⟨a,m,rfl,ns,many,rfl,m0,m1,ha,hb,q⟩;show {_,(XSs.h (af (aw (i:=2) sc_62.nd rfl ll (av T.d_56 (mi T) hr.m #[av T.d_55 (Fp T) hr.m #[!0,ai] gl,ai] gl)) (af (aw (i:=3) sc_62.nd rfl ll (aq aP (aR (eZ Os)) (ax aZ (!2) ai))) (af (aw (i:=4) sc_62.nd rfl ll (av T.d_57 (AX T) hr.m #[ax bo (!2) ai,ax bM ai (ax aZ (ax bo (!2) ai) ai)] gl)) (af (aw (i:=5) sc_62.nd rfl ll (bD cO (!4) cj (bE (ax aZ (ax bo (!2) ai) ai)))) (af (aw (i:=6) sc_62.nd rfl ll (av T.d_61 (AT T) hr.m #[!0,ai,!1] gl)) (af (aw (i:=7) sc_62.nd rfl ll (av T.d_60 G_60 hr.m #[bD cO (!6) cj (bE (ax aZ (av T.d_55 (Fp T) hr.m #[!0,ai] gl) (ax bM (!1) ai))),!4,ax ql ai (!3),ai] gl)) (aj (ao (aK #[!3,!5,bD cO (!4) (bE (az aC gl T.z15 Nm #[!5])) cj,!7])))))))))),?_}
 ac_rfl;rwa [g9,JF,EN,EE,gZ];let hn0:=rW (atF ns 0) 1;let hbb:Builtin.Int.intBits (atF ns 0)<=2 ^ 20:=qE hb;show {ns,ha,On,hbb,On,On,?_};generalize j6 (atF ns 0) 1=nb at hn0 ⊢;intro p7 hp7;let t7:=Ng (o:=.lst [V.int 1,.int 2,.int 3,.int 4,.int 2,.int 3,.int 8]) hp7;obtain ⟨wd,hwd,w0,w7⟩:∃wd:Int,atI [V.int 1,.int 2,.int 3,.int 4,.int 2,.int 3,.int 8] (nb % 7)=some (.int wd)/\1<=wd/\wd<=8:=by
  let h0:0<=nb % 7:=i8 _ On;let h1:nb % 7<7:=nJ _ On;rcases (by omega:nb % 7=0\/nb % 7=1\/nb % 7=2\/nb % 7=3\/nb % 7=4\/nb % 7=5\/nb % 7=6) with e | e | e | e | e | e | e<;>rw [e]
  ·show ⟨1,rfl,On,On⟩
  ·show ⟨2,rfl,On,On⟩
  ·show ⟨3,rfl,On,On⟩
  ·show ⟨4,rfl,On,On⟩
  ·show ⟨2,rfl,On,On⟩
  ·show ⟨3,rfl,On,On⟩
  ·show ⟨8,rfl,On,On⟩
 let u0:0<=nb / 64 % 5:=i8 _ On;let u7:nb / 64 % 5<5:=nJ _ On;let k0:0<=nb / 1024 % 4:=i8 _ On;show {_,_,Nh ae,hwd,?_};show {Nr On On,Nr On On,Int.ediv_nonneg hn0 On,Oo,Oo,λpn H1 s1 hpn en=>{Nr On On,?_}};let s1:=t7.trans s1;let lnm:(fE (nb / 8) (1+nb / 64 % 5).toNat).length=(1+nb / 64 % 5).toNat:=nh Oo;let hnd:(fE (nb / 8) (1+nb / 64 % 5).toNat).Nodup:=pR Oo;generalize fE (nb / 8) (1+nb / 64 % 5).toNat=nms at en lnm hnd;show {_,Nh en,λpi hpi=>?_};rw [kK k0,<- zx];generalize hki:nms.take (nb / 1024 % 4).toNat=ins;let ti:=Ng (o:=.lst (ins.map V.str)) hpi;let s1i:=s1.trans ti;show {ns,many,rfl,m0,m1,On,On,s1i.seq ha,hb,λpf fs H2 s2 hpf ef lf=>?_};let s12:=s1i.trans s2;show {ns,s12.seq ha,On,Oo,?_};rwa [gZ];show {_,Nh ef,λpc hpc=>?_};let c0:0<=atF ns 1 % ((many:Int)+1):=i8 _ Oo;rw [kK c0,<- zx];let tc:=Ng (o:=.lst ((fs.take (atF ns 1 % ((many:Int)+1)).toNat).map V.int)) hpc;let lc:(fs.take (atF ns 1 % ((many:Int)+1)).toNat).length<=many:=by rw [dz,lf];show Nat.min_le_right ..
 generalize fs.take (atF ns 1 % ((many:Int)+1)).toNat=cs at tc lc ⊢;let s1c:=s12.trans tc;let en3:=(ti.trans (s2.trans tc)) _ _ en;show {⟨Oo,Oo,On⟩,?_};show {nms,wd,cs,3,rfl,{Nh en3,Oo,Oo,Oo,Oo},rfl,On,Nh ae,Oo,λpr xs ss g H3 s3 fr nf er v3 gd dp my=>?_};let s13:=s1c.trans s3;let ei3:=s3 _ _ (tc _ _ (s2 _ _ (show upd H1 pi (.lst (ins.map V.str)) pi=some (.lst (ins.map V.str)) from ae)));show {_,.inl (Nh ei3),_,Nh (s3 _ _ en3),λpo hpo q0 hq0=>?_};let eo:dY (nms.map V.str) (some (((ins.map V.str).length:Nat):Int)) none=(nms.drop ins.length).map V.str:=by rw [y0 Oo,eh,zq3,De]
 rw [eo] at hq0 ⊢;let to_:=Ng (o:=.lst ((nms.drop ins.length).map V.str)) hpo;let tq:=Ng (o:=.tup [V.int (wd),V.ref pi,V.ref po,V.ref pr]) hq0;let sall:ins++nms.drop ins.length=nms:=by
  rw [<- hki,dz]
  by_cases h:(nb / 1024 % 4).toNat<=nms.length
  ·rw [qm h,kE]
  ·rw [tS Oo,kC Oo,xN,iD]
 show q q0 (wd) ins (nms.drop ins.length) ss pi po pr xs g _ ((s13.trans to_).trans tq) {ae,tq _ _ (to_ _ _ ei3),tq _ _ ae,tq _ _ (to_ _ _ er),(v3.same to_).same tq,by rw [sall];show gd,dp,Oo,Oo,Oo,by rw [sall];omega,by rw [sall];omega,by rw [sall];show hnd,λc hc=>s1c.free (fr c hc),nf}
def hE(K:N5)(d:Nat):Sp:=λvs H Q _=>∃(a:Addr)(xs:N7)(ss:Nf)(f:N2),vs=[.ref a]/\H a=some (.lst xs)/\StmsV K H xs ss f/\ce ss<d/\bJ ss<=1000/\
 ∀p ys g H',Same H H'->H' p=some (.lst ys)->StmsV K H' ys ss g->(p::g).Nodup->(∀c∈p::g,H c=none)->Q (.ref p) H'
def jh(K:N5)(d:Nat):Sp:=λvs H Q _=>∃(x:V)(s:Stm)(f:N2),vs=[x]/\StmV K H x s f/\s.deep<d/\s.many<=1000/\
 ∀y g H',Same H H'->StmV K H' y s g->g.Nodup->(∀c∈g,H c=none)->Q y H'
def Bt{d:Nat}{x:V}{H:Hp}{Q:VK}{E:XK}:jh K d [x] H Q E=∃(s:Stm)(f:N2),StmV K H x s f/\s.deep<d/\s.many<=1000/\∀y g H',Same H H'->StmV K H' y s g->g.Nodup->(∀c∈g,H c=none)->Q y H':=
 propext {by rintro ⟨_,s,f,e,q⟩;cases e;show ⟨s,f,q⟩,by rintro ⟨s,f,q⟩;show ⟨x,s,f,rfl,q⟩}
def cC{d:Nat}{a:Addr}{H:Hp}{Q:VK}{E:XK}:hE K d [.ref a] H Q E=∃(xs:N7)(ss:Nf)(f:N2),H a=some (.lst xs)/\StmsV K H xs ss f/\ce ss<d/\bJ ss<=1000/\
 ∀p ys g H',Same H H'->H' p=some (.lst ys)->StmsV K H' ys ss g->(p::g).Nodup->(∀c∈p::g,H c=none)->Q (.ref p) H':=
 propext {by rintro ⟨_,xs,ss,f,e,q⟩;cases e;show ⟨xs,ss,f,q⟩,by rintro ⟨xs,ss,f,q⟩;show ⟨a,xs,ss,f,rfl,q⟩}
def jW(T:Txt K mg t)(d:Nat)(G_2:FnOk P w K mg base CX0 (2 * d+1) t.f_2 t.e_2 ["row"] (jh K d)):FnOk P w K mg base CX0 (2 * d+2) t.f_1 t.e_1 ["rows"] (hE K d):=by
 show T.d_1.F.ok MD ∅ ?_;rintro cdv A outer s H vs Q E hr ⟨a,xs,ss,f,rfl,ha,hx,hd,hl,q⟩;show {_,(XSs.h (aj (ao (aU (tns:=["row"]) (cns:=[]) (ci:=[]) rfl (Np Om) (aX (!0)) (λ_=>(ay (i:=1) (show List.Nodup [(".0":Str),("row":Str)] by decide +kernel) rfl ll (Or.inr Om))) (λ_=>bf) (λ_=>(av T.d_2 G_2 hr.m #[!1] gl)))))),?_}
 ac_rfl;rwa [Bt];show {{_,Nh ha},λacc hacc bk=>?_};let lx:=hx.length;let lm:=j0 ss;show cL (xs:=xs) (λi ys H'=>Same H H'/\H' acc=some (.lst ys)/\ys.length=i/\∃g,StmsV K H' ys (ss.take i) g/\(acc::g).Nodup/\∀c∈acc::g,H c=none) ?_ ?_ ?_ ?_
 ·show {Ng hacc,ae,rfl,[],.nil,Oq,λc hc=>by rw [zq15.mp hc];show hacc}
 ·intro i ys H' _ h;show Nh (h.1 _ _ ha)
 ·rintro i x ys H' os hxi ho ⟨sm,hacc2,ly,g,hg,nd,fr⟩
  match os,ho with
  | [o],_=>
   rwa [Bt];show {{[some x],rfl,rfl},?_};rw [zq1 trivial];obtain ⟨s,f',hs,hsv,_⟩:=hx.get hxi;let hi:i<ss.length:=(zq7.mp hs).1;let hse:ss[i]=s:=(zq7.mp hs).2;let hds:=js (bR hs);show {s,f',hsv.same sm,Oo,by let this:=rQ (bR hs);omega,λy g2 H2 s2 hy nd2 fr2=>?_};let na:acc∉g:=(zq42.mp nd).1;let na2:acc∉g2:=λz=>by rw [fr2 acc z] at hacc2;cases hacc2
   let tt:TSame H2 (upd H2 acc (.lst (ys++[y]))):=Nv (s2 _ _ hacc2);show {s2 _ _ hacc2,by rw [bB];omega,(sm.trans s2).updM hacc,ae,by simp [ly],g++g2,?_,?_,λc hc=>?_}
   ·rw [dH hi,hse];show ((hg.same s2).keep tt (Kept.upd na)).snoc (hy.keep tt (Kept.upd na2))
   ·show zq42.mpr {λz=>(zq27.mp z).elim na na2,gW (zq42.mp nd).2 nd2 λc h1 h2=>?_};obtain ⟨zs,hz⟩:=hg.tracked c h1;rw [fr2 c h2] at hz;cases hz
   ·rcases zq9.mp hc with z | z
    ·rw [z];show hacc
    ·rcases zq27.mp z with z | z
     ·show fr c (zq8 _ z)
     ·show sm.free (fr2 c z)
 ·rintro ys H' ⟨sm,hacc2,ly,g,hg,nd,fr⟩;rw [lx,eA] at hg;show q acc ys g H' sm hacc2 hg nd fr
def xZ(T:Txt K mg t)(d:Nat)(G_1:FnOk P w K mg base CX0 (2 * d+2) t.f_1 t.e_1 ["rows"] (hE K d)):FnOk P w K mg base CX0 (2 * (d+1)+1) t.f_2 t.e_2 ["row"] (jh K (d+1)):=by
 show T.d_2.F.ok ME ∅ ?_;rintro cdv A outer s H vs Q E hr ⟨x,s,f,rfl,hx,hd,hm,q⟩;show {_,(XSs.h (af (aM (aA bi (aq aD (!0) ai) aG (aH _)) (aj (ao (aK #[aG,aq aD (!0) ai,av T.d_1 G_1 hr.m #[aq aD (!0) ai] gl,av T.d_1 G_1 hr.m #[aq aD (!0) ai] gl]))) aF) (af (aM (aA bi (aq aD (!0) ai) aG (aH _)) (aj (ao (aK #[aG,aq aD (!0) ai,av T.d_1 G_1 hr.m #[aq aD (!0) ai] gl]))) aF) (aj (ao (!0)))))),?_}
 ac_rfl
 cases hx with
 | @deed q0 dd hf hq=>
  rwa [cC];show oh hf hq Ol Ol Ol {_,rfl,?_};rw [zq0 zq6];show oh hf hq Ol Ol Ol {_,rfl,?_};rw [zq0 zq6];show q _ [] H (Nq H) (.deed hf hq) Oq (λc hc=>by cases hc)
 | @ifs q0 a b n xs ys ones others f g hq ha hb h1 h2=>
  simp only [Stm.deep,Stm.many] at hd hm;rwa [cC];show {_,_,hq,rfl,?_};rwa [cC];show aJ (λ_=>{_,_,hq,rfl,_,_,hq,rfl,?_}) (λz=>absurd trivial z);rwa [cC];show {xs,ones,f,ha,h1,Oo,Oo,λp1 zs1 g1 H1 s1 e1 k1 nd1 fr1=>{_,_,s1.seqT hq,rfl,?_}};rwa [cC];show {ys,others,g,s1 _ _ hb,h2.same s1,Oo,Oo,λp2 zs2 g2 H2 s2 e2 k2 nd2 fr2 p3 hp3=>?_};let s3:=Ng (o:=.tup [V.str "if",V.str n,V.ref p1,V.ref p2]) hp3;let s12:=s1.trans s2;show q _ (p1::p2::(g1++g2)) _ (s12.trans s3) (.ifs (Nl ae) (s3 _ _ (s2 _ _ e1)) (s3 _ _ e2) ((k1.same s2).same s3) (k2.same s3)) ?_ (λc hc=>?_)
  ·let dj:∀c∈p1::g1,c∉p2::g2:=λc h1 h2=>by
    let ex:∃u,H1 c=some u:=by
     rcases zq9.mp h1 with z | z
     ·show {_,by rw [z];show e1}
     ·obtain ⟨u,hu⟩:=k1.tracked c z;show {_,hu}
    obtain ⟨u,hu⟩:=ex;rw [fr2 c h2] at hu;cases hu
   let n5:=gW nd1 nd2 dj;show (List.Perm.nodup_iff ?_).mp n5;rw [nK];show .cons _ List.perm_middle
  ·rcases zq9.mp hc with z | z
   ·rw [z];show fr1 p1 Oq
   rcases zq9.mp z with z | z
   ·rw [z];show s1.free (fr2 p2 Oq)
   rcases zq27.mp z with z | z
   ·show fr1 c (zq8 _ z)
   ·show s1.free (fr2 c (zq8 _ z))
 | @whl q0 a n xs rows f hq ha h1=>simp only [Stm.deep,Stm.many] at hd hm;rwa [cC];show {_,_,hq,rfl,?_};rwa [cC];show aJ (λz=>absurd z Ol) (λ_=>{_,_,hq,rfl,?_});rwa [cC];show aJ (λ_=>{_,_,hq,rfl,_,_,hq,rfl,?_}) (λz=>absurd trivial z);rwa [cC];show {xs,rows,f,ha,h1,Oo,Oo,λp1 zs1 g1 H1 s1 e1 k1 nd1 fr1 p3 hp3=>?_};let s3:=Ng (o:=.tup [V.str "while",V.str n,V.ref p1]) hp3;show q _ (p1::g1) _ (s1.trans s3) (.whl (Nl ae) (s3 _ _ e1) (k1.same s3)) nd1 fr1
def ow(T:Txt K mg t):∀d,FnOk P w K mg base CX0 (2 * d+1) t.f_2 t.e_2 ["row"] (jh K d)/\FnOk P w K mg base CX0 (2 * d+2) t.f_1 t.e_1 ["rows"] (hE K d)
 |0=>by
  let h0:FnOk P w K mg base CX0 (2 * 0+1) t.f_2 t.e_2 ["row"] (jh K 0):={λvs H Q E h=>by obtain ⟨_,_,_,_,_,h,_⟩:=h;omega,λ_ _ _ _ _ _ _ _ _ _ _ _ _ h=>by obtain ⟨_,_,_,_,_,h,_⟩:=h;omega}
  show {h0,jW T 0 h0}
 |d+1=>by let h1:=xZ T d (ow T d).2;show {h1,jW T (d+1) h1}
def vy(K:N5)(C:Addr)(d:Nat)(p:Addr)(a0:Addr)(b0:Addr)(r0:Addr)(wd:Int)(H:Hp)(Q:VK):Prop:=∃(dx:Addr)(ins:N0)(oth:N0)(xs:N7)(ss:Nf)(f:N2),H p=some (.ins C dx [])/\
 H a0=some (.lst (ins.map V.str))/\H b0=some (.lst (oth.map V.str))/\H r0=some (.lst xs)/\StmsV K H xs ss f/\ce ss<d/\bJ ss<=1000/\ins.length<=1000/\oth.length<=1000/\
 ∀a b r ys g H',SameX p H H'->ProgAt K C H' p wd ins oth ss a b r ys g->(a::b::r::g).Nodup->(∀c∈a::b::r::g,H c=none)->Q .non H'
def x9(K:N5)(C:Addr)(d:Nat):Sp:=λvs H Q _=>∃(p:Addr)(a0:Addr)(b0:Addr)(r0:Addr)(wd:Int),vs=[.ref p,.int wd,.ref a0,.ref b0,.ref r0]/\vy K C d p a0 b0 r0 wd H Q
def E7(T:Txt K mg t)(d:Nat):FnOk P w K mg base CX0 (2 * d+3) t.f_0 t.e_0 ["self","width","ins","boxes","rows"] (x9 K t.C11 d):=by
 let G_1:=(@ow P w K mg base t T d).2;show T.d_0.F.ok MC ∅ ?_;rintro cdv A outer s H vs Q E hr ⟨p,a0,b0,r0,wd,rfl,dx,ins,oth,xs,ss,f,hp,ha,hb,hr0,hx,hd,hm,hi,ho,q⟩;show {_,(XSs.h (af (cP (!0) (!1) rfl) (af (cP (!0) (c6 cc gl T.z19 boot_list #[!2]) rfl) (af (cP (!0) (ax eM (c6 cc gl T.z19 boot_list #[!2]) (c6 cc gl T.z19 boot_list #[!3])) rfl) (aj (cP (!0) (av T.d_1 G_1 hr.m #[!4] gl) rfl)))))),?_}
 ac_rfl;rwa [cC];let na:a0≠p:=aO ha hp (by intro z;cases z);let nb:b0≠p:=aO hb hp (by intro z;cases z);let nr:r0≠p:=aO hr0 hp (by intro z;cases z);show iu hp T.c11.cl T.n11 Oq ?_;rw [cB Os,tZ];obtain ⟨H1,hH1⟩:∃H1,H1=upd H p (.ins t.C11 dx [("width",V.int wd)]):={_,rfl}
 rw [<- hH1];let e1:H1 p=some (.ins t.C11 dx [("width",V.int wd)]):=by rw [hH1];show ae
 let s1:SameX p H H1:=by rw [hH1];show NA
 let t1:TSame H H1:=by rw [hH1];show NG hp
 rwa [cC];show {_,.inl (Nh (s1 _ _ ha na)),λl1 hl1=>?_};let np1:p≠l1:=au e1 hl1;show iu (by rw [ak np1];show e1) T.c11.cl T.n12 Oq ?_;rw [cB Om];obtain ⟨H2,hH2⟩:∃H2,H2=upd (upd H1 l1 (.lst (ins.map V.str))) p (.ins t.C11 dx ([(("width":Str),V.int wd)]++[(("ins":Str),V.ref l1)])):={_,rfl}
 rw [<- hH2];let e2:H2 p=some (.ins t.C11 dx ([(("width":Str),V.int wd)]++[(("ins":Str),V.ref l1)])):=by rw [hH2];show ae
 let s2:SameX p H1 H2:=by rw [hH2];show (Nw (Ng hl1)).trans NA
 let k2:H2 l1=some (.lst (ins.map V.str)):=by rw [hH2,ak np1.symm];show ae
 let t2:TSame H1 H2:=by rw [hH2];show (Ng hl1).ts.trans (NG (by rw [ak np1];show e1))
 let s02:=s1.trans s2;rwa [cC];show {_,.inl (Nh (s02 _ _ ha na)),λl2 hl2=>?_};let s3:=Ng (o:=.lst (ins.map V.str)) hl2;show {_,.inl (Nh (s3 _ _ (s02 _ _ hb nb))),λl3 hl3=>?_};let s4:=s3.trans (Ng (o:=.lst (oth.map V.str)) hl3);show {_,_,(by rw [ak (au ae hl3)];show ae),ae,(by rw [bB];simp only [List.length_map];omega),λl4 hl4=>?_};let s5:=s4.trans (Ng (o:=.lst (ins.map V.str++oth.map V.str)) hl4);show iu (s5 _ _ e2) T.c11.cl T.n13 Oq ?_;rw [cB Om];let np4:p≠l4:=au (s4 _ _ e2) hl4;obtain ⟨H3,hH3⟩:∃H3,H3=upd (upd (upd (upd H2 l2 (.lst (ins.map V.str))) l3 (.lst (oth.map V.str))) l4 (.lst (ins.map V.str++oth.map V.str))) p (.ins t.C11 dx ([(("width":Str),V.int wd)]++[(("ins":Str),V.ref l1)]++[(("boxes":Str),V.ref l4)])):={_,rfl}
 rw [<- hH3];let e3:H3 p=some (.ins t.C11 dx ([(("width":Str),V.int wd)]++[(("ins":Str),V.ref l1)]++[(("boxes":Str),V.ref l4)])):=by rw [hH3];show ae
 let s23:SameX p H2 H3:=by rw [hH3];show (Nw s5).trans NA
 let k4:H3 l4=some (.lst (ins.map V.str++oth.map V.str)):=by rw [hH3,ak np4.symm];show ae
 let t3:TSame H2 H3:=by rw [hH3];show s5.ts.trans (NG (s5 _ _ e2))
 let s03:=s02.trans s23;rwa [cC];let pf:p∉f:=λz=>by obtain ⟨zs,hz⟩:=hx.tracked p z;rw [hp] at hz;cases hz
 show {xs,ss,f,s03 _ _ hr0 nr,hx.keep ((t1.trans t2).trans t3) (λc hc o e=>s03 c o e (λz=>pf (by rw [<- z];show hc))),hd,hm,λr ys g H4 s34 e4 k5 nd fr=>?_};show iu (s34 _ _ e3) T.c11.cl T.n15 Oq ?_;rw [cB Om];let pg:p∉r::g:=λz=>by rw [fr p z] at e3;cases e3
 let npr:r≠p:=λz=>pg (by rw [z];show cS);let nl1:l1≠p:=np1.symm;let nl4:l4≠p:=np4.symm;let n14:l1≠l4:=au (s4 _ _ k2) hl4;let f1:H l1=none:=s1.free e1 hl1;let f4:H l4=none:=s02.free e2 (s4.free hl4);let k3:H3 l1=some (.lst (ins.map V.str)):=s23 _ _ k2 nl1;show q l1 l4 r ys g _ (s03.trans ((Nw s34).trans NA)) {⟨dx,ae⟩,?_,?_,?_,?_} ?_ ?_
 ·rw [ak nl1];show s34 _ _ k3
 ·rw [ak nl4,dN];show s34 _ _ k4
 ·rw [ak npr];show e4
 ·show k5.keep (NG (s34 _ _ e3)) (Kept.upd λz=>pg (zq8 _ z))
 ·let a1:l1∉r::g:=λz=>by rw [fr l1 z] at k3;cases k3
  let a4:l4∉r::g:=λz=>by rw [fr l4 z] at k4;cases k4
  show zq42.mpr {λz=>?_,zq42.mpr ⟨a4,nd⟩};rcases zq9.mp z with z | z
  ·show n14 z
  ·show a1 z
 ·intro c hc;rcases zq9.mp hc with z | hc
  ·rw [z];show f1
  rcases zq9.mp hc with z | hc
  ·rw [z];show f4
  show s03.free e3 (fr c hc)
variable {E:XK} {H H':Hp} {Q:VK} {p:Addr} {x:V}
def fH:FZ.Ed->N7
 | .stop=>[.str "stop"]
 | .go i=>[.str "go",.int i]
 | .choose n i j=>[.str "choose",.str n,.int i,.int j]
def DeedV1(K:N5)(H:Hp)(x:V)(d:Deed):Prop:=∃q,x=.ref q/\SqT K H q d.vs/\d.fine
def BlkV(K:N5)(N:Addr->Prop)(H:Hp)(bl:Addr)(x:V)(b:Nc):Prop:=∃q a e vs,x=.ref q/\H q=some (.tup [.ref a,.ref e])/\H a=some (.lst vs)/\Paired (DeedV1 K H) vs b.ds/\H e=some (.tup (fH b.ed))/\a≠bl/\N a
def DeedV1.ts{K:N5}{d:Deed}(t:TSame H H')(h:DeedV1 K H x d):DeedV1 K H' x d:=let ⟨q,e,z,f⟩:=h;{q,e,t.seqT z,f}
def SameX.tsL2{ys:N7}(s:SameX p H H')(h:H p=some (.lst ys)):TSame H H':=
 {λc xs e=>s c _ e (λz=>by rw [z,h] at e;cases e),λc o u e=>s c _ e (λz=>by rw [z,h] at e;cases e)}
def Ny:=@SameX.tsL2
def BlkV.sx{K:N5}{N:Addr->Prop}{bl:Addr}{b:Nc}{ys:N7}(h:BlkV K N H bl x b)(s:SameX bl H H')(hb:H bl=some (.lst ys)):BlkV K N H' bl x b:=by obtain ⟨q,a,e,vs,ex,h1,h2,h3,h4,h5⟩:=h;let tt:=Ny s hb;show {q,a,e,vs,ex,s _ _ h1 (λz=>by rw [z,hb] at h1;cases h1),s _ _ h2 h5.1,FL.Paired.imp h3 λy _ d _ z=>z.ts tt,s _ _ h4 (λz=>by rw [z,hb] at h4;cases h4),h5}
structure PartAt(K:N5)(C:Addr)(N:Addr->Prop)(H:Hp)(p bl:Addr)(B:Nb):Prop where
 ob:∃dx,H p=some (.ins C dx [("blocks",.ref bl)])
 nw:∀c,H c=none->N c
 bs:∃xs,H bl=some (.lst xs)/\Paired (BlkV K N H bl) xs B
def PartAt.ne{K:N5}{C:Addr}{N:Addr->Prop}{bl:Addr}{B:Nb}(h:PartAt K C N H p bl B):p≠bl:=λz=>by obtain ⟨dx,e⟩:=h.ob;obtain ⟨xs,e2,_⟩:=h.bs;rw [z,e2] at e;cases e
def PartAt.same{K:N5}{C:Addr}{N:Addr->Prop}{bl:Addr}{B:Nb}(h:PartAt K C N H p bl B)(s:Same H H'):PartAt K C N H' p bl B:=by obtain ⟨xs,e,q⟩:=h.bs;show {let ⟨dx,e⟩:=h.ob;{dx,s _ _ e},λc hc=>h.nw c (s.free hc),xs,s _ _ e,FL.Paired.imp q λx _ b _ z=>z.sx (Nw s) e}
def BlkV.same{K:N5}{N:Addr->Prop}{bl:Addr}{b:Nc}(h:BlkV K N H bl x b)(s:Same H H'):BlkV K N H' bl x b:=by obtain ⟨q,a,e,vs,ex,h1,h2,h3,h4,h5⟩:=h;show {q,a,e,vs,ex,s _ _ h1,s _ _ h2,FL.Paired.imp h3 λy _ d _ z=>z.ts s.ts,s _ _ h4,h5}
def ue(K:N5)(C:Addr)(p:Addr)(x:V)(H:Hp)(Q:VK):Prop:=∃(N:Addr->Prop)(bl:Addr)(B:Nb)(b:Nc),PartAt K C N H p bl B/\BlkV K N H bl x b/\B.length<5000/\∀H',SameX bl H H'->PartAt K C N H' p bl (B++[b])->Q (.int B.length) H'
def Cc(K:N5)(C:Addr):Sp:=λvs H Q _=>∃(p:Addr)(x:V),vs=[.ref p,x]/\ue K C p x H Q
def vz(K:N5)(C:Addr)(p:Addr)(H:Hp)(Q:VK):Prop:=∃(N:Addr->Prop)(bl:Addr)(B:Nb),PartAt K C N H p bl B/\B.length<5000/\∀H',SameX bl H H'->PartAt K C N H' p bl (B++[{[],.stop}])->Q (.int B.length) H'
def xc(K:N5)(C:Addr):Sp:=λvs H Q _=>∃p:Addr,vs=[.ref p]/\vz K C p H Q
def zQ(K:N5)(C:Addr)(p:Addr)(x:V)(H:Hp)(Q:VK):Prop:=∃(N:Addr->Prop)(bl:Addr)(B:Nb)(b:Nc),PartAt K C N H p bl B/\BlkV K N H bl x b/\B.length<5000/\∀H',SameX bl H H'->PartAt K C N H' p bl (FZ.bK b B).2->Q (.int (FZ.bK b B).1) H'
def Ck(K:N5)(C:Addr):Sp:=λvs H Q _=>∃(p:Addr)(x:V),vs=[.ref p,x]/\zQ K C p x H Q
def Fz{C:Addr}:Cc K C [.ref p,x] H Q E=ue K C p x H Q:=∅
def q9{C:Addr}:xc K C [.ref p] H Q E=vz K C p H Q:=∅
def jd{C:Addr}:Ck K C [.ref p,x] H Q E=zQ K C p x H Q:=∅
def eJ{a c:Addr}{o:HO}(h:upd H a o c=none):H c=none:=by
 unfold upd at h
 split at h
 ·cases h
 ·show h
def AY(T:Txt K mg t):FnOk P w K mg base CX0 1 t.f_37 t.e_37 ["self","block"] (Cc K t.C10):=by
 show T.d_37.F.ok LA ∅ ?_;rintro cdv A outer s H vs Q E hr ⟨p,x,rfl,N,bl,B,b,hP,hb,hl,q⟩;obtain ⟨dx,ob⟩:=hP.ob;obtain ⟨xs,hbl,hxs⟩:=hP.bs;let lx:=hxs.length;show {_,(XSs.h (af (aT (bH Nk Ni Nj aS (aL (!0) rfl) #[!1])) (aj (ao (ax dD (az aC gl T.z15 Nm #[aL (!0) rfl]) ai))))),?_}
 ac_rfl;rwa [];show bS ob T.c10.cl T.n10 rfl ?_;rwa [];let sx:SameX bl H (upd H bl (.lst (xs++[x]))):=NA;show {.inl {rfl,_,Nh hbl},_,hbl,by rw [bB];omega,?_};show bS (sx _ _ ob hP.ne) T.c10.cl T.n10 rfl ?_;rwa [];show {_,.inl (Nh ae),?_};let z:=q _ sx {{dx,sx _ _ ob hP.ne},λc hc=>hP.nw c (eJ hc),xs++[x],ae,FL.Paired.snoc (hb.sx sx hbl) (FL.Paired.imp hxs λy _ c _ h=>h.sx sx hbl)};rw [show (((xs++[x]).length:Nat):Int)-1=(B.length:Int) by rw [bW,dc,lx];omega];show z
def gU{N:Addr->Prop}{H:Hp}{bl a e q:Addr}{ed:FZ.Ed}{vs:N7}{ds:List Deed}{ys:N7}(hbl:H bl=some (.lst ys))(hn:N a)(ha:H a=none)(hv:Paired (DeedV1 K H) vs ds)(he:upd H a (.lst vs) e=none)(hq:upd (upd H a (.lst vs)) e (.tup (fH ed)) q=none):
  Same H (upd (upd (upd H a (.lst vs)) e (.tup (fH ed))) q (.tup [.ref a,.ref e]))/\BlkV K N (upd (upd (upd H a (.lst vs)) e (.tup (fH ed))) q (.tup [.ref a,.ref e])) bl (.ref q) ⟨ds,ed⟩:=by
 let t1:=Ng (o:=.lst vs) ha;let t2:=Ng (o:=.tup (fH ed)) he;let t3:=Ng (o:=.tup [V.ref a,V.ref e]) hq;let s:=(t1.trans t2).trans t3;show {s,q,a,e,vs,rfl,ae,t3 _ _ (t2 _ _ ae),FL.Paired.imp hv λy _ d _ z=>z.ts s.ts,t3 _ _ ae,(au hbl ha).symm,hn}
def wC(T:Txt K mg t):FnOk P w K mg base CX0 2 t.f_36 t.e_36 ["self"] (xc K t.C10):=by
 show T.d_36.F.ok Lz ∅ ?_;rintro cdv A outer s H vs Q E hr ⟨p,rfl,N,bl,B,hP,hl,q⟩;obtain ⟨dx,ob⟩:=hP.ob;obtain ⟨xs,hbl,hxs⟩:=hP.bs;show {_,(XSs.h (aj (ao (am T.c10.cl T.d_37 (AY T) hr.m (!0) #[aK #[aR ac,aK #[aG]]])))),?_}
 ac_rfl;rwa [Fz];show aE ob rfl ?_;intro a ha e he q0 hq0;obtain ⟨sm,hb⟩:=gU (K:=K) (ed:=.stop) (ds:=[]) hbl (hP.nw _ ha) ha .nil he hq0;show {N,bl,B,_,hP.same sm,hb,hl,λH' sx hP'=>q H' ((Nw sm).trans sx) hP'}
def BU{n:Nat}{a b:Addr}{vs:N7}(ha:H a=some (.lst vs))(hb:H b=some (.lst [])):Rq K H n (.ref a) (.ref b) (decide (vs=[])):=by
 cases vs with
 |nil=>
  let z:=Rq.lists (n:=n) (λ_=>true) (Nh (K:=K) ha) (Nh hb) rfl λj x y hx _=>by simp at hx
  show z
 |cons x r=>rw [cR (by intro z;cases z)];show .lens (Nh ha) (Nh hb) Oq
def uE(T:Txt K mg t):FnOk P w K mg base CX0 2 t.f_38 t.e_38 ["self","block"] (Ck K t.C10):=by
 show T.d_38.F.ok LB ∅ ?_;rintro cdv A outer s H vs Q E hr ⟨p,x,rfl,N,bl,B,b,hP,hb,hl,q⟩;obtain ⟨dx,ob⟩:=hP.ob;obtain ⟨qb,a,e,vs,rfl,h1,h2,h3,h4,h5⟩:=id hb;show {_,(XSs.h (af (aM (cq (i3 (aA (iA (n:=0) (kl On hr)) (aq aD (!1) ai) (aR ac) (aH _)) (fT (aA bi (aq aD (aq aD (!1) ai) ai) aG (aH _))))) (aj (ao (aq aD (aq aD (!1) ai) ai))) aF) (aj (ao (am T.c10.cl T.d_37 (AY T) hr.m (!0) #[!1]))))),?_}
 ac_rfl;rwa [Fz];show {_,_,Nl h1,rfl,λp0 hp0=>?_};let t0:=Ng (o:=.lst []) hp0;show {_,BU (t0 _ _ h2) ae,_,rfl,?_};let lv:=h3.length;let num:(FZ.bK b B)=(B.length,B++[b])->oU t.C10 (Str.ofString "numbered") (V.ref p) (upd H p0 (HO.lst [])) (ue K t.C10 p (V.ref qb) (upd H p0 (HO.lst [])) Q):=λew=>by show aE (t0 _ _ ob) rfl {N,bl,B,b,hP.same t0,hb.same t0,hl,λH' sx hP'=>?_};rw [ew] at q;show q H' ((Nw t0).trans sx) hP'
 obtain ⟨ds,ed⟩:=b
 cases ds with
 |cons d r=>
  let hne:¬vs=[]:=λz=>by rw [z] at lv;simp at lv
  rw [cR hne,zq0 zq6];show num rfl
 |nil=>
  let hnil:vs=[]:=zq115.mp lv;rw [bX hnil,zq1 rfl];let h40:=t0 _ _ h4;show {_,_,Nl (t0 _ _ h1),rfl,?_}
  cases ed with
  |stop=>
   rwa [];show {_,_,Nl h40,rfl,rfl,_,rfl,?_};rw [cR (by intro z;show absurd (V.str.inj z) Ol),zq0 zq6];show num rfl
  |go i=>
   rwa [];show {_,_,Nl h40,rfl,rfl,_,rfl,?_};rw [bX rfl,zq1 rfl];show {_,_,Nl (t0 _ _ h1),rfl,?_};rwa [];show {_,_,Nl h40,rfl,q _ (Nw t0) (hP.same t0)}
  |choose n i j=>rwa [];show {_,_,Nl h40,rfl,rfl,_,rfl,?_};rw [cR (by intro z;show absurd (V.str.inj z) Ol),zq0 zq6];show num rfl
variable {H:Hp} {f:N2} {i:Nat} {ss:Nf} {x:V}
def vF(K:N5)(C:Addr)(d:Nat)(p a:Addr)(x:V)(H:Hp)(Q:VK):Prop:=∃(N:Addr->Prop)(bl:Addr)(B:Nb)(b:Nc)(rs:N7)(ss:Nf)(f:N2),PartAt K C N H p bl B/\BlkV K N H bl x b/\H a=some (.lst rs)/\StmsV K H rs ss f/\a≠bl/\bl∉f/\ce ss<d/\B.length+3 * bJ ss<4000/\b.ds.length<=8/\
 ∀y H',SameX bl H H'->PartAt K C N H' p bl (FZ.bq ss b B).2->BlkV K N H' bl y (FZ.bq ss b B).1->(FZ.bq ss b B).1.ds.length<=8->Q y H'
def ji(K:N5)(C:Addr)(d:Nat):Sp:=λvs H Q _=>∃(p a:Addr)(x:V),vs=[.ref p,.ref a,x]/\vF K C d p a x H Q
def vH(K:N5)(C:Addr)(d:Nat)(ok:Stm->Prop)(p:Addr)(r x:V)(H:Hp)(Q:VK):Prop:=∃(N:Addr->Prop)(bl:Addr)(B:Nb)(b:Nc)(st:Stm)(f:N2),PartAt K C N H p bl B/\BlkV K N H bl x b/\StmV K H r st f/\ok st/\bl∉f/\st.deep<d/\B.length+3 * st.many<4000/\b.ds.length<=8/\
 ∀y H',SameX bl H H'->PartAt K C N H' p bl (FZ.d9 st b B).2->BlkV K N H' bl y (FZ.d9 st b B).1->(FZ.d9 st b B).1.ds.length<=8->Q y H'
def eU(K:N5)(C:Addr)(d:Nat)(ok:Stm->Prop):Sp:=λvs H Q _=>∃(p:Addr)(r x:V),vs=[.ref p,r,x]/\vH K C d ok p r x H Q
def Jb:Stm->Prop
 | .ifs _ _ _=>True
 |_=>False
def Jc:Stm->Prop
 | .whl _ _=>True
 |_=>False
def gJ{C p a:Addr}{d:Nat}{Q:VK}{E:XK}:ji K C d [.ref p,.ref a,x] H Q E=vF K C d p a x H Q:=∅
def gc{C p:Addr}{d:Nat}{ok:Stm->Prop}{r:V}{Q:VK}{E:XK}:eU K C d ok [.ref p,r,x] H Q E=vH K C d ok p r x H Q:=∅
def gO{s:Stm}(h:ss.reverse[i]?=some s):ss.drop (ss.length-(i+1))=s::ss.drop (ss.length-i):=by
 obtain ⟨hi,e⟩:=zq7.mp h;rw [List.length_reverse] at hi;rw [List.getElem_reverse] at e;let h1:ss.length-(i+1)<ss.length:=by omega
 rw [List.drop_eq_getElem_cons h1,show ss.length-(i+1)+1=ss.length-i by omega];congr 1;rw [<- e];congr 1;omega
def Cr{xs:N7}(h:StmsV K H xs ss f)(hx:xs.reverse[i]?=some x):∃s g,ss.reverse[i]?=some s/\s∈ss/\StmV K H x s g/\∀c∈g,c∈f:=by let lx:=h.length;obtain ⟨hi,e⟩:=zq7.mp hx;rw [List.length_reverse] at hi;rw [List.getElem_reverse] at e;obtain ⟨s,g,h1,h2,h3⟩:=h.get (i:=xs.length-1-i) (x:=x) (by rw [bN Oo,e]);show {s,g,?_,bR h1,h2,h3};rw [G9 Oo,<- lx];show h1
def IC{H':Hp}{bl:Addr}{ys:N7}{st:Stm}(h:StmV K H x st f)(s:SameX bl H H')(hb:H bl=some (.lst ys))(hf:bl∉f):StmV K H' x st f:=
 h.keep (Ny s hb) λa ha o e=>s a o e (λz=>hf (z ▸ ha))
def qe{H':Hp}{bl:Addr}{xs ys:N7}(h:StmsV K H xs ss f)(s:SameX bl H H')(hb:H bl=some (.lst ys))(hf:bl∉f):StmsV K H' xs ss f:=
 h.keep (Ny s hb) λa ha o e=>s a o e (λz=>hf (z ▸ ha))
def yw{s:Stm}(h:ss.reverse[i]?=some s):s.many+bJ (ss.drop (ss.length-i))<=bJ ss:=by
 let e:=congrArg bJ (gO h);rw [bJ] at e;let e2:bJ ss=bJ (ss.take (ss.length-(i+1)))+bJ (ss.drop (ss.length-(i+1))):=by rw [<- g6,kE]
 omega
def ox(T:Txt K mg t)(d:Nat)(G_40:FnOk P w K mg base CX0 (3 * d+3) t.f_40 t.e_40 ["self","row","block"] (eU K t.C10 d λ_=>True)):FnOk P w K mg base CX0 (3 * d+4) t.f_39 t.e_39 ["self","rows","block"] (ji K t.C10 d):=by
 show T.d_39.F.ok sc_39 ∅ ?_;rintro cdv A outer s H vs Q E hr ⟨p,a,x,rfl,N,bl,B,b,rs,ss,f,hP,hb,ha,hx,nab,nbf,hd,hm,h8,q⟩;let lx:=hx.length;obtain ⟨xs0,hbl0,_⟩:=hP.bs;show {_,(XSs.h (af (bv PassesOwn.never rfl (F8 T.z21 #[!1] gl) (ay (i:=3) sc_39.nd rfl ll) (aj (aw (i:=2) sc_39.nd rfl ll (am T.c10.cl T.d_40 G_40 hr.m (!0) #[!3,!2])))) (aj (ao (!2))))),?_}
 ac_rfl;rwa [gc];show {rs,Nh ha,?_};show Gz (λi σ H'=>SameX bl H H'/\∃y o3,PartAt K t.C10 N H' p bl (FZ.bq (ss.drop (ss.length-i)) b B).2/\BlkV K N H' bl y (FZ.bq (ss.drop (ss.length-i)) b B).1/\(FZ.bq (ss.drop (ss.length-i)) b B).1.ds.length<=8/\σ=[some (.ref p),some (.ref a),some y,o3])
  {SameX.refl,x,none,?_,?_,?_,rfl} (λi σ H' _ h=>Nh (h.1 _ _ ha nab)) ?_ ?_
 ·rw [zr,xN,FZ.bq];show hP
 ·rw [zr,xN,FZ.bq];show hb
 ·rw [zr,xN,FZ.bq];show h8
 ·rintro i r σ H1 hri ⟨s1,y,o3,hP1,hb1,l1,rfl⟩;rwa [gc];obtain ⟨st,g',hst,hms,hv,hsub⟩:=Cr hx hri;let hdm:=js hms;let hmd:=yw hst;let hol:=FZ.dh (ss.drop (ss.length-i)) b B;obtain ⟨dx,ob1⟩:=hP1.ob;show aE ob1 rfl ?_;show {N,bl,_,_,st,g',hP1,hb1,(IC hv s1 hbl0 (λz=>nbf (hsub bl z))),trivial,(λz=>nbf (hsub bl z)),Oo,Oo,l1,λy2 H2 s2 hP2 hb2 l2=>?_};show {s1.trans s2,y2,_,?_,?_,?_,rfl}
  ·rw [gO hst,FZ.bq];show hP2
  ·rw [gO hst,FZ.bq];show hb2
  ·rw [gO hst,FZ.bq];show l2
 ·rintro σ H1 ⟨s1,y,o3,hP1,hb1,l1,rfl⟩;rw [lx,xO,xJ] at hP1 hb1 l1;rwa [];show q y H1 s1 hP1 hb1 l1
def zT{N:Addr->Prop}{H:Hp}{bl a e q:Addr}{ed:FZ.Ed}{vs:N7}{ds:List Deed}(ha:H a=some (.lst vs))(nab:a≠bl)(hn:N a)(hv:Paired (DeedV1 K H) vs ds)(he:H e=none)(hq:upd H e (.tup (fH ed)) q=none):
  Same H (upd (upd H e (.tup (fH ed))) q (.tup [.ref a,.ref e]))/\BlkV K N (upd (upd H e (.tup (fH ed))) q (.tup [.ref a,.ref e])) bl (.ref q) ⟨ds,ed⟩:=by
 let t2:=Ng (o:=.tup (fH ed)) he;let t3:=Ng (o:=.tup [V.ref a,V.ref e]) hq;let s:=t2.trans t3;show {s,q,a,e,vs,rfl,ae,t3 _ _ (t2 _ _ ha),FL.Paired.imp hv λy _ d _ z=>z.ts s.ts,t3 _ _ ae,nab,hn}
def DT(T:Txt K mg t)(d:Nat)(G_39:FnOk P w K mg base CX0 (3 * d+4) t.f_39 t.e_39 ["self","rows","block"] (ji K t.C10 d)):FnOk P w K mg base CX0 (3 * d+5) t.f_41 t.e_41 ["self","row","block"] (eU K t.C10 (d+1) Jb):=by
 show T.d_41.F.ok sc_41 ∅ ?_;rintro cdv A outer s H vs Q E hr ⟨p,r,x,rfl,N,bl,B,b,st,f,hP,hb,hv,hok,nbf,hd,hm,h8,q⟩;show {_,(XSs.h (af (aw (i:=3) sc_41.nd rfl ll (aK #[aR ac,aK #[aG,am T.c10.cl T.d_38 (uE T) hr.m (!0) #[!2]]])) (af (aw (i:=4) sc_41.nd rfl ll (am T.c10.cl T.d_38 (uE T) hr.m (!0) #[am T.c10.cl T.d_39 G_39 hr.m (!0) #[aq aD (!1) ai,!3]])) (af (aw (i:=5) sc_41.nd rfl ll (am T.c10.cl T.d_38 (uE T) hr.m (!0) #[am T.c10.cl T.d_39 G_39 hr.m (!0) #[aq aD (!1) ai,!3]])) (aj (ao (aK #[aR ac,aK #[aG,aq aD (!1) ai,!4,!5]]))))))),?_}
 ac_rfl
 cases hv with
 | @deed q0 dd hf hq=>show absurd hok id
 | @whl q0 a1 n xs1 rows f1 hq ha1 h1=>show absurd hok id
 | @ifs q0 a1 c1 n xs1 ys1 ones others f1 g1 hq ha1 hc1 h1 h2=>simp only [Stm.deep,Stm.many] at hd hm;obtain ⟨xs0,hbl0,_⟩:=hP.bs;let na1:a1≠bl:=λz=>nbf (by rw [<- z];simp);let nc1:c1≠bl:=λz=>nbf (by rw [<- z];simp);let nf1:bl∉f1:=λz=>nbf (by simp [z]);let ng1:bl∉g1:=λz=>nbf (by simp [z]);obtain ⟨dx,ob⟩:=hP.ob;rw [FZ.d9] at q;dsimp only at q;rwa [jd,gJ];intro a0 ha0;let t0:=Ng (o:=.lst []) ha0;let nab0:a0≠bl:=(au hbl0 ha0).symm;show aE (t0 _ _ ob) rfl {N,bl,B,b,hP.same t0,hb.same t0,Oo,λH1 sx1 hP1=>?_};let gw:=FZ.bQ b B;generalize FZ.bK b B=w0 at *;let ea0:H1 a0=some (.lst []):=sx1 _ _ ae nab0;let sx01:=(Nw (p:=bl) t0).trans sx1;intro e0 he0 q1 hq1;obtain ⟨sb,hbb⟩:=zT (K:=K) (ed:=.go w0.1) (ds:=[]) ea0 nab0 (hP.nw _ ha0) .nil he0 hq1;let hPG:=hP1.same sb;let sxG:=sx01.trans (Nw (p:=bl) sb);rw [show fH (.go w0.1)=[V.str "go",V.int w0.1] from rfl] at sb hbb hPG sxG;generalize upd (upd H1 e0 _) q1 _=G at sb hbb hPG sxG ⊢;obtain ⟨dxG,obG⟩:=hPG.ob;obtain ⟨xsG,hblG,_⟩:=hPG.bs;show aE obG rfl (aE obG rfl {_,_,(Ny sxG hbl0).seqT hq,rfl,?_});rwa [gJ];let lo1:=FZ.dh ones {[],.go w0.1} w0.2;show {N,bl,w0.2,{[],.go w0.1},xs1,ones,f1,hPG,hbb,sxG _ _ ha1 na1,qe h1 sxG hbl0 nf1,na1,nf1,Oo,Oo,cE _,λy2 H3 s3 hP3 hb3 l3=>?_};generalize FZ.bq ones {[],.go w0.1} w0.2=o at *;let gw2:=FZ.bQ o.1 o.2;show {N,bl,_,_,hP3,hb3,Oo,λH4 s4 hP4=>?_};generalize FZ.bK o.1 o.2=wo at *;let sxG4:=s3.trans s4;let sx4:=sxG.trans sxG4;obtain ⟨dx4,ob4⟩:=hP4.ob;obtain ⟨xs4,hbl4,_⟩:=hP4.bs;show aE ob4 rfl (aE ob4 rfl {_,_,(Ny sx4 hbl0).seqT hq,rfl,?_});rwa [gJ];let lo2:=FZ.dh others {[],.go w0.1} wo.2;show {N,bl,wo.2,{[],.go w0.1},ys1,others,g1,hP4,hbb.sx sxG4 hblG,sx4 _ _ hc1 nc1,qe h2 sx4 hbl0 ng1,nc1,ng1,Oo,Oo,cE _,λy5 H5 s5 hP5 hb5 l5=>?_};generalize FZ.bq others {[],.go w0.1} wo.2=o2 at *;show {N,bl,_,_,hP5,hb5,Oo,λH6 s6 hP6=>?_};generalize FZ.bK o2.1 o2.2=wp at *;let sx6:=sx4.trans (s5.trans s6);obtain ⟨xs6,hbl6,_⟩:=hP6.bs;intro a7 ha7;let t7:=Ng (o:=.lst []) ha7;show {_,_,(Ny sx6 hbl0 |>.trans t7.ts).seqT hq,rfl,λe7 he7 q7 hq7=>?_};obtain ⟨sm,hb7⟩:=gU (K:=K) (ed:=.choose n wo.1 wp.1) (ds:=[]) hbl6 (hP6.nw _ ha7) ha7 .nil he7 hq7;show q _ _ (sx6.trans (Nw sm)) (hP6.same sm) hb7 (cE _)
def F5(T:Txt K mg t)(d:Nat)(G_39:FnOk P w K mg base CX0 (3 * d+4) t.f_39 t.e_39 ["self","rows","block"] (ji K t.C10 d)):FnOk P w K mg base CX0 (3 * d+5) t.f_42 t.e_42 ["self","row","block"] (eU K t.C10 (d+1) Jc):=by
 show T.d_42.F.ok sc_42 ∅ ?_;rintro cdv A outer s H vs Q E hr ⟨p,r,x,rfl,N,bl,B,b,st,f,hP,hb,hv,hok,nbf,hd,hm,h8,q⟩;show {_,(XSs.h (af (aw (i:=3) sc_42.nd rfl ll (am T.c10.cl T.d_38 (uE T) hr.m (!0) #[!2])) (af (aw (i:=4) sc_42.nd rfl ll (gk T.c10.cl T.d_36 (wC T) hr.m (!0))) (af (aw (i:=5) sc_42.nd rfl ll (am T.c10.cl T.d_38 (uE T) hr.m (!0) #[am T.c10.cl T.d_39 G_39 hr.m (!0) #[aq aD (!1) ai,aK #[aR ac,aK #[aG,!4]]]])) (af (kU (aK #[aR ac,aK #[aG,aq aD (!1) ai,!5,!3]]) (kT (aL (!0) rfl) (!4) jf)) (aj (ao (aK #[aR ac,aK #[aG,!4]])))))))),?_}
 ac_rfl
 cases hv with
 | @deed q0 dd hf hq=>show absurd hok id
 | @ifs q0 a1 c1 n xs1 ys1 ones others f1 g1 hq ha1 hc1 h1 h2=>show absurd hok id
 | @whl q0 a1 n xs1 rows f1 hq ha1 h1=>
  simp only [Stm.deep,Stm.many] at hd hm;obtain ⟨xs0,hbl0,_⟩:=hP.bs;let na1:a1≠bl:=λz=>nbf (by rw [<- z];simp);let nf1:bl∉f1:=λz=>nbf (by simp [z]);obtain ⟨dx,ob⟩:=hP.ob;rw [FZ.d9] at q;dsimp only at q;rwa [jd,gJ,q9];show aE ob rfl {N,bl,B,b,hP,hb,Oo,λH1 sx1 hP1=>?_};let gw:=FZ.bQ b B;generalize FZ.bK b B=w0 at *;obtain ⟨dx1,ob1⟩:=hP1.ob;show aE ob1 rfl ?_;show {N,bl,w0.2,hP1,Oo,λH2 sx2 hP2=>?_};let sx02:=sx1.trans sx2;obtain ⟨dx2,ob2⟩:=hP2.ob;obtain ⟨xs2,hbl2,_⟩:=hP2.bs;show aE ob2 rfl (aE ob2 rfl {_,_,(Ny sx02 hbl0).seqT hq,rfl,λa3 ha3 e3 he3 q3 hq3=>?_});obtain ⟨sm,hb3⟩:=gU (K:=K) (ed:=.go w0.2.length) (ds:=[]) hbl2 (hP2.nw _ ha3) ha3 .nil he3 hq3;rw [show fH (.go w0.2.length)=[V.str "go",V.int w0.2.length] from rfl] at sm hb3;let hP3:=hP2.same sm;let sx03:=sx02.trans (Nw (p:=bl) sm);rwa [gJ];let lo:=FZ.dh rows {[],.go w0.2.length} (w0.2++[{[],.stop}]);let go:=FZ.cV rows {[],.go w0.2.length} (w0.2++[{[],.stop}]);rw [bW,dc] at lo go;show {N,bl,w0.2++[({[],.stop}:Nc)],{[],.go w0.2.length},xs1,rows,f1,hP3,hb3,sx03 _ _ ha1 na1,qe h1 sx03 hbl0 nf1,na1,nf1,Oo,(by rw [bW,dc];omega),cE _,λy4 H4 s4 hP4 hb4 l4=>?_};generalize FZ.bq rows {[],.go w0.2.length} (w0.2++[{[],.stop}])=o at *;let gw2:=FZ.bQ o.1 o.2;show {N,bl,_,_,hP4,hb4,Oo,λH5 s5 hP5=>?_};generalize FZ.bK o.1 o.2=wo at *;let sx05:=sx03.trans (s4.trans s5);intro a6 ha6;let t6:=Ng (o:=.lst []) ha6;show {_,_,(Ny sx05 hbl0 |>.trans t6.ts).seqT hq,rfl,λe6 he6 q6 hq6=>?_};obtain ⟨xs5,hbl5,_⟩:=hP5.bs;obtain ⟨sm6,hb6⟩:=gU (K:=K) (ed:=.choose n wo.1 w0.1) (ds:=[]) hbl5 (hP5.nw _ ha6) ha6 .nil he6 hq6;rw [show fH (.choose n wo.1 w0.1)=[V.str "choose",V.str n,V.int wo.1,V.int w0.1] from rfl] at sm6 hb6;let hP6:=hP5.same sm6;let sx06:=sx05.trans (Nw (p:=bl) sm6);generalize upd (upd (upd H5 a6 _) e6 _) q6 _=G at sm6 hb6 hP6 sx06 ⊢;obtain ⟨dx6,ob6⟩:=hP6.ob;obtain ⟨xs6,hbl6,hxs6⟩:=hP6.bs;let lx6:=hxs6.length;show bS ob6 T.c10.cl T.n10 rfl ?_;let sx67:SameX bl G (upd G bl (.lst (xs6.set w0.2.length (.ref q6)))):=NA;show {bl,xs6,_,w0.2.length,rfl,rfl,hbl6,FL.pL Oo,?_};let hP7:PartAt K t.C10 N (upd G bl (.lst (xs6.set w0.2.length (.ref q6)))) p bl (wo.2.set w0.2.length ⟨[],.choose n wo.1 w0.1⟩):=
   {{dx6,sx67 _ _ ob6 hP6.ne},λc hc=>hP6.nw c (eJ hc),_,ae,FL.Paired.put (hb6.sx sx67 hbl6) _ (FL.Paired.imp hxs6 λy _ c _ h=>h.sx sx67 hbl6)}
  let sx07:=sx06.trans sx67;generalize upd G bl _=G2 at hP7 sx07 ⊢;intro a8 ha8 e8 he8 q8 hq8;obtain ⟨xs7,hbl7,_⟩:=hP7.bs;obtain ⟨sm8,hb8⟩:=gU (K:=K) (ed:=.go w0.2.length) (ds:=[]) hbl7 (hP7.nw _ ha8) ha8 .nil he8 hq8;show q _ _ (sx07.trans (Nw sm8)) (hP7.same sm8) hb8 (cE _)
def BR(T:Txt K mg t)(d:Nat)(G_41:FnOk P w K mg base CX0 (3 * d+5) t.f_41 t.e_41 ["self","row","block"] (eU K t.C10 (d+1) Jb)) (G_42:FnOk P w K mg base CX0 (3 * d+5) t.f_42 t.e_42 ["self","row","block"] (eU K t.C10 (d+1) Jc)):FnOk P w K mg base CX0 (3 * (d+1)+3) t.f_40 t.e_40 ["self","row","block"] (eU K t.C10 (d+1) λ_=>True):=by
 show T.d_40.F.ok LC ∅ ?_;rintro cdv A outer s H vs Q E hr ⟨p,r,x,rfl,N,bl,B,b,st,f,hP,hb,hv,hok,nbf,hd,hm,h8,q⟩;obtain ⟨dx,ob⟩:=hP.ob;obtain ⟨xs0,hbl0,_⟩:=hP.bs;show {_,(XSs.h (af (aM (aA bi (aq aD (!1) ai) aG (aH _)) (aj (ao (am T.c10.cl T.d_41 G_41 hr.m (!0) #[!1,!2]))) aF) (af (aM (aA bi (aq aD (!1) ai) aG (aH _)) (aj (ao (am T.c10.cl T.d_42 G_42 hr.m (!0) #[!1,!2]))) aF) (af (aM (aA bi (az aC gl T.z15 Nm #[aq aD (!2) ai]) (tP (v:=.int 8) gl T.g11 {_,rfl}) (aH _)) (aj (ao (aK #[aR #[!1],aK #[aG,am T.c10.cl T.d_38 (uE T) hr.m (!0) #[!2]]]))) aF) (aj (ao (aK #[ax eM (aR #[!1]) (aq aD (!2) ai),aq aD (!2) ai]))))))),?_}
 ac_rfl;let hv0:=hv
 cases hv with
 | @ifs q0 a1 c1 n xs1 ys1 ones others f1 g1 hq ha1 hc1 h1 h2=>
  rwa [gc,jd];show {_,_,hq,rfl,?_};rwa [gc,jd];show aJ (λ_=>aE ob rfl {N,bl,B,b,_,_,hP,hb,hv0,trivial,nbf,hd,hm,h8,q}) (λz=>absurd trivial z)
 | @whl q0 a1 n xs1 rows f1 hq ha1 h1=>
  rwa [gc,jd];show {_,_,hq,rfl,?_};rwa [gc,jd];show aJ (λz=>absurd z Ol) (λ_=>{_,_,hq,rfl,?_});rwa [gc,jd];show aJ (λ_=>aE ob rfl {N,bl,B,b,_,_,hP,hb,hv0,trivial,nbf,hd,hm,h8,q}) (λz=>absurd trivial z)
 | @deed q0 dd hf hq=>
  rwa [gc,jd];show oh hf hq Ol Ol Ol {_,rfl,?_};rw [zq0 zq6];show oh hf hq Ol Ol Ol {_,rfl,?_};rw [zq0 zq6];obtain ⟨qb,ab,eb,vs,rfl,b1,b2,b3,b4,b5,b6⟩:=id hb;let lv:=b3.length;rw [FZ.d9] at q;simp only [Stm.many] at hm;rwa [gc,jd];show {_,_,Nl b1,rfl,ab,vs,rfl,.inl (Nh b2),?_}
  by_cases c8:b.ds.length=8
  ·rw [zq1 c8] at q;rw [zq1 (by rw [lv,c8];rfl)];intro a1 ha1;let t1:=Ng (o:=.lst [V.ref q0]) ha1;let n1:a1≠bl:=(au hbl0 ha1).symm;show aE (t1 _ _ ob) rfl {N,bl,B,b,hP.same t1,hb.same t1,Oo,λH2 s2 hP2=>?_};let sx2:=(Nw (p:=bl) t1).trans s2;intro e3 he3 q3 hq3;obtain ⟨sm,hb3⟩:=zT (K:=K) (ed:=.go (FZ.bK b B).1) (ds:=[dd]) (s2 _ _ ae n1) n1 (hP.nw _ ha1) (.cons {q0,rfl,(Ny sx2 hbl0).seqT hq,hf} .nil) he3 hq3;show q _ _ (sx2.trans (Nw sm)) (hP2.same sm) hb3 Oq
  ·rw [zq0 c8] at q;rw [zq0 (by rw [lv];simp;omega)];intro a1 ha1;let t1:=Ng (o:=.lst [V.ref q0]) ha1;let n1:ab≠a1:=au b2 ha1;show {_,_,Nl (t1 _ _ b1),rfl,a1,ab,_,_,rfl,rfl,ae,t1 _ _ b2,by rw [bB,dc];omega,λa2 ha2=>?_};let t2:=Ng (o:=.lst ([V.ref q0]++vs)) ha2;let t12:=t1.trans t2;show {_,_,Nl (t12 _ _ b1),rfl,λq3 hq3=>?_};let t3:=Ng (o:=.tup [V.ref a2,V.ref eb]) hq3;let t13:=t12.trans t3;let n2:a2≠bl:=(au (t1 _ _ hbl0) ha2).symm;show q _ _ (Nw t13) (hP.same t13) {q3,a2,eb,_,rfl,ae,t3 _ _ ae,?_,t13 _ _ b4,n2,hP.nw _ (t1.free ha2)} (by rw [cG];omega);show .cons {q0,rfl,t13.ts.seqT hq,hf} (FL.Paired.imp b3 λy _ c _ z=>z.ts t13.ts)
def sU(C:Addr):Sp:=λvs H Q _=>∃(p:Addr)(dx:Addr),vs=[.ref p]/\H p=some (.ins C dx [])/\∀bl,H bl=none->Q .non (upd (upd H bl (.lst [])) p (.ins C dx [("blocks",.ref bl)]))
def nO(K:N5)(C:Addr)(d:Nat)(p:Addr)(H:Hp)(Q:VK):Prop:=∃(wd:Int)(ins oth:N0)(ss:Nf)(a b r:Addr)(ys:N7)(g:N2),ProgAt K C H p wd ins oth ss a b r ys g/\ce ss<d/\3 * bJ ss<3900/\
 ∀bl xs H',Same H H'->H bl=none->H' bl=some (.lst xs)->Paired (BlkV K (λc=>H c=none) H' bl) xs (FZ.cT ss)->Q (.ref bl) H'
def oE(K:N5)(C:Addr)(d:Nat):Sp:=λvs H Q _=>∃p:Addr,vs=[.ref p]/\nO K C d p H Q
def Bs{C p:Addr}{d:Nat}{H:Hp}{Q:VK}{E:XK}:oE K C d [.ref p] H Q E=nO K C d p H Q:=∅
def EO{C p:Addr}{H:Hp}{Q:VK}{E:XK}:sU C [.ref p] H Q E=∃dx,H p=some (.ins C dx [])/\∀bl,H bl=none->Q .non (upd (upd H bl (.lst [])) p (.ins C dx [("blocks",.ref bl)])):=propext {by rintro ⟨_,dx,e,q⟩;cases e;show ⟨dx,q⟩,λ⟨dx,q⟩=>{_,dx,rfl,q}}
def AZ(T:Txt K mg t):FnOk P w K mg base CX0 1 t.f_35 t.e_35 ["self"] (sU t.C10):=by
 show T.d_35.F.ok Ly ∅ ?_;rintro cdv A outer s H vs Q E hr ⟨p,dx,rfl,hp,q⟩;show {_,(XSs.h (aj (cP (!0) (aR ac) rfl))),?_}
 ac_rfl;rwa [];intro bl hbl;let np:p≠bl:=au hp hbl;show iu (by rw [ak np];show hp) T.c10.cl T.n10 Oq ?_;rw [cB Os,tZ];show q bl hbl
def mj(T:Txt K mg t):∀d,FnOk P w K mg base CX0 (3 * d+3) t.f_40 t.e_40 ["self","row","block"] (eU K t.C10 d λ_=>True)/\FnOk P w K mg base CX0 (3 * d+4) t.f_39 t.e_39 ["self","rows","block"] (ji K t.C10 d)
 |0=>by
  let h0:FnOk P w K mg base CX0 (3 * 0+3) t.f_40 t.e_40 ["self","row","block"] (eU K t.C10 0 λ_=>True):={λvs H Q E h=>by obtain ⟨_,_,_,_,_,_,_,_,_,_,_,_,_,_,_,h,_⟩:=h;omega,λ_ _ _ _ _ _ _ _ _ _ _ _ _ h=>by obtain ⟨_,_,_,_,_,_,_,_,_,_,_,_,_,_,_,h,_⟩:=h;omega}
  show {h0,ox T 0 h0}
 |d+1=>by let h1:=BR T d (DT T d (mj T d).2) (F5 T d (mj T d).2);show {h1,ox T (d+1) h1}
def yy(T:Txt K mg t)(d:Nat):FnOk P w K mg base CX0 (3 * d+5) t.f_34 t.e_34 ["program"] (oE K t.C11 d):=by
 let G_39:=(@mj P w K mg base t T d).2;show T.d_34.F.ok sc_34 ∅ ?_;rintro cdv A outer s H vs Q E hr ⟨p,rfl,wd,ins,oth,ss,a,b,r,ys,g,hP,hd,hm,q⟩;show {_,(XSs.h (af (aw (i:=1) sc_34.nd rfl ll (mQ T.c10 T.d_35 (AZ T) hr.m gl)) (af (aw (i:=2) sc_34.nd rfl ll (gk T.c10.cl T.d_36 (wC T) hr.m (!1))) (af (kU (am T.c10.cl T.d_39 G_39 hr.m (!1) #[aL (!0) rfl,aK #[aR ac,aK #[aG]]]) (kT (aL (!1) rfl) (!2) jf)) (aj (ao (aL (!1) rfl))))))),?_}
 ac_rfl;rwa [q9,gJ];intro x dx hx hdx hne;rwa [EO,q9,gJ];show {dx,ae,λbl hbl=>?_};let hbl0:H bl=none:=eJ (eJ hbl);let nxb:x≠bl:=au ae hbl;let e2:upd (upd (upd (upd H dx (.own x)) x (.ins t.C10 dx [])) bl (.lst [])) x (.ins t.C10 dx [("blocks",.ref bl)]) bl=some (.lst []):=by rw [ak nxb.symm];show ae
 let hQ:PartAt K t.C10 (λc=>H c=none) (upd (upd (upd (upd H dx (.own x)) x (.ins t.C10 dx [])) bl (.lst [])) x (.ins t.C10 dx [("blocks",.ref bl)])) x bl []:=
  {⟨dx,ae⟩,λc hc=>eJ (eJ (eJ (eJ hc))),[],e2,.nil}
 let s2:Same H (upd (upd (upd (upd H dx (.own x)) x (.ins t.C10 dx [])) bl (.lst [])) x (.ins t.C10 dx [("blocks",.ref bl)])):=(((Ng hdx).updM hx).updM hbl0).updM hx;generalize upd (upd (upd (upd H dx (.own x)) x (.ins t.C10 dx [])) bl (.lst [])) x (.ins t.C10 dx [("blocks",.ref bl)])=H2 at *;obtain ⟨dx2,ob2⟩:=hQ.ob;show aE ob2 rfl {_,bl,[],hQ,On,λH3 sx3 hP3=>?_};let n0:∀c o,H c=some o->c≠bl:=λc o e=>au e hbl0;let s3:Same H H3:=λc o e=>sx3 c o (s2 _ _ e) (n0 c o e);obtain ⟨dx3,ob3⟩:=hP3.ob;obtain ⟨dp,obp⟩:=hP.ob;show aE ob3 rfl ?_;show bS (s3 _ _ obp) T.c11.cl T.n15 rfl ?_;rwa [q9,gJ];intro a4 ha4 e4 he4 q4 hq4;obtain ⟨xs3,hbl3,_⟩:=hP3.bs;obtain ⟨sm,hb4⟩:=gU (K:=K) (N:=λc=>H c=none) (ed:=.stop) (ds:=[]) hbl3 (hP3.nw _ ha4) ha4 .nil he4 hq4;rw [show fH .stop=[V.str "stop"] from rfl] at sm hb4;let hP4:=hP3.same sm;let s4:=s3.trans sm;generalize upd (upd (upd H3 a4 _) e4 _) q4 _=G at sm hb4 hP4 s4 ⊢;let nf:bl∉g:=λz=>by obtain ⟨zs,hz⟩:=hP.st.tracked bl z;rw [hbl0] at hz;cases hz
 show {_,bl,_,_,ys,ss,g,hP4,hb4,s4 _ _ hP.rs,hP.st.same s4,n0 _ _ hP.rs,nf,hd,by simp;omega,Oq,λy H5 sx5 hP5 hb5 _=>?_};rw [tZ] at hP5 hb5;let eB:FZ.cT ss=(FZ.bq ss ⟨[],.stop⟩ [{[],.stop}]).2.set 0 (FZ.bq ss ⟨[],.stop⟩ [{[],.stop}]).1:=rfl;let ho:=FZ.cV ss {[],.stop} [{[],.stop}];generalize FZ.bq ss {[],.stop} [{[],.stop}]=o at *;let s5:Same H H5:=λc o e=>sx5 c o (s4 _ _ e) (n0 c o e);obtain ⟨dx5,ob5⟩:=hP5.ob;obtain ⟨xs5,hbl5,hxs5⟩:=hP5.bs;let lx5:=hxs5.length;rw [dc] at ho;show bS ob5 T.c10.cl T.n10 rfl ?_;show {bl,xs5,_,0,rfl,rfl,hbl5,FL.pL (k:=0) Oo,?_};let sx6:SameX bl H5 (upd H5 bl (.lst (xs5.set 0 y))):=NA;show bS (sx6 _ _ ob5 hP5.ne) T.c10.cl T.n10 rfl ?_;show q bl _ _ (λc o e=>sx6 c o (s5 _ _ e) (n0 c o e)) hbl0 ae ?_;rw [eB];show FL.Paired.put (hb5.sx sx6 hbl5) _ (FL.Paired.imp hxs5 λy _ c _ h=>h.sx sx6 hbl5)
def vA(K:N5)(d:Nat)(a:Addr)(H:Hp)(Q:VK):Prop:=∃(xs:N7)(ss:Nf)(f:N2),H a=some (.lst xs)/\StmsV K H xs ss f/\ce ss<d/\bJ ss<=1000/\
 ∀p ys g H',Same H H'->H' p=some (.lst ys)->StmsV K H' ys ss g->(p::g).Nodup->(∀c∈p::g,H c=none)->Q (.ref p) H'
def kQ(K:N5)(d:Nat):Sp:=λvs H Q _=>∃a:Addr,vs=[.ref a]/\vA K d a H Q
def jI{d:Nat}{a:Addr}{H:Hp}{Q:VK}{E:XK}:kQ K d [.ref a] H Q E=vA K d a H Q:=∅
def yt(T:Txt K mg t)(d:Nat)(G_68:FnOk P w K mg base CX0 (d+1) t.f_68 t.e_68 ["_law_rows"] (kQ K d)):FnOk P w K mg base CX0 (d+2) t.f_68 t.e_68 ["_law_rows"] (kQ K (d+1)):=by
 show T.d_68.F.ok sc_68 ∅ ?_;rintro cdv A outer s H vs Q E hr ⟨a,rfl,xs,ss,f,ha,hx,hd,hm,q⟩;show {_,(XSs.h (af (aw (i:=1) sc_68.nd rfl ll (aR ac)) (af (bv PassesOwn.never rfl (aX (!0)) (ay (i:=2) sc_68.nd rfl ll) (da (aM (aA bi (aq aD (!2) ai) aG (aH _)) (aj (aw (i:=2) sc_68.nd rfl ll (aK #[aG,aq aD (!2) ai,av T.d_68 G_68 hr.m #[aq aD (!2) ai] gl,av T.d_68 G_68 hr.m #[aq aD (!2) ai] gl]))) (aj (aM (aA bi (aq aD (!2) ai) aG (aH _)) (aj (aw (i:=2) sc_68.nd rfl ll (aK #[aG,aq aD (!2) ai,av T.d_68 G_68 hr.m #[aq aD (!2) ai] gl]))) aF))) (aj (aT (bH Nk Ni Nj aS (!1) #[!2]))))) (aj (ao (!1)))))),?_}
 ac_rfl;rwa [jI];let lx:=hx.length;let lm:=j0 ss;intro acc hacc;show {{_,Nh (Ng hacc _ _ ha)},?_};show eC (xs:=xs) (λi σ H'=>Same H H'/\∃ys g o2,H' acc=some (.lst ys)/\ys.length=i/\StmsV K H' ys (ss.take i) g/\(acc::g).Nodup/\(∀c∈acc::g,H c=none)/\σ=[some (.ref a),some (.ref acc),o2])
  {Ng hacc,[],[],_,ae,rfl,.nil,Oq,λc hc=>by rw [zq15.mp hc];show hacc,rfl} (λi σ H' _ h=>Nh (h.1 _ _ ha)) ?_ ?_
 ·rintro i x σ H1 hxi ⟨s1,ys,g,o2,hacc1,ly,hg,nd,fr,rfl⟩;obtain ⟨st,f',hs,hsv,_⟩:=hx.get hxi;let hi:i<ss.length:=(zq7.mp hs).1;let hse:ss[i]=st:=(zq7.mp hs).2;let hds:=js (bR hs);let hmy:=rQ (bR hs);let hsv1:=hsv.same s1;rwa [jI];show {λσ H'=>∃y g2,Same H1 H'/\StmV K H' y st g2/\g2.Nodup/\(∀c∈g2,H1 c=none)/\σ=[some (.ref a),some (.ref acc),some y],?_,?_}
  ·cases hsv1 with
   | @deed q0 dd hf hq=>
    rwa [];show oh hf hq Ol Ol Ol {_,rfl,?_};rw [zq0 zq6];show oh hf hq Ol Ol Ol {_,rfl,?_};rw [zq0 zq6];show {_,[],Nq _,.deed hf hq,Oq,(λc hc=>by cases hc),rfl}
   | @ifs q0 a1 c1 n xs1 ys1 ones others f1 g1 hq ha1 hc1 h1 h2=>
    simp only [Stm.deep,Stm.many] at hds hmy;rwa [];show {_,_,hq,rfl,?_};rwa [];show aJ (λ_=>{_,_,hq,rfl,_,_,hq,rfl,?_}) (λz=>absurd trivial z);rwa [jI];show {xs1,ones,f1,ha1,h1,Oo,Oo,λp1 zs1 g1' H2 s2 e1 k1 nd1 fr1=>{_,_,s2.seqT hq,rfl,?_}};rwa [jI];show {ys1,others,g1,s2 _ _ hc1,h2.same s2,Oo,Oo,λp2 zs2 g2 H3 s3 e2 k2 nd2 fr2 p3 hp3=>?_};let s4:=Ng (o:=.tup [V.str "if",V.str n,V.ref p1,V.ref p2]) hp3;let s23:=s2.trans s3;show ⟨_,p1::p2::(g1'++g2),s23.trans s4,.ifs (Nl ae) (s4 _ _ (s3 _ _ e1)) (s4 _ _ e2) ((k1.same s3).same s4) (k2.same s4),?_,(λc hc=>?_),rfl⟩
    ·let dj:∀c∈p1::g1',c∉p2::g2:=λc h1 h2=>by
      let ex:∃u,H2 c=some u:=by
       rcases zq9.mp h1 with z | z
       ·show {_,by rw [z];show e1}
       ·obtain ⟨u,hu⟩:=k1.tracked c z;show {_,hu}
      obtain ⟨u,hu⟩:=ex;rw [fr2 c h2] at hu;cases hu
     let n5:=gW nd1 nd2 dj;show (List.Perm.nodup_iff ?_).mp n5;rw [nK];show .cons _ List.perm_middle
    ·rcases zq9.mp hc with z | z
     ·rw [z];show fr1 p1 Oq
     rcases zq9.mp z with z | z
     ·rw [z];show s2.free (fr2 p2 Oq)
     rcases zq27.mp z with z | z
     ·show fr1 c (zq8 _ z)
     ·show s2.free (fr2 c (zq8 _ z))
   | @whl q0 a1 n xs1 rows f1 hq ha1 h1=>simp only [Stm.deep,Stm.many] at hds hmy;rwa [];show {_,_,hq,rfl,?_};rwa [];show aJ (λz=>absurd z Ol) (λ_=>{_,_,hq,rfl,?_});rwa [];show aJ (λ_=>{_,_,hq,rfl,_,_,hq,rfl,?_}) (λz=>absurd trivial z);rwa [jI];show {xs1,rows,f1,ha1,h1,Oo,Oo,λp1 zs1 g1' H2 s2 e1 k1 nd1 fr1 p3 hp3=>?_};let s4:=Ng (o:=.tup [V.str "while",V.str n,V.ref p1]) hp3;show ⟨_,p1::g1',s2.trans s4,.whl (Nl ae) (s4 _ _ e1) (k1.same s4),nd1,fr1,rfl⟩
  rintro σ H2 ⟨y,g2,s2,hy,nd2,fr2,rfl⟩;rwa [];let na:acc∉g:=(zq42.mp nd).1;let na2:acc∉g2:=λz=>by rw [fr2 acc z] at hacc1;cases hacc1
  let hacc2:=s2 _ _ hacc1;let tt:TSame H2 (upd H2 acc (.lst (ys++[y]))):=Nv hacc2;show {.inl {rfl,_,Nh hacc2},_,hacc2,by rw [bB];omega,(s1.trans s2).updM hacc,ys++[y],g++g2,_,ae,by simp [ly],?_,?_,(λc hc=>?_),rfl}
  ·rw [dH hi,hse];show ((hg.same s2).keep tt (Kept.upd na)).snoc (hy.keep tt (Kept.upd na2))
  ·show zq42.mpr {λz=>(zq27.mp z).elim na na2,gW (zq42.mp nd).2 nd2 λc h1 h2=>?_};obtain ⟨zs,hz⟩:=hg.tracked c h1;rw [fr2 c h2] at hz;cases hz
  ·rcases zq9.mp hc with z | z
   ·rw [z];show hacc
   ·rcases zq27.mp z with z | z
    ·show fr c (zq8 _ z)
    ·show s1.free (fr2 c z)
 ·rintro σ H1 ⟨s1,ys,g,o2,hacc1,ly,hg,nd,fr,rfl⟩;rw [lx,eA] at hg;rwa [];show q acc ys g H1 s1 hacc1 hg nd fr
def wD(T:Txt K mg t):∀d,FnOk P w K mg base CX0 (d+1) t.f_68 t.e_68 ["_law_rows"] (kQ K d)
 |0=>{λvs H Q E h=>by obtain ⟨_,_,_,_,_,_,_,h,_⟩:=h;omega,λ_ _ _ _ _ _ _ _ _ _ _ _ _ h=>by obtain ⟨_,_,_,_,_,_,_,h,_⟩:=h;omega}
 |d+1=>yt T d (wD T d)
variable {H:Hp} {Q:VK}
def DU{o:FB.Opd}(h:Q (.bl (lV o.v)) H):sr K [o.v,.ty "str"] H Q:=by
 cases o with
 |box n=>show {_,_,_,rfl,Ol,.str,h}
 |word i=>show {_,_,_,rfl,Ol,.int,h}
def rG{n:Str}{ns:N0}(h:n∈ns):inV (.str n) (ns.map V.str)=true:=by unfold inV;rw [Df,zq89];show {n,h,by simp [eqV]}
def iV{p:Addr}{xs:N7}(hp:SqT K H p xs)(h:Q (.bl true) H):sr K [.ref p,.ty "tuple"] H Q:={_,_,_,rfl,Ol,.tup hp,h}
def wj{p:Addr}{xs:N7}(hp:SqL K H p xs)(h:Q (.bl true) H):sr K [.ref p,.ty "list"] H Q:={_,_,_,rfl,Ol,.lst hp,h}
def gS{n:Str}(h:Q (.bl true) H):sr K [.str n,.ty "str"] H Q:={_,_,_,rfl,Ol,.str,h}
def vX{o:FB.Opd}:List.map id (List.filter lV [o.v])=o.reads.map V.str:=by cases o<;>rfl
def A9{o p:FB.Opd}:List.map id (List.filter lV [o.v,p.v])=(o.reads++p.reads).map V.str:=by cases o<;>cases p<;>rfl
def uG{f:Str}(h:f∈FB.opsL):¬f="tell":=by
 rintro rfl
 revert h
 decide +kernel
def ix0{d:Na}{H:Hp}{a:Addr}{Z:V->Hp->Prop}(f:d.fine)(hS:SqT K H a d.vs)(h:Z (.bl d.tells) H):∃xs v,SqT K H a xs/\atI xs 0=some v/\rEq v (.str "tell") H Z:=by
 cases d with
 |tell o=>show {_,_,hS,rfl,rfl,h}
 |copy n o=>show {_,_,hS,rfl,rfl,h}
 |op g n o p=>show {_,_,hS,rfl,rfl,?_};let e:decide (V.str g=V.str "tell")=false:=cR (λz=>uG f (V.str.inj z));rw [e];show h
def wr(d:Na):Str:=d.writes.headD ""
def LV{d:Na}(f:d.tells=true):d.writes=[]:=by
 cases d with
 |tell o=>rfl
 |copy n o=>cases f
 |op g n o p=>cases f
def dM:Na->List FB.Opd
 | .tell a=>[a]
 | .copy _ a=>[a]
 | .op _ _ a b=>[a,b]
def wrV(d:Na):V:=match d.writes with | []=>.non | n::_=>.str n
def xk(K:N5):Sp:=λvs H Q _=>∃(a:Addr)(d:Na),vs=[.ref a]/\SqT K H a d.vs/\d.fine/\∀p,H p=none->Q (.ref p) (upd H p (.tup ((dM d).map FB.Opd.v)))
def mI(K:N5):Sp:=λvs H Q _=>∃(a:Addr)(d:Na),vs=[.ref a]/\SqT K H a d.vs/\d.fine/\Q (wrV d) H
def sg{d:Na}:(dM d).length<=2:=by cases d<;>simp [dM]
def wG(T:Txt K mg t):FnOk P w K mg base CX0 1 t.f_3 t.e_3 ["deed"] (xk K):=by
 show T.d_3.F.ok MF ∅ ?_;rintro cdv A outer s H vs Q E hr ⟨a,d,rfl,hS,hf,q⟩;show {_,(XSs.h (aj (ao (f6 (aA bi (aq aD (!0) ai) aG (aH _)) (bD BZ (!0) (bE ai) cj) (bD BZ (!0) (bE ai) cj))))),?_}
 ac_rfl;rwa [];show ix0 hf hS {_,rfl,?_}
 cases d with
 |tell o=>show {_,hS,me (k:=1) (show ¬HT.sIx 2 0 (some 1)=0 by decide),q}
 |copy n o=>show {_,hS,me (k:=2) (show ¬HT.sIx 3 0 (some 2)=0 by decide),q}
 |op f n o o2=>show {_,hS,me (k:=2) (show ¬HT.sIx 4 0 (some 2)=0 by decide),q}
def BF{a:Addr}{H:Hp}{Q:VK}{E:XK}:xk K [.ref a] H Q E=∃d:Na,SqT K H a d.vs/\d.fine/\∀p,H p=none->Q (.ref p) (upd H p (.tup ((dM d).map FB.Opd.v))):=propext {by rintro ⟨_,d,e,q⟩;cases e;show ⟨d,q⟩,by rintro ⟨d,q⟩;show ⟨a,d,rfl,q⟩}
def iz(T:Txt K mg t):FnOk P w K mg base CX0 1 t.f_5 t.e_5 ["deed"] (mI K):=by
 show T.d_5.F.ok MH ∅ ?_;rintro cdv A outer s H vs Q E hr ⟨a,d,rfl,hS,hf,q⟩;show {_,(XSs.h (aj (ao (f6 (aA bi (aq aD (!0) ai) aG (aH _)) gi (aq aD (!0) ai))))),?_}
 ac_rfl;rwa [];show ix0 hf hS {_,rfl,?_}
 cases d with
 |tell o=>show q
 |copy n o=>show {_,_,hS,rfl,q}
 |op f n o o2=>show {_,_,hS,rfl,q}
def fN{a:Addr}{H:Hp}{Q:VK}{E:XK}:mI K [.ref a] H Q E=∃d:Na,SqT K H a d.vs/\d.fine/\Q (wrV d) H:=propext {by rintro ⟨_,d,e,q⟩;cases e;show ⟨d,q⟩,by rintro ⟨d,q⟩;show ⟨a,d,rfl,q⟩}
def bc(ds:N9)(j k:Nat):Option Int:=match ds[j]?,ds[k]? with
 |some d,some e=>FB.yf d e
 |_,_=>none
def C5(K:N5):Sp:=λvs H Q _=>∃(a:Addr)(xs:N7)(ds:N9)(j k:Nat)(d e:Na),vs=[.ref a,.int j,.int k]/\SqL K H a xs/\DeedsV K H xs ds/\j<k/\ds[j]?=some d/\ds[k]?=some e/\∀H',Same H H'->Q (FB.pW (FB.yf d e)) H'
def xl(K:N5):Sp:=λvs H Q _=>∃(a:Addr)(d:Na),vs=[.ref a]/\SqT K H a d.vs/\d.fine/\∀p H',Same H H'->H p=none->H' p=some (.lst (d.reads.map V.str))->Q (.ref p) H'
def uH{d:Na}:List.map id (List.filter lV ((dM d).map FB.Opd.v))=d.reads.map V.str:=by
 cases d with
 |tell o=>show vX
 |copy n o=>show vX
 |op f n o o2=>show A9
def Ec(T:Txt K mg t):FnOk P w K mg base CX0 2 t.f_4 t.e_4 ["deed"] (xl K):=by
 show T.d_4.F.ok MG ∅ ?_;rintro cdv A outer s H vs Q E hr ⟨a,d,rfl,hS,hf,q⟩;show {_,(XSs.h (aj (ao (aU (tns:=["part"]) (cns:=[]) (ci:=[]) rfl (Np Om) (qi (av T.d_3 (wG T) hr.m #[!0] gl)) (λ_=>(ay (i:=1) (show List.Nodup [(".0":Str),("part":Str)] by decide +kernel) rfl ll (Or.inr Om))) (λ_=>(kS (aV (az dk gl T.z12 boot_isinstance #[!1,(dy (v:=.ty "str") gl T.z16 boot_str rfl)])))) (λ_=>(!1)))))),?_}
 ac_rfl;rwa [BF];show {d,hS,hf,λp hp=>{{_,Nl ae},λacc hacc bk=>?_}};show zW lV id (by rw [bB,zq3];let this:=sg (d:=d);omega) (Nl ae) hacc (λx hm H3 Q' s3 h=>?_) (λx hm H3 Q' s3 _ h=>?_) ?_
 ·obtain ⟨o,_,rfl⟩:=zq32.mp hm;rwa [];show DU {_,rfl,h}
 ·rwa [];show h
 ·rw [uH];show q acc _ ((Ng hp).trans (Ng hacc)) ((Ng hp).free hacc) ae
def BG{a:Addr}{H:Hp}{Q:VK}{E:XK}:xl K [.ref a] H Q E=∃d:Na,SqT K H a d.vs/\d.fine/\∀p H',Same H H'->H p=none->H' p=some (.lst (d.reads.map V.str))->Q (.ref p) H':=propext {by rintro ⟨_,d,e,q⟩;cases e;show ⟨d,q⟩,by rintro ⟨d,q⟩;show ⟨a,d,rfl,q⟩}
def An{d:Na}{ns:N0}:inV (wrV d) (ns.map V.str)=decide (∃n∈d.writes,n∈ns):=by
 let hn:∀ns:N0,inV .non (ns.map V.str)=false:=λns=>by
  induction ns with
  |nil=>rfl
  |cons m ns ih=>unfold inV at ih ⊢;rw [cH,tX,ih];rfl
 cases d with
 |tell o=>change inV .non _=_;rw [hn];simp [FB.Deed.writes]
 |copy n o=>change inV (.str n) _=_;rw [pJ];simp [FB.Deed.writes]
 |op f n o o2=>change inV (.str n) _=_;rw [pJ];simp [FB.Deed.writes]
def GT(T:Txt K mg t):FnOk P w K mg base CX0 10 t.f_44 t.e_44 ["deeds","j","k"] (C5 K):=by
 show T.d_44.F.ok sc_44 ∅ ?_;rintro cdv A outer s H vs Q E hr ⟨a,xs,ds,j,k,d,e,rfl,hS,hds,hjk,hd,he,q⟩;show {_,(XSs.h (af (aw (i:=3) sc_44.nd rfl ll (aq aP (!0) (!1))) (af (aw (i:=4) sc_44.nd rfl ll (aq aP (!0) (!2))) (af (aM (cq (i3 (aA bi (aq aD (!3) ai) aG (aH _)) (fT (aA bi (aq aD (!4) ai) aG (aH _))))) (aj (ao ai)) aF) (af (aw (i:=5) sc_44.nd rfl ll (av T.d_5 (iz T) hr.m #[!3] gl)) (af (aM (cq (i3 (aA kN (!5) gi (aH _)) (fT (cq (cD (aA dZ (!5) (av T.d_4 (Ec T) hr.m #[!4] gl) rfl) (cQ (aA bi (!5) (av T.d_5 (iz T) hr.m #[!4] gl) (aH _)))))))) (aj (ao ai)) aF) (aj (ao (f6 (aA dZ (av T.d_5 (iz T) hr.m #[!4] gl) (av T.d_4 (Ec T) hr.m #[!3] gl) rfl) ai gi))))))))),?_}
 ac_rfl;rwa [BG,fN];obtain ⟨x,hx,fd,qx,rfl,hqx⟩:=NC hds hd;obtain ⟨y,hy,fe,qy,rfl,hqy⟩:=NC hds he;show {_,_,hS,bO hx,_,_,hS,bO hy,?_};rwa [BG,fN];let fl:∀d:Na,cf (wrV d)=true:=λd=>by cases d<;>rfl
 let nw:∀d:Na,(! decide (wrV d=V.non))=! d.tells:=λd=>by cases d<;>rfl
 let last:∀H1,Same H H1->¬(d.tells=true/\e.tells=true)->¬(∃n∈d.writes,n∈e.reads\/n∈e.writes)->∃d0:Na,SqT K H1 qy d0.vs/\d0.fine/\∃d1:Na,SqT K H1 qx d1.vs/\d1.fine/\
   ∀p H2,Same H1 H2->H1 p=none->H2 p=some (.lst (d1.reads.map V.str))->∃xs,(SqL K H2 p xs\/SqT K H2 p xs)/\cf (wrV d0)=true/\xs.all cf=true/\if inV (wrV d0) xs=true then Q (.int 0) H2 else Q .non H2:=by
  intro H1 s1 h1 h2;show {e,s1.seqT hqy,fe,d,s1.seqT hqx,fd,λp H2 s2 hp hl=>{_,.inl (Nh hl),fl e,jt,?_}};rw [An];unfold FB.yf at q;rw [zq0 h1,zq0 h2] at q;show aJ (λh=>?_) (λh=>?_)
  ·rw [zq1 h] at q;show q _ (s1.trans s2)
  ·rw [zq0 h] at q;show q _ (s1.trans s2)
 let wrm:∀(d e:Na),d.tells=false->(wrV d=wrV e↔∃n∈d.writes,n∈e.writes):=λd e h=>by cases d<;>cases e<;>simp [wrV,FB.Deed.writes,FB.Deed.tells] at h ⊢
 show ix0 fd hqx {_,rfl,iW (λe1=>ix0 fe hqy {_,rfl,iW (λe2=>?_) (λe2=>?_)}) (λe1=>?_)}
 ·unfold FB.yf at q;rw [zq1 ⟨e1,e2⟩] at q;show q H (Nq H)
 ·let nt:¬(d.tells=true/\e.tells=true):=λz=>by rw [e2] at z;show zq6 z.2
  show {d,hqx,fd,?_};rw [nw,e1];show last H (Nq H) nt ?_;rw [LV e1];simp
 ·let nt:¬(d.tells=true/\e.tells=true):=λz=>by rw [e1] at z;show zq6 z.1
  show {d,hqx,fd,?_};rw [nw,e1];show {e,hqy,fe,λp H2 s2 hp hl=>{_,.inl (Nh hl),fl d,jt,?_}};rw [An];show aJ (λh=>?_) (λh=>{e,s2.seqT hqy,fe,?_})
  ·unfold FB.yf at q;obtain ⟨n,h1,h2⟩:=h;rw [zq0 nt,zq1 {n,h1,.inl h2}] at q;show q _ s2
  show {by cases d<;>cases e<;>rfl,_,rfl,aJ (λh2=>?_) (λh2=>?_)}
  ·unfold FB.yf at q;obtain ⟨n,h3,h4⟩:=(wrm d e e1).mp h2;rw [zq0 nt,zq1 {n,h3,.inr h4}] at q;show q _ s2
  ·show last H2 s2 nt ?_;rintro ⟨n,h3,h4 | h4⟩
   ·show h ⟨n,h3,h4⟩
   ·show h2 ((wrm d e e1).mpr ⟨n,h3,h4⟩)
def x5:Na->Nat
 | .op f _ _ _=>if f∈(["plus","less"]:N0) then 0 else if f∈(["below","same"]:N0) then 1 else if f∈(["and","or","xor"]:N0) then 2 else 3
 |_=>3
def sV(d:Na):V:=if x5 d<3 then .int (x5 d) else .non
def Gw(ds:N9)(p:Int):Na:=ds.getD p.toNat (.tell (.word 0))
def fS(ds:N9):V->V
 | .int p=>sV (Gw ds p)
 |_=>.non
def C0{d:Na}(h:d.fine):∃f:Str,atI d.vs 0=some (.str f)/\(cn kvs_SORTS (.inr f)).getD .non=sV d:=by
 cases d with
 |tell o=>show {"tell",rfl,Om}
 |copy n o=>show {"copy",rfl,Om}
 |op f n o o2=>show {f,rfl,?_};let h:f∈FB.opsL:=h;simp only [FB.opsL,List.mem_cons,List.not_mem_nil,or_false] at h;rcases h with rfl | rfl | rfl | rfl | rfl | rfl | rfl<;>kernel_rfl
def J8{d:Na}{s:Nat}(h:s<3):eqV (sV d) (.int s)=decide (x5 d=s):=by
 unfold sV
 split
 ·rw [FL.vV,jT,qo,qo];omega
 ·rw [cR Oo];rfl
def oH(K:N5):Sp:=λvs H Q _=>∃(a:Addr)(d:Na),vs=[.ref a]/\SqT K H a d.vs/\d.fine/\Q (sV d) H
def yB(T:Txt K mg t)(hw:t.pr=w.params):FnOk P w K mg base CX0 1 t.f_6 t.e_6 ["deed"] (oH K):=by
 show T.d_6.F.ok MI ∅ ?_;rintro cdv A outer s H vs Q E hr ⟨a,d,rfl,hS,hf,q⟩;show {_,(XSs.h (aj (ao (zp hw T.k11 T.g10 gl (aq aD (!0) ai) ⟨rfl,rfl,rfl,rfl⟩)))),?_}
 ac_rfl;rwa [];obtain ⟨f,hf0,hv⟩:=C0 hf;show {_,_,hS,hf0,.inr f,rfl,?_};rw [hv];show q
def mC{a:Addr}{H:Hp}{Q:VK}{E:XK}:oH K [.ref a] H Q E=∃d:Na,SqT K H a d.vs/\d.fine/\Q (sV d) H:=propext {by rintro ⟨_,d,e,q⟩;cases e;show ⟨d,q⟩,by rintro ⟨d,q⟩;show ⟨a,d,rfl,q⟩}
variable {H:Hp} {Q:VK} {a p:Addr} {i:Nat}
def nl(ps:be):N7:=ps.map λp:Nat=>V.int p
def soN(ds:N9)(p:Nat):Nat:=x5 (ds.getD p (.tell (.word 0)))
def uN(us:N3)(s:Nat):Int:=us.getD s 0
def lT{j:Nat}:∀{ps:be},inV (.int j) (nl ps)=decide (j∈ps)
 | []=>rfl
 |p::ps=>by let ih:=lT (j:=j) (ps:=ps);unfold inV nl at ih ⊢;rw [cH,tX,ih,FL.vV,jT];simp only [Bool.or_eq_true,decide_eq_true_eq,List.mem_cons];show {λh=>h.imp (λe=>Oo) id,λh=>h.imp (λe=>Oo) id}
def gR:∀{ps:be},(nl ps).all cf=true
 | []=>rfl
 |p::ps=>by let ih:=gR (ps:=ps);unfold nl at ih ⊢;rw [cH,vn,ih];rfl
def Jh{ps:be}{p:Nat}(h:ps[i]?=some p):(nl ps)[i]?=some (V.int p):=by unfold nl;rw [bP,h];rfl
def g8{ps:be}:(nl ps).length=ps.length:=by unfold nl;rw [zq3]
def BX{ds:N9}{p:Nat}(h:p<ds.length):(ds.map sV)[p]?=some (sV (ds.getD p (.tell (.word 0)))):=by rw [bP,bN h,eK,bN h];rfl
def Gs{ds:N9}{bt:be}{s:Nat}(h:s<3):DH (.int s) (bt.map λp=>sV (ds.getD p (.tell (.word 0))))=GD.iq (soN ds) bt s:=by unfold DH GD.iq;rw [List.countP_map];apply List.countP_congr;intro p _;change eqV (sV (ds.getD p (.tell (.word 0)))) (.int s)=true↔_;rw [J8 h];rfl
def DN{d:Na}:cf (sV d)=true:=by unfold sV;split<;>rfl
def Je(b so gp:Addr):List (Str×V):=[("units",.ref b),("sorts",.ref so),("gaps",.ref gp)]
structure LayerH(K:N5)(C:Addr)(H:Hp)(p:Addr)(ds:N9)(us:N3):Prop where
 ob:∃(dx b so gp:Addr)(qs:N2),H p=some (.ins C dx (Je b so gp))/\SqT K H b (us.map V.int)/\H so=some (.lst (ds.map sV))/\H gp=some (.lst (qs.map V.ref))/\qs.length=ds.length/\∀(k:Nat)q,qs[k]?=some q->H q=some (.lst ((List.range k).map λj=>FB.pW (bc ds j k)))
 h8:ds.length<=8
 h3:us.length=3
 hp:∀u∈us,0<u/\u<=3
def LayerH.same{K:N5}{C:Addr}{H':Hp}{ds:N9}{us:N3}(s:Same H H')(h:LayerH K C H p ds us):LayerH K C H' p ds us:=
 {let ⟨dx,b,so,gp,qs,e1,e2,e3,e4,e5,e6⟩:=h.ob;{dx,b,so,gp,qs,s _ _ e1,s.seqT e2,s _ _ e3,s _ _ e4,e5,λk q hk=>s _ _ (e6 k q hk)},h.h8,h.h3,h.hp}
def LayerH.pos{K:N5}{C:Addr}{ds:N9}{us:N3}(h:LayerH K C H p ds us):∀s,s<3->0<uN us s:=λs hs=>by let hl:=h.h3;unfold uN;rw [eK,bN Oo];show (h.hp _ (kB _)).1
def vw(K:N5)(C:Addr)(p d b:Addr)(i:Int)(H:Hp)(Q:VK):Prop:=∃(ds:N9)(us:N3)(dn bt:be)(pl:Nat),i=pl/\LayerH K C H p ds us/\SqT K H d (nl dn)/\SqL K H b (nl bt)/\pl<ds.length/\(∀q∈bt,q<ds.length)/\bt.length<=8/\∀H',Same H H'->Q (.bl (GD.c9 (bc ds) (soN ds) (uN us) dn bt pl)) H'
def x6(K:N5)(C:Addr):Sp:=λvs H Q _=>∃(p d b:Addr)(i:Int),vs=[.ref p,.ref d,.ref b,.int i]/\vw K C p d b i H Q
def mz{C d b:Addr}{i:Int}{E:XK}:x6 K C [.ref p,.ref d,.ref b,.int i] H Q E=vw K C p d b i H Q:=propext {by rintro ⟨_,_,_,_,e,q⟩;cases e;show q,λq=>⟨p,d,b,i,rfl,q⟩}
def mB{i j:Int}{E:XK}:C5 K [.ref a,.int i,.int j] H Q E=∃(xs:N7)(ds:N9)(m k:Nat),i=m/\j=k/\SqL K H a xs/\DeedsV K H xs ds/\m<k/\k<ds.length/\∀H',Same H H'->Q (FB.pW (bc ds m k)) H':=propext ⟨by
  rintro ⟨_,xs,ds,m,k,d,e,ev,h1,h2,h3,h4,h5,q⟩
  cases ev
  show {xs,ds,m,k,rfl,rfl,h1,h2,h3,(zq7.mp h5).1,?_};unfold bc;rw [h4,h5];show q,by
  rintro ⟨xs,ds,m,k,rfl,rfl,h1,h2,h3,h4,q⟩;obtain ⟨d,hd⟩:∃d,ds[m]?=some d:={_,bN Oo}
  obtain ⟨e,he⟩:∃e,ds[k]?=some e:={_,bN h4}
  show {a,xs,ds,m,k,d,e,rfl,h1,h2,h3,hd,he,?_};unfold bc at q;rw [hd,he] at q;show q⟩
def ixL{xs:N7}{v:V}(h:SqL K H a xs)(hv:xs[i]?=some v)(q:Q v H):Eu K (.ref a) (.int i) H Q:=by rwa [];show {_,_,h,bO hv,q}
def ixT{xs:N7}{v:V}(h:SqT K H a xs)(hv:xs[i]?=some v)(q:Q v H):Hz K (.ref a) (.int i) H Q:=by rwa [];show {_,_,h,bO hv,q}
def wB(T:Txt K mg t):FnOk P w K mg base CX0 1 t.f_50 t.e_50 ["self","done","beat","place"] (x6 K t.C12):=by
 show T.d_50.F.ok sc_50 ∅ ?_;rintro cdv A outer s H vs Q E hr ⟨p,d,b,i,rfl,ds,us,dn,bt,pl,rfl,L,hD,hB,hpl,hbt,hlb,q⟩;obtain ⟨dx,ub,sb,gb,qs,hob,hU,hSo,hGp,hql,hq⟩:=L.ob;let h3:=L.h3;show {_,(XSs.h (af (aw (i:=4) sc_50.nd rfl ll (aq aP (aL (yqv 0 vc) rfl) (!3))) (da (aM (cq (i3 (aA kN (!4) gi (aH _)) (fT (aA bi (bH Nk PySem.F.slot_list_count PySem.F.type_list_count AD (aU (tns:=["other"]) (cns:=["self"]) (ci:=[0]) rfl (Np Om) (aX (!2)) (λ_=>(ay (i:=1) (show List.Nodup [(".0":Str),("other":Str),("self":Str)] by decide +kernel) rfl ll (Or.inr Om))) (λ_=>bf) (λ_=>(aq aP (aL (yqv 2 vc) rfl) (!1)))) #[!4]) (aq aD (aL (yqv 0 vc) rfl) (!4)) (aH _))))) (aj (ao fh)) aF) (af (bv PassesOwn.never rfl (CQ T.z22 #[aq aP (aL (yqv 0 vc) rfl) (!3)] gl) (cy rfl (aQ (ay (i:=5) sc_50.nd rfl ll) (aQ (ay (i:=6) sc_50.nd rfl ll) bV))) (af (aw (i:=7) sc_50.nd rfl ll (CO (bu dZ (!5) (!1) rfl) (dB (cx (bu bi (!6) ai (aH _)) (dB (bu dZ (!5) (!2) rfl)))))) (aj (aM (cq (i3 (aA kN (!6) gi (aH _)) (fT (cZ (aV (!7)))))) (aj (ao fh)) aF)))) (aj (ao fh)))))),?_}
 ac_rfl;erw [];show bS hob T.c12.cl T.n17 rfl (ixL (Nh hSo) (BX hpl) ?_);show later ?_;erw [];show {λσ H'=>Same H H'/\(soN ds pl<3->(GD.iq (soN ds) bt (soN ds pl):Int)≠uN us (soN ds pl))/\σ=[some (.ref p),some (.ref d),some (.ref b),some (.int pl),some (sV (ds.getD pl (.tell (.word 0)))),none,none,none],?_,?_}
 ·by_cases hs:soN ds pl<3
  ·let e:sV (ds.getD pl (.tell (.word 0)))=.int (soN ds pl):=zq1 hs;rw [e];rwa [];show {{_,hB},λacc hacc bk=>?_};show qW (λ_=>true) (λx=>sV (Gw ds (match x with | .int i=>i | _=>0))) (by rw [g8,bB];omega) hB hacc (λx _ H2 Q' s2 h=>h H2 (Nq _)) (λx hx H2 Q' s2 _ h=>?_) λH2 s2 hacc2=>?_
   ·obtain ⟨qp,hqm,rfl⟩:=zq32.mp hx;rwa [];show bS (s2 _ _ hob) T.c12.cl T.n17 rfl (ixL (Nh (s2 _ _ hSo)) (BX (hbt qp hqm)) (h H2 (Nq _)))
   ·rw [fW] at hacc2;let el:List.map (λx=>sV (Gw ds (match x with | .int i=>i | _=>0))) (nl bt)=bt.map λp=>sV (ds.getD p (.tell (.word 0))):=by unfold nl;rw [gm];rfl
    rw [el] at hacc2;let hu:(us.map V.int)[soN ds pl]?=some (V.int (uN us (soN ds pl))):=by unfold uN;rw [bP,bN Oo,eK,bN Oo];rfl
    show {.inl {rfl,_,Nh hacc2},_,Nh hacc2,rfl,?_,?_}
    ·rw [List.all_map,zq49];show λx _=>DN
    show bS (s2 _ _ hob) T.c12.cl T.n16 rfl (ixT (s2.seqT hU) hu ?_);rw [Gs hs];rwa [];show aJ (λz=>?_) (λz=>{s2,λ_=>z});let hf:GD.c9 (bc ds) (soN ds) (uN us) dn bt pl=false:=by
     cases hf:GD.c9 (bc ds) (soN ds) (uN us) dn bt pl with
     |false=>rfl
     |true=>show absurd z ((GD.fits_iff.mp hf).1 hs)
    rw [hf] at q;show q H2 s2
  ·let e:sV (ds.getD pl (.tell (.word 0)))=.non:=zq0 hs;rw [e];rwa [];show {Nq H,λz=>absurd z hs}
 ·rintro σ H1 ⟨s1,hc,rfl⟩;show later ?_;obtain ⟨gq,hgq⟩:∃gq,qs[pl]?=some gq:={_,bN Oo}
  let hG:=hq pl gq hgq;rwa [];show bS (s1 _ _ hob) T.c12.cl T.n18 rfl (ixL (Nh (s1 _ _ hGp)) (v:=.ref gq) (by rw [bP,hgq];rfl) {gq,rfl,{_,Nh (s1 _ _ hG)},?_});show DP (xs:=(List.range pl).map λj=>FB.pW (bc ds j pl)) (λi σ H'=>Same H H'/\(∀j,j<i->GD.dX (bc ds) dn bt pl j=true)/\∃o5 o6 o7,σ=[some (.ref p),some (.ref d),some (.ref b),some (.int pl),some (sV (ds.getD pl (.tell (.word 0)))),o5,o6,o7]) {s1,λj hj=>absurd hj Oo,_,_,_,rfl} (λi σ H' _ h=>Nh (h.1 _ _ hG)) ?_ ?_
  ·rintro i x σ H2 pp hx hpp ⟨s2,hah,o5,o6,o7,rfl⟩;let hi:i<pl:=by let this:=(zq7.mp hx).1;rwa [zq3,fi] at this
   rw [bP,Dg hi] at hx
   cases hx
   let s3:Same H (upd H2 pp (.tup [.int i,FB.pW (bc ds i pl)])):=s2.updN hpp;rwa [];show {_,Nl ae,rfl,?_};let ih:GD.dX (bc ds) dn bt pl i=true->∀j,j<i+1->GD.dX (bc ds) dn bt pl j=true:=λh j hj=>by
    by_cases e:j=i
    ·rw [e];show h
    ·show hah j Oo
   let no:GD.dX (bc ds) dn bt pl i=false->GD.c9 (bc ds) (soN ds) (uN us) dn bt pl=false:=λh=>by
    cases hf:GD.c9 (bc ds) (soN ds) (uN us) dn bt pl with
    |false=>rfl
    |true=>have z:=(GD.fits_iff.mp hf).2 i hi;rw [h] at z;cases z
   unfold GD.dX at ih no
   cases hg:bc ds i pl with
   |none=>
    rw [hg] at ih s3;simp_arith [FB.pW] at s3 ⊢;let ih':=ih rfl;show {_,.inr (s3.seqT hD),rfl,gR,?_}
    split
    ·split<;>show {s3,ih',_,_,_,rfl}
    ·show {rfl,_,rfl,?_};rw [show decide (V.non=V.int 0)=false from rfl];simp only [decide_true,Bool.not_true,Bool.false_eq_true,if_false];show {s3,ih',_,_,_,rfl}
   |some l=>
    rw [hg] at ih no s3;simp_arith [FB.pW] at s3 ⊢;dsimp only at ih no;show {_,.inr (s3.seqT hD),rfl,gR,?_};rw [lT,show decide (V.int l=V.non)=false from rfl]
    by_cases h1:i∈dn
    ·rw [zq1 (bX h1)]
     split<;>show {s3,ih (by simp [h1]),_,_,_,rfl}
    ·rw [zq0 (by simp [h1])]
     by_cases h2:l=0
     ·rw [zq1 (bX h2)];show {_,.inl (s3.seq hB),rfl,gR,?_};rw [lT]
      by_cases h3':i∈bt
      ·simp only [h3',decide_true,Bool.not_true,Bool.not_false,Bool.false_eq_true,if_false,if_true];show {s3,ih (by simp [h2,h3']),_,_,_,rfl}
      ·simp only [h3',decide_false,Bool.not_true,Bool.not_false,Bool.false_eq_true,if_false,if_true];rw [no (by simp [h1,h3'])] at q;show q _ s3
     ·rw [zq0 (by simp [h2])];simp only [Bool.not_true,Bool.not_false,Bool.false_eq_true,if_false,if_true];rw [no (by simp [h1,h2])] at q;show q _ s3
  ·rintro σ H2 ⟨s2,hah,o5,o6,o7,rfl⟩;rw [zq3,fi] at hah;let hf:GD.c9 (bc ds) (soN ds) (uN us) dn bt pl=true:=GD.fits_iff.mpr ⟨hc,hah⟩;rw [hf] at q;rwa [];show q H2 s2
def oR(K:N5)(H:Hp)(a b:Addr)(ds:N9)(us:N3):Prop:=∃xs,SqL K H a xs/\DeedsV K H xs ds/\ds.length<=8/\SqT K H b (us.map V.int)/\us.length=3/\∀u∈us,0<u/\u<=3
variable {H:Hp}
def LLN(H:Hp)(c:Addr)(bts:List be):Prop:=∃ps:N2,H c=some (.lst (ps.map V.ref))/\Paired (λp (b:be)=>H p=some (.lst (nl b))) ps bts
def LLN.same{H':Hp}{c:Addr}{bts:List be}(s:Same H H')(h:LLN H c bts):LLN H' c bts:=
 let ⟨ps,e,r⟩:=h;{ps,s _ _ e,Nx r λ_ _ z=>s _ _ z}
def GQ{mo r:Addr}{rs:N2}{b:be}(h1:H mo=some (.lst (rs.map V.ref)))(h2:H r=some (.lst (nl b)))(hr:r∈rs):r≠mo:=by
 rintro rfl;rw [h1] at h2;let e:rs.map V.ref=nl b:=HO.lst.inj (Option.some.inj h2)
 cases rs with
 |nil=>cases hr
 |cons x xs=>
  cases b with
  |nil=>cases e
  |cons y ys=>
   unfold nl at e;rw [cH,cH] at e
   cases (List.cons.inj e).1
def wN{H:Hp}{mo:Addr}{rs:N2}{o:HO}(h:H mo=some (.lst (rs.map V.ref))):∀{rs':N2} {bs:List be},Paired (λr (b:be)=>H r=some (.lst (nl b))) rs' bs->(∀r∈rs',r∈rs)->Paired (λr (b:be)=>upd H mo o r=some (.lst (nl b))) rs' bs
 |_,_,.nil,_=>.nil
 |_,_,.cons z t,hm=>.cons (by rw [ak (GQ h z (hm _ Oq))];show z) (wN h t λr hr=>hm r (zq8 _ hr))
def Bi{H:Hp}{mo:Addr}{rs:N2}{bs:List be}{r:Addr}{b:be}(h:H mo=some (.lst (rs.map V.ref)))(hp:Paired (λr (b:be)=>H r=some (.lst (nl b))) rs bs)(hr:H r=some (.lst (nl b)))(ne:r≠mo):
  Paired (λq (b:be)=>upd H mo (.lst (rs.map V.ref++[.ref r])) q=some (.lst (nl b))) (rs++[r]) (bs++[b]):=Paired.snoc (wN h hp λ_ h=>h) (by rw [ak ne];show hr)
def E4{bt:be}{p:Nat}:nl bt++[V.int p]=nl (bt++[p]):=by unfold nl;rw [dN];rfl
def vG(K:N5)(C:Addr)(p d b m:Addr)(H:Hp)(Q:VK):Prop:=∃(ds:N9)(us:N3)(dn bt ms:be),LayerH K C H p ds us/\SqT K H d (nl dn)/\SqL K H b (nl bt)/\SqL K H m (nl ms)/\(∀q∈bt,q<ds.length)/\bt.length<=8/\(∀q∈ms,q<ds.length)/\ms.length<=8/\∀H',Same H H'->Q (.bl (GD.kh (bc ds) (soN ds) (uN us) dn bt ms)) H'
def xm(K:N5)(C:Addr):Sp:=λvs H Q _=>∃(p d b m:Addr),vs=[.ref p,.ref d,.ref b,.ref m]/\vG K C p d b m H Q
def qI(K:N5)(C:Addr)(p d c:Addr)(i:Int)(H:Hp)(Q:VK):Prop:=∃(ds:N9)(us:N3)(dn:be)(bts:List be) (pl:Nat),i=pl/\LayerH K C H p ds us/\SqT K H d (nl dn)/\LLN H c bts/\pl<ds.length/\(∀b∈bts,(∀q∈b,q<ds.length)/\b.length<=7)/\bts.length<=1000/\
 ∀c' H',Same H H'->LLN H' c' (GD.bZ (bc ds) (soN ds) (uN us) dn bts pl)->Q (.ref c') H'
def sO(K:N5)(C:Addr):Sp:=λvs H Q _=>∃(p d c:Addr)(i:Int),vs=[.ref p,.ref d,.ref c,.int i]/\qI K C p d c i H Q
def uP{C p d b m:Addr}{Q:VK}{E:XK}:xm K C [.ref p,.ref d,.ref b,.ref m] H Q E=vG K C p d b m H Q:=propext {by rintro ⟨_,_,_,_,e,q⟩;cases e;show q,λq=>⟨p,d,b,m,rfl,q⟩}
def wW{C p d c:Addr}{i:Int}{Q:VK}{E:XK}:sO K C [.ref p,.ref d,.ref c,.int i] H Q E=qI K C p d c i H Q:=propext {by rintro ⟨_,_,_,_,e,q⟩;cases e;show q,λq=>⟨p,d,c,i,rfl,q⟩}
def fRm(f:Nat->Bool):V->V
 | .int i=>.bl (f i.toNat)
 |_=>.non
def Ee(T:Txt K mg t):FnOk P w K mg base CX0 2 t.f_49 t.e_49 ["self","done","beat","missing"] (xm K t.C12):=by
 show T.d_49.F.ok LF ∅ ?_;rintro cdv A outer s H vs Q E hr ⟨p,d,b,m,rfl,ds,us,dn,bt,ms,L,hD,hB,hM,hbt,hlb,hms,hlm,q⟩;show {_,(XSs.h (aj (ao (az (qQ rfl) gl T.z24 boot_any #[(aU (tns:=["place"]) (cns:=["self","done","beat"]) (ci:=[0,1,2]) rfl (Np Om) (aX (!3)) (λ_=>(ay (i:=1) (show List.Nodup [(".0":Str),("place":Str),("self":Str),("done":Str),("beat":Str)] by decide +kernel) rfl ll (Or.inr Om))) (λ_=>bf) (λ_=>(cx (bu j8 (!1) (yqv 4 vc) rfl) (dB (am T.c12.cl T.d_50 (wB T) hr.m (yqv 2 vc) #[yqv 3 vc,yqv 4 vc,!1])))))])))),?_}
 ac_rfl;rwa [mz];show {{_,hM},λacc hacc bk=>?_};show qW (λ_=>true) (fRm λq=>! decide (q∈bt)&&GD.c9 (bc ds) (soN ds) (uN us) dn bt q) (by rw [g8,bB];omega) hM hacc (λx _ H2 Q' s2 h=>h H2 (Nq _)) (λx hx H2 Q' s2 _ h=>?_) λH2 s2 hacc2=>?_
 ·obtain ⟨qp,hqm,rfl⟩:=zq32.mp hx;rwa [mz];show {_,.inl (s2.seq hB),rfl,gR,?_};rw [lT];let h':∀H',Same H2 H'->Q' (.bl (! decide (qp∈bt)&&GD.c9 (bc ds) (soN ds) (uN us) dn bt qp)) H':=h;obtain ⟨dx,ub,sb,gb,qs,hob,_⟩:=(L.same s2).ob;show rH (λhn=>?_) (λhn=>?_)
  ·rw [cR hn,Bool.not_false,Dh] at h';show aE hob rfl {ds,us,dn,bt,qp,rfl,L.same s2,s2.seqT hD,s2.seq hB,hms qp hqm,hbt,hlb,h'}
  ·rw [bX hn,Bool.not_true,CW] at h';show h' H2 (Nq _)
 rw [fW] at hacc2;show {ms.map λq=>! decide (q∈bt)&&GD.c9 (bc ds) (soN ds) (uN us) dn bt q,Nh ?_,?_}
 ·rw [hacc2];unfold nl;rw [gm,gm];rfl
 ·let z:=q H2 s2;unfold GD.kh at z;rw [Df];show z
def AU(T:Txt K mg t):FnOk P w K mg base CX0 2 t.f_48 t.e_48 ["self","done","beats","place"] (sO K t.C12):=by
 show T.d_48.F.ok sc_48 ∅ ?_;rintro cdv A outer s H vs Q E hr ⟨p,d,c,i,rfl,ds,us,dn,bts,pl,rfl,L,hD,hC,hpl,hb,hl,q⟩;obtain ⟨ps,hc,hps⟩:=hC;let lps:=hps.length;show {_,(XSs.h (af (aw (i:=4) sc_48.nd rfl ll (aR ac)) (af (bv PassesOwn.never rfl (aX (!2)) (ay (i:=5) sc_48.nd rfl ll) (af (aw (i:=6) sc_48.nd rfl ll (am T.c12.cl T.d_50 (wB T) hr.m (!0) #[!1,!5,!3])) (da (aM (aV (!6)) (aj (aT (bH Nk Ni Nj aS (!4) #[ax eM (!5) (aR #[!3])]))) aF) (aj (aM (cq (cD (cZ (aV (!6))) (cQ (aA kN (aq aP (aL (!0) rfl) (!3)) gi (aH _))))) (aj (aT (bH Nk Ni Nj aS (!4) #[!5]))) aF))))) (aj (ao (!4)))))),?_}
 ac_rfl;rwa [mz];intro mo hmo;show {{_,Nh (Ng hmo _ _ hc)},?_};show eC (xs:=ps.map V.ref) (λi σ H'=>Same H H'/\∃(rs:N2)(o5 o6:N8),σ=[some (.ref p),some (.ref d),some (.ref c),some (.int pl),some (.ref mo),o5,o6]/\H' mo=some (.lst (rs.map V.ref))/\Paired (λp (b:be)=>H' p=some (.lst (nl b))) rs (GD.bZ (bc ds) (soN ds) (uN us) dn (bts.take i) pl)) {Ng hmo,[],none,none,rfl,ae,.nil} (λi σ H' _ h=>Nh (h.1 _ _ hc)) ?_ ?_
 ·rintro i x σ H1 hx ⟨s1,rs,o5,o6,rfl,hm1,hrs⟩;rw [bP] at hx;obtain ⟨bp,hbp,rfl⟩:=zq30.mp hx;obtain ⟨bt,hbt,hpb⟩:=Nu hps hbp;obtain ⟨hi,ei⟩:=zq7.mp hbt;obtain ⟨b1,b2⟩:=hb bt (bR hbt);simp_arith only [mz];obtain ⟨dx,ub,sb,gb,qs,hob,hU,hSo,hGp,hql,hq⟩:=(L.same s1).ob;show aE hob rfl {ds,us,dn,bt,pl,rfl,L.same s1,s1.seqT hD,Nh (s1 _ _ hpb),hpl,b1,Oo,λH2 s2=>?_};show later ?_;erw [mz];let s3:=s1.trans s2;let hr2:Paired (λp (b:be)=>H2 p=some (.lst (nl b))) rs (GD.bZ (bc ds) (soN ds) (uN us) dn (bts.take i) pl):=Nx hrs λ_ _ z=>s2 _ _ z;let e4:GD.bZ (bc ds) (soN ds) (uN us) dn (bts.take (i+1)) pl=GD.bZ (bc ds) (soN ds) (uN us) dn (bts.take i) pl++GD.ig (bc ds) (soN ds) (uN us) dn bt pl:=by unfold GD.bZ;rw [dH hi,ei,List.flatMap_append,List.flatMap_singleton]
  rw [e4];let lr:=hrs.length;let lg:=GD.jz (G:=bc ds) (so:=soN ds) (U:=uN us) (dn:=dn) (bts.take i) pl;rw [dz] at lg;show {λσ H'=>Same H H'/\∃rs:N2,σ=[some (.ref p),some (.ref d),some (.ref c),some (.int pl),some (.ref mo),some (.ref bp),some (.bl (GD.c9 (bc ds) (soN ds) (uN us) dn bt pl))]/\H' mo=some (.lst (rs.map V.ref))/\Paired (λp (b:be)=>H' p=some (.lst (nl b))) rs (GD.bZ (bc ds) (soN ds) (uN us) dn (bts.take i) pl++(if GD.c9 (bc ds) (soN ds) (uN us) dn bt pl=true then [bt++[pl]] else [])),?_,?_}
  ·cases hf:GD.c9 (bc ds) (soN ds) (uN us) dn bt pl with
   |true=>
    rwa [if_true];show {.inl {rfl,_,Nh (s2 _ _ hm1)},λp3 hp3=>{nl bt,[V.int pl],Ng hp3 _ _ (s2 _ _ (s1 _ _ hpb)),ae,by rw [g8,bB,dc];omega,λp4 hp4=>?_}};let s5:=(Ng (o:=.lst [V.int pl]) hp3).trans (Ng (o:=.lst (nl bt++[V.int pl])) hp4);let m5:=s5 _ _ (s2 _ _ hm1);show {rs.map V.ref,m5,by rw [zq3,bB];omega,(s3.trans s5).updM hmo,rs++[p4],by rw [ae,dN];rfl,?_};show Bi m5 (Nx hr2 λ_ _ z=>s5 _ _ z) (by rw [ae,E4]) (au (Ng hp3 _ _ (s2 _ _ hm1)) hp4).symm
   |false=>rwa [Bool.false_eq_true,if_false,List.append_nil];show {s3,rs,s2 _ _ hm1,hr2}
  ·rintro σ H3 ⟨s4,rs2,rfl,hm3,hr3⟩;show later ?_;let lr3:=hr3.length;rw [bW] at lr3;let l1:(if GD.c9 (bc ds) (soN ds) (uN us) dn bt pl=true then [bt++[pl]] else []).length<=1:=by split<;>simp
   let app:∀v6:V,(GD.c9 (bc ds) (soN ds) (uN us) dn bt pl=false\/soN ds pl<3)->tyV K "list" (V.ref mo) H3/\∃xs,H3 mo=some (.lst xs)/\xs.length<sizeLine/\Same H (upd H3 mo (.lst (xs++[V.ref bp])))/\∃(rs:N2)(o5 o6:N8),
     [some (V.ref p),some (V.ref d),some (V.ref c),some (V.int ↑pl),some (V.ref mo),some (V.ref bp),some v6]=[some (V.ref p),some (V.ref d),some (V.ref c),some (V.int ↑pl),some (V.ref mo),o5,o6]/\upd H3 mo (.lst (xs++[V.ref bp])) mo=some (.lst (rs.map V.ref))/\
      Paired (λp (b:be)=>upd H3 mo (.lst (xs++[V.ref bp])) p=some (.lst (nl b))) rs (GD.bZ (bc ds) (soN ds) (uN us) dn (bts.take i) pl++GD.ig (bc ds) (soN ds) (uN us) dn bt pl):=λv6 hor=>by
    show {.inl {rfl,_,Nh hm3},_,hm3,by rw [zq3,bB];omega,s4.updM hmo,rs2++[bp],_,_,rfl,by rw [ae,dN];rfl,?_};unfold GD.ig;rw [zq1 hor,<- kD];show Bi hm3 hr3 (s4 _ _ hpb) (au hpb hmo)
   rwa []
   cases hf:GD.c9 (bc ds) (soN ds) (uN us) dn bt pl with
   |false=>
    simp only [Bool.not_false,if_true];show app _ (.inl hf)
   |true=>
    simp only [Bool.not_true,Bool.false_eq_true,if_false];obtain ⟨dx,ub,sb,gb,qs,hob,hU,hSo,hGp,hql,hq⟩:=(L.same s4).ob;show bS hob T.c12.cl T.n17 rfl (ixL (Nh hSo) (BX hpl) ?_)
    by_cases hs:soN ds pl<3
    ·rw [show sV (ds.getD pl (.tell (.word 0)))=.int (soN ds pl) from zq1 hs,show decide (V.int (soN ds pl)=V.non)=false from rfl];simp only [Bool.not_false,if_true];show app _ (.inr hs)
    ·rw [show sV (ds.getD pl (.tell (.word 0)))=.non from zq0 hs];simp only [decide_true,Bool.not_true,Bool.false_eq_true,if_false];show {s4,rs2,_,_,rfl,hm3,?_};unfold GD.ig;rw [zq0 (show ¬(GD.c9 (bc ds) (soN ds) (uN us) dn bt pl=false\/soN ds pl<3) by rw [hf];simp [hs]),iD];show hr3
 ·rintro σ H1 ⟨s1,rs,o5,o6,rfl,hm1,hrs⟩;rwa [];rw [zq3,lps,eA] at hrs;show q mo H1 s1 ⟨rs,hm1,hrs⟩
def vx(K:N5)(C:Addr)(p d:Addr)(H:Hp)(Q:VK):Prop:=∃(ds:N9)(us:N3)(dn:be),LayerH K C H p ds us/\SqT K H d (nl dn)/\∀c H',Same H H'->LLN H' c (GD.cz (bc ds) (soN ds) (uN us) ds.length dn)->Q (.ref c) H'
def x8(K:N5)(C:Addr):Sp:=λvs H Q _=>∃(p d:Addr),vs=[.ref p,.ref d]/\vx K C p d H Q
def qJ(K:N5)(C:Addr)(p a b:Addr)(H:Hp)(Q:VK):Prop:=∃(H0:Hp)(dx:Addr)(ds:N9)(us:N3),Same H0 H/\H0 p=none/\H p=some (.ins C dx [])/\oR K H0 a b ds us/\∀H',Same H0 H'->LayerH K C H' p ds us->Q .non H'
def sQ(K:N5)(C:Addr):Sp:=λvs H Q _=>∃(p a b:Addr),vs=[.ref p,.ref a,.ref b]/\qJ K C p a b H Q
def uO{C p d:Addr}{H:Hp}{Q:VK}{E:XK}:x8 K C [.ref p,.ref d] H Q E=vx K C p d H Q:=propext {by rintro ⟨_,_,e,q⟩;cases e;show q,λq=>⟨p,d,rfl,q⟩}
def EM{C p a b:Addr}{H:Hp}{Q:VK}{E:XK}:sQ K C [.ref p,.ref a,.ref b] H Q E=qJ K C p a b H Q:=propext {by rintro ⟨_,_,_,e,q⟩;cases e;show q,λq=>⟨p,a,b,rfl,q⟩}
def gY{f:Str}{v:V}:∀{fs:List (Str×V)},(fs.map (·.1)).contains f=false->eS f v fs=fs++[(f,v)]
 | [],_=>rfl
 | (g,x)::r,h=>by
  rw [cH,List.contains_cons,Bool.or_eq_false_iff] at h;let n:¬g=f:=λz=>by subst z;simp at h
  rw [show eS f v ((g,x)::r)=(if g=f then (g,v)::r else (g,x)::eS f v r) from rfl,zq0 n,gY h.2];rfl
def we{ds:N9}{us:N3}{dn:be}:∀(ms:be)(bts:List be) (m:Nat),(∀q∈ms,q<ds.length)->(∀b∈bts,(∀q∈b,q<ds.length)/\b.length<=m)->∀b∈ms.foldl (GD.bZ (bc ds) (soN ds) (uN us) dn) bts,(∀q∈b,q<ds.length)/\b.length<=m+ms.length
 | [],_,_,_,h=>h
 |p::ms,bts,m,h1,h2=>λb hb=>by
  let z:=we ms (GD.bZ (bc ds) (soN ds) (uN us) dn bts p) (m+1) (λq hq=>h1 q (zq8 _ hq)) (λc hc=>by
   obtain ⟨b',hb',hc⟩:=zq135.mp hc;obtain ⟨g1,g2⟩:=h2 b' hb';rcases GD.rR hc with ⟨_,rfl⟩ | rfl
   ·show {λq hq=>?_,by rw [bW,dc];omega};rcases zq27.mp hq with hq | hq
    ·show g1 q hq
    ·rw [zq15.mp hq];show h1 p Oq
   ·show ⟨g1,Oo⟩) b hb
  show {z.1,by rw [cG];omega}
def rS{n:Nat}{dn:be}:(GD.cU n dn).length<=n:=by let this:=D5 (λp=>! decide (p∈dn)) (List.range n);rwa [fi] at this
def E6(T:Txt K mg t):FnOk P w K mg base CX0 3 t.f_47 t.e_47 ["self","done"] (x8 K t.C12):=by
 show T.d_47.F.ok sc_47 ∅ ?_;rintro cdv A outer s H vs Q E hr ⟨p,d,rfl,ds,us,dn,L,hD,q⟩;let h8:=L.h8;obtain ⟨dx,ub,sb,gb,qs,hob,hU,hSo,hGp,hql,hq⟩:=L.ob;show {_,(XSs.h (af (aw (i:=3) sc_47.nd rfl lc (aU (tns:=["place"]) (cns:=["done"]) (ci:=[1]) rfl (Np Om) (bL gl T.z11 #[az aC gl T.z15 Nm #[aL (yqv 0 vc) rfl]]) (λ_=>(ay (i:=1) (show List.Nodup [(".0":Str),("place":Str),("done":Str)] by decide +kernel) rfl ll (Or.inr Om))) (λ_=>(kS (aA j8 (!1) (yqv 2 vc) rfl))) (λ_=>(!1)))) (af (aw (i:=4) sc_47.nd rfl ll (aR #[aR ac])) (af (bv PassesOwn.never rfl (aX (yqv 3 vc)) (ay (i:=2) sc_47.nd rfl ll) (aj (aw (i:=4) sc_47.nd rfl ll (am T.c12.cl T.d_48 (AU T) hr.m (yqv 0 vc) #[yqv 1 vc,!4,!2])))) (aj (ao (aU (tns:=["beat"]) (cns:=["self","done","missing"]) (ci:=[0,1,3]) rfl (Np Om) (aX (!4)) (λ_=>(ay (i:=1) (show List.Nodup [(".0":Str),("beat":Str),("self":Str),("done":Str),("missing":Str)] by decide +kernel) rfl ll (Or.inr Om))) (λ_=>(kS (cZ (aV (am T.c12.cl T.d_49 (Ee T) hr.m (yqv 2 vc) #[yqv 3 vc,!1,yqv 4 vc]))))) (λ_=>(!1))))))))),?_}
 ac_rfl;rwa [uP,wW];show bS hob T.c12.cl T.n17 rfl ?_;show {sb,_,rfl,.inl (Nh hSo),by rw [zq3];omega,by rw [zq3];omega,λacc hacc bk=>?_};rw [zq3,eh];show lu (λq=>! decide (q∈dn)) (λq=>V.int q) (by rw [bB];omega) hacc (λi hi H2 Q' s2 h=>?_) (λi hi H2 Q' s2 _ h=>?_) λH2 s2 hm=>?_
 ·rwa [];show {_,.inr (s2.seqT hD),rfl,gR,?_};rw [lT];show h H2 (Nq _)
 ·rwa [];show h H2 (Nq _)
 replace hm:H2 acc=some (.lst (nl (GD.cU ds.length dn))):=hm;let hml:=rS (n:=ds.length) (dn:=dn);let hmm:∀q∈GD.cU ds.length dn,q<ds.length:=λq hq=>(GD.miss_iff.mp hq).1;let hfull:GD.cz (bc ds) (soN ds) (uN us) ds.length dn=((GD.cU ds.length dn).foldl (GD.bZ (bc ds) (soN ds) (uN us) dn) [[]]).filter λb=>! GD.kh (bc ds) (soN ds) (uN us) dn b (GD.cU ds.length dn):=rfl;rw [hfull] at q;generalize GD.cU ds.length dn=ms at hm hml hmm q;let hbs:∀i,i<=ms.length->∀b∈(ms.take i).foldl (GD.bZ (bc ds) (soN ds) (uN us) dn) [[]],(∀q∈b,q<ds.length)/\b.length<=i:=λi hi b hb=>by let z:=we (us:=us) (dn:=dn) (ms.take i) [[]] 0 (λq hq=>hmm q (i9 hq)) (λb hb=>by rw [zq15.mp hb];show {λq hq=>(by cases hq),zq4 _}) b hb;rw [dz] at z;show ⟨z.1,Oo⟩
 let hbl:∀i,i<=ms.length->((ms.take i).foldl (GD.bZ (bc ds) (soN ds) (uN us) dn) [[]]).length<=256:=λi hi=>by let z:=GD.lR (G:=bc ds) (so:=soN ds) (U:=uN us) (dn:=dn) (ms.take i) [[]];rw [dz,dc,Nat.mul_one] at z;show bF z (bF (Di On (show min i ms.length<=8 by omega)) On)
 intro p2 hp2 p3 hp3;let s3:=(Ng (o:=.lst []) hp2).trans (Ng (o:=.lst [V.ref p2]) hp3);show {{_,Nh (s3 _ _ hm)},?_};show eC (xs:=nl ms) (λi σ H'=>Same H H'/\H' acc=some (.lst (nl ms))/\∃(o2:N8)(c:Addr),σ=[some (.ref p),some (.ref d),o2,some (.ref acc),some (.ref c)]/\LLN H' c ((ms.take i).foldl (GD.bZ (bc ds) (soN ds) (uN us) dn) [[]])) {s2.trans s3,s3 _ _ hm,_,p3,rfl,[p2],ae,.cons ?_ .nil} (λi σ H' _ h=>Nh h.2.1) ?_ ?_
 ·rw [ak (au ae hp3)];show ae
 ·rintro i x σ H3 hx ⟨s4,hm3,o2,c,rfl,hl⟩;unfold nl at hx;rw [bP] at hx;obtain ⟨pl,hpl,rfl⟩:=zq30.mp hx;obtain ⟨hi,ei⟩:=zq7.mp hpl;rwa [wW];show aE (s4 _ _ hob) rfl {ds,us,dn,_,pl,rfl,L.same s4,s4.seqT hD,hl,hmm pl (bR hpl),λb hb=>{(hbs i Oo b hb).1,by let this:=(hbs i Oo b hb).2;omega},by let this:=hbl i Oo;omega,λc' H4 s5 hl4=>{s4.trans s5,s5 _ _ hm3,_,c',rfl,?_}};rw [dH hi,ei,jU];show hl4
 ·rintro σ H3 ⟨s4,hm3,o2,c,rfl,ps,hc,hps⟩;rw [g8] at hps;let hbs':=hbs ms.length (zq4 _);let hbl':=hbl ms.length (zq4 _);rw [eA] at hps hbs' hbl';generalize ms.foldl (GD.bZ (bc ds) (soN ds) (uN us) dn) [[]]=bts at hps hbs' hbl' q;let lps:=hps.length;rwa [uP];show {{_,Nh hc},λacc2 hacc2 bk2=>?_};show cL (xs:=ps.map V.ref) (λi ys H'=>Same H3 H'/\∃rs:N2,ys=rs.map V.ref/\H' acc2=some (.lst ys)/\rs.length<=i/\Paired (λr (b:be)=>H3 r=some (.lst (nl b))) rs ((bts.take i).filter λb=>! GD.kh (bc ds) (soN ds) (uN us) dn b ms)) {Ng hacc2,[],rfl,ae,zq4 _,.nil} (λi ys H' _ h=>Nh (h.1 _ _ hc)) ?_ ?_
  ·rintro i x ys H' os hx ho ⟨sm,rs,rfl,e1,lrs,hrs⟩;rw [bP] at hx;obtain ⟨bp,hbp,rfl⟩:=zq30.mp hx;obtain ⟨bt,hbt,hpb⟩:=Nu hps hbp;obtain ⟨hi,ei⟩:=zq7.mp hbt;obtain ⟨b1,b2⟩:=hbs' bt (bR hbt)
   match os,ho with
   | [o],_=>
    rwa [uP];let s5:=s4.trans sm;show {{[some (.ref bp)],rfl,rfl},aE (s5 _ _ hob) rfl {ds,us,dn,bt,ms,L.same s5,s5.seqT hD,Nh (sm _ _ hpb),Nh (sm _ _ hm3),b1,Oo,hmm,Oo,λH5 s6=>{_,rfl,?_}}};let s7:=sm.trans s6;rw [dH hi,ei,D4]
    cases hroom:GD.kh (bc ds) (soN ds) (uN us) dn bt ms with
    |false=>
     simp only [Bool.not_false,if_true];show {s6 _ _ e1,by rw [zq3,bB];omega,s7.updM hacc2,rs++[bp],by rw [dN];rfl,ae,by rw [bW,dc];omega,?_};rw [List.filter_cons_of_pos (by rw [hroom];rfl),List.filter_nil];show Paired.snoc hrs hpb
    |true=>simp only [Bool.not_true,Bool.false_eq_true,if_false];show {s7,rs,rfl,s6 _ _ e1,Oo,?_};rw [List.filter_cons_of_neg (by rw [hroom];simp),List.filter_nil,iD];show hrs
  ·rintro ys H' ⟨sm,rs,rfl,e1,lrs,hrs⟩;rw [zq3,lps,eA] at hrs;show q acc2 H' (s4.trans sm) {rs,e1,Nx hrs λ_ _ z=>sm _ _ z}
def AW(T:Txt K mg t)(hw:t.pr=w.params):FnOk P w K mg base CX0 11 t.f_46 t.e_46 ["self","deeds","units"] (sQ K t.C12):=by
 let G_6:=yB (P:=P) (base:=base) T hw;show T.d_46.F.ok LE ∅ ?_;rintro cdv A outer s H vs Q E hr ⟨p,a,b,rfl,H0,dx,ds,us,s0,hp0,hp,hI,q⟩;obtain ⟨xs,hS,hds,h8,hU,h3,hpos⟩:=hI;let lx:=hds.length;show {_,(XSs.h (af (cP (!0) (!2) rfl) (af (cP (!0) (aU (tns:=["deed"]) (cns:=[]) (ci:=[]) rfl (Np Om) (aX (yqv 1 vc)) (λ_=>(ay (i:=1) (show List.Nodup [(".0":Str),("deed":Str)] by decide +kernel) rfl ll (Or.inr Om))) (λ_=>bf) (λ_=>(av T.d_6 G_6 hr.m #[!1] gl))) rfl) (aj (cP (!0) (zj (z0:="k") (tns:=["k"]) (cns:=["deeds"]) (ci:=[1]) rfl (CompScZ.of Om (λ_ _=>rfl) (λ_=>rfl)) (bL gl T.z11 #[az aC gl T.z15 Nm #[yqv 1 vc]]) (λ_=>(ay (i:=1) (show List.Nodup [(".0":Str),("k":Str),("deeds":Str)] by decide +kernel) rfl lc (Or.inl rfl))) (λ_=>bf) (λ_=>(aU (tns:=["j"]) (cns:=["k","deeds"]) (ci:=[1,2]) rfl (Np Om) (bL gl T.z11 #[yqv 1 vc]) (λ_=>(ay (i:=1) (show List.Nodup [(".0":Str),("j":Str),("k":Str),("deeds":Str)] by decide +kernel) rfl ll (Or.inr Om))) (λ_=>bf) (λ_=>(av T.d_44 (GT T) hr.m #[yqv 3 vc,!1,yqv 2 vc] gl))))) rfl))))),?_}
 ac_rfl;erw [mC,mB];show iu hp T.c12.cl T.n16 Oq ?_;rw [gY Os,tZ];let s1:=s0.updM (o:=.ins t.C12 dx [("units",V.ref b)]) hp0;let e1:upd H p (.ins t.C12 dx [("units",V.ref b)]) p=some (.ins t.C12 dx [("units",V.ref b)]):=ae;generalize upd H p (.ins t.C12 dx [("units",V.ref b)])=H1 at s1 e1 ⊢;show later ?_;erw [mC,mB];show {{_,s1.seq hS},λacc hacc bk=>?_};show cL (xs:=xs) (λi ys H'=>Same H1 H'/\H' acc=some (.lst ys)/\ys=(ds.take i).map sV) {Ng hacc,ae,Oq} (λi ys H' _ h=>(s1.trans h.1).seq hS) ?_ ?_
 ·rintro i x ys H' os hx ho ⟨sm,e2,rfl⟩;obtain ⟨d,hd,fd,qx,rfl,hqx⟩:=Nu (hds.ts (s1.trans sm).ts) hx;obtain ⟨hi,ei⟩:=zq7.mp hd
  match os,ho with
  | [o],_=>rwa [mC];show {{[some (.ref qx)],rfl,rfl},d,hqx,fd,e2,by rw [zq3,dz,bB];omega,sm.updM hacc,ae,?_};rw [dH hi,ei,dN];rfl
 ·rintro ys H2 ⟨s2,e2,rfl⟩;rw [lx,eA] at e2;let fa:=s1.free hacc;show iu (s2 _ _ e1) T.c12.cl T.n17 Oq ?_;rw [gY Om];let npa:acc≠p:=(au e1 hacc).symm;let s3:=(s1.trans s2).updM (o:=.ins t.C12 dx ([(("units":Str),V.ref b)]++[(("sorts":Str),V.ref acc)])) hp0;let e3:upd H2 p (.ins t.C12 dx ([(("units":Str),V.ref b)]++[(("sorts":Str),V.ref acc)])) p=some (.ins t.C12 dx ([(("units":Str),V.ref b)]++[(("sorts":Str),V.ref acc)])):=ae;let g3:upd H2 p (.ins t.C12 dx ([(("units":Str),V.ref b)]++[(("sorts":Str),V.ref acc)])) acc=some (.lst (ds.map sV)):=by rw [ak npa];show e2
  generalize upd H2 p (.ins t.C12 dx ([(("units":Str),V.ref b)]++[(("sorts":Str),V.ref acc)]))=H3 at s3 e3 g3 ⊢;show later ?_;erw [mB];show {xs,.inl (s3.seq hS),Oo,Oo,λac2 hac2 bk2=>?_};rw [eh,lx];show iL (λk ys H'=>Same H3 H'/\∃qs:N2,ys=qs.map V.ref/\H' ac2=some (.lst ys)/\qs.length=k/\∀(j:Nat)q,qs[j]?=some q->q≠ac2/\H' q=some (.lst ((List.range j).map λi=>FB.pW (bc ds i j)))) {Ng hac2,[],rfl,ae,rfl,λj q h=>by simp at h} ?_ ?_
  ·rintro k ys H' os hk ho ⟨sm,qs,rfl,e4,lq,hqs⟩;rw [show (0:Int)+(k:Int)=(k:Int) by omega]
   match os,ho with
   | [o],_=>
    rwa [mB];show {{[some (.int k)],rfl,rfl},Oo,Oo,λac3 hac3 bk3=>?_};rw [eh];show lu (λ_=>true) (λj=>FB.pW (bc ds j k)) (by rw [bB];omega) hac3 (λj hj H4 Q' s4 h=>h H4 (Nq _)) (λj hj H4 Q' s4 _ h=>?_) λH4 s4 e5=>?_
    ·rwa [mB];let s5:=(s3.trans sm).trans s4;show {xs,ds,j,k,rfl,rfl,s5.seq hS,hds.ts s5.ts,hj,Oo,h}
    ·rw [List.filter_eq_self.mpr (λ_ _=>rfl)] at e5;show {s4 _ _ e4,by rw [zq3,bB];omega,(sm.trans s4).updM hac2,qs++[ac3],by rw [dN];rfl,ae,by rw [bW,dc];omega,λj q hj=>?_};let n3:ac3≠ac2:=(au e4 hac3).symm
     by_cases hlt:j<qs.length
     ·rw [vm hlt] at hj;obtain ⟨z1,z2⟩:=hqs j q hj;show {z1,by rw [ak z1];show s4 _ _ z2}
     ·let hjl:=(zq7.mp hj).1;rw [bW,dc] at hjl;obtain rfl:j=qs.length:=by omega
      rw [tV (zq4 _),xO] at hj
      cases hj
      show {n3,?_};rw [ak n3,lq];show e5
  ·rintro ys H4 ⟨s4,qs,rfl,e4,lq,hqs⟩;show iu (s4 _ _ e3) T.c12.cl T.n18 Oq ?_;rw [gY Om];let nac:ac2≠p:=(au e3 hac2).symm;let s5:=(s3.trans s4).updM (o:=.ins t.C12 dx ([(("units":Str),V.ref b)]++[(("sorts":Str),V.ref acc)]++[(("gaps":Str),V.ref ac2)])) hp0;show q _ s5 {{dx,b,acc,ac2,qs,ae,s5.seqT hU,?_,?_,lq,λk qq hk=>?_},h8,h3,hpos}
   ·rw [ak npa];show s4 _ _ g3
   ·rw [ak nac];show e4
   ·obtain ⟨z1,z2⟩:=hqs k qq hk;rw [ak (aO z2 (s4 _ _ e3) (by intro z;cases z))];show z2
variable {H H':Hp}
def LSt(H H':Hp):Prop:=∀b xs,H b=some (.lst xs)->H' b=some (.lst xs)
def LSt.of(s:Same H H'):LSt H H':=λb xs e=>s _ _ e
def NK:=@LSt.of
def LSt.trans{H1 H2:Hp}(a:LSt H H1)(b:LSt H1 H2):LSt H H2:=λc xs e=>b _ _ (a _ _ e)
def LSt.upd{l:Addr}{o u:HO}(e:H l=some u)(hn:∀xs,u≠.lst xs):LSt H (upd H l o):=λb xs eb=>by rw [ak (aO eb e (λz=>hn xs z.symm))];show eb
def LLN.lst{c:Addr}{bts:List be}(s:LSt H H')(h:LLN H c bts):LLN H' c bts:=
 let ⟨ps,e,r⟩:=h;{ps,s _ _ e,Nx r λ_ _ z=>s _ _ z}
def km(ps:be):List Key:=ps.map λp:Nat=>(Sum.inl (p:Int):Key)
def wm{ps:be}:(km ps).map kV=nl ps:=by unfold km nl;rw [gm];rfl
def Ar:∀{a b:be},km a=km b->a=b
 | [],[],_=>rfl
 | [],_::_,h=>by cases h
 |_::_,[],h=>by cases h
 |x::a,y::b,h=>by unfold km at h;rw [cH,cH,List.cons.injEq] at h;let e:(x:Int)=(y:Int):=Sum.inl.inj h.1;rw [Ar (a:=a) (b:=b) h.2,show x=y by omega]
def WsV(H:Hp)(kvs:List (List Key×V))(ws:List (be×List be)):Prop:=Paired (λ(kv:List Key×V) (w:be×List be)=>kv.1=km w.1/\∃c,kv.2=.ref c/\LLN H c w.2) kvs ws
def WsV.lst{kvs:List (List Key×V)}{ws:List (be×List be)}(s:LSt H H')(h:WsV H kvs ws):WsV H' kvs ws:=Nx h λ_ _ ⟨z1,c,z2,z3⟩=>{z1,c,z2,z3.lst s}
def WsV.val{kvs:List (List Key×V)}{ws:List (be×List be)}(h:WsV H kvs ws)(k:be):(k∉ws.map (·.1)/\cn kvs (km k)=none)\/∃w∈ws,w.1=k/\∃c,cn kvs (km k)=some (.ref c)/\LLN H c w.2:=by
 unfold WsV at h
 induction h with
 |nil=>show .inl ⟨Oq,rfl⟩
 | @cons kv w kvs ws hd tl ih=>
  obtain ⟨e1,c,e2,hl⟩:=hd
  by_cases e:w.1=k
  ·show .inr {w,Oq,e,c,?_,hl};rw [dU (by rw [e1,e]),e2]
  ·let ne:¬kv.1=km k:=λz=>e (Ar (e1.symm.trans z));rcases ih with ⟨h1,h2⟩ | ⟨w',hw',h1,c',h2,h3⟩
   ·show .inl {?_,by rw [dw ne];show h2};rw [cH,zq9];show λz=>z.elim (λz=>e z.symm) h1
   ·show .inr {w',zq8 _ hw',h1,c',by rw [dw ne];show h2,h3}
def WsV.put{kvs:List (List Key×V)}{ws:List (be×List be)}(h:WsV H kvs ws){k:be}{c:Addr}{bss:List be}(hc:LLN H c bss):WsV H (kvs++[(km k,.ref c)]) (ws++[(k,bss)]):=Paired.snoc h ⟨rfl,c,rfl,hc⟩
structure RoundH(H1 H:Hp)(wa lo:Addr)(o:Obj)(kvs:List (List Key×V))(ws acc:List (be×List be)):Prop where
 same:Same H1 H
 fr:H1 lo=none
 old:H wa=some (.frz o (.dT kvs))
 wsv:WsV H kvs ws
 now:∃kv2,H lo=some (.dT kv2)/\WsV H kv2 acc
def RoundH.mv{H1:Hp}{wa lo:Addr}{o:Obj}{kvs:List (List Key×V)}{ws acc:List (be×List be)}(h:RoundH H1 H wa lo o kvs ws acc)(s:Same H H'):RoundH H1 H' wa lo o kvs ws acc:=
 {h.same.trans s,h.fr,s _ _ h.old,h.wsv.lst (NK s),let ⟨kv2,e,r⟩:=h.now;{kv2,s _ _ e,r.lst (NK s)}}
def RoundH.put{H1 H:Hp}{wa lo:Addr}{o:Obj}{kvs kv2:List (List Key×V)}{ws acc:List (be×List be)}{k:be}{c:Addr}{bss:List be}(h:RoundH H1 H wa lo o kvs ws acc)(e:H lo=some (.dT kv2))(r:WsV H kv2 acc)(hk:k∉acc.map (·.1))(hc:LLN H c bss):
  RoundH H1 (upd H lo (.dT (kv2++[(km k,.ref c)]))) wa lo o kvs ws (GD.je acc k bss):=by
 let ls:LSt H (upd H lo (.dT (kv2++[(km k,.ref c)]))):=LSt.upd e (by intro xs z;cases z);show {h.same.updM h.fr,h.fr,?_,h.wsv.lst ls,kv2++[(km k,.ref c)],ae,?_}
 ·rw [ak (aO h.old e (by intro z;cases z))];show h.old
 ·unfold GD.je;rw [zq0 hk];show (r.put hc).lst ls
def sP(K:N5):Sp:=λvs H Q _=>∃(a b:Addr)(ds:N9)(us:N3),vs=[.ref a,.ref b]/\oR K H a b ds us/\∀c r bss H',Same H H'->LLN H' c bss->(List.range ds.length,bss)∈GD.cJ (bc ds) (soN ds) (uN us) ds.length r->(∀k,k<r->List.range ds.length∉(GD.cJ (bc ds) (soN ds) (uN us) ds.length k).map (·.1))->Q (.ref c) H'
def Bu{ty td:TE}{σ:L2.St}{H:Hp}{Q:VK}:xr ty td σ H Q=ty σ H λy H1=>td σ H1 λx H2=>∃a o,x=.ref a/\DGet H2 a y o/\Q (.bl (! o.isSome)) H2:=rfl
def AV(T:Txt K mg t)(hw:t.pr=w.params):FnOk P w K mg base CX0 14 t.f_45 t.e_45 ["deeds","units"] (sP K):=by
 let G_46:=AW (P:=P) (base:=base) T hw;show T.d_45.F.ok sc_45 ∅ ?_;rintro cdv A outer s H vs Q E hr ⟨a,b,ds,us,rfl,hI,q⟩;let hu:=ii hr;show {_,(XSs.h (af (aw (i:=2) sc_45.nd rfl ll (jR T.c12 T.d_46 G_46 hr.m #[!0,!1] gl)) (af (aw (i:=3) sc_45.nd rfl ll (vd rfl T.z17 T.z11 #[az aC gl T.z15 Nm #[!0]] gl gl)) (af (aw (i:=4) sc_45.nd rfl ll (va hu (aK ac) (aR ac))) (af (oN PassesOwn.never (F9 (v8 hu (!3) (!4))) (af (aw (i:=5) sc_45.nd rfl ll zo) (af (bv PassesOwn.never rfl (vf (!4)) (cy rfl (aQ (ay (i:=6) sc_45.nd rfl ll) (aQ (ay (i:=7) sc_45.nd rfl ll) bV))) (aj (bv PassesOwn.never rfl (aX (am T.c12.cl T.d_47 (E6 T) hr.m (!2) #[!6])) (ay (i:=8) sc_45.nd rfl ll) (aj (aT (bH PySem.F.plainAttrs_dict PySem.F.slot_dict_setdefault PySem.F.type_dict_setdefault (n9 hu) (!5) #[c6 mX gl T.z17 boot_tuple #[az qS gl T.z23 boot_sorted #[ax eM (c6 cc gl T.z19 boot_list #[!6]) (!8)]],ax eM (!7) (aR #[!8])])))))) (aj (aw (i:=4) sc_45.nd rfl ll (!5)))))) (aj (ao (fR hu (!4) (!3) (λ_ _=>rfl))))))))),?_}
 ac_rfl;erw [EM,uO];intro ly dx hly hdx hne;show {ly,a,b,rfl,H,dx,ds,us,(Ng hdx).trans (Ng (by rw [ak hne.symm];show hly)),hly,ae,hI,λH1 s1 L1=>{rfl,?_}};obtain ⟨xs,hS,hds,h8,hU,h3,hpos⟩:=hI;let lx:=hds.length;show later ?_;erw [];show {xs,.inl (s1.seq hS),ds.length,by rw [lx],Oo,λev hev=>?_};let s2:=s1.updN (o:=.tup ((List.range ds.length).map λi:Nat=>V.int i)) hev;let L2:=L1.same (Ng (o:=.tup ((List.range ds.length).map λi:Nat=>V.int i)) hev);let e2:upd H1 ev (.tup ((List.range ds.length).map λi:Nat=>V.int i)) ev=some (.tup (nl (List.range ds.length))):=ae;generalize upd H1 ev (.tup ((List.range ds.length).map λi:Nat=>V.int i))=H2 at s2 L2 e2 ⊢;show later ?_;erw [];intro wa hwa tp htp li hli;let eW:=((Ng (o:=.tup []) htp).trans (Ng (o:=.lst []) hli)) wa _ ae;show {eW,tp,[],rfl,Ng hli _ _ ae,?_};let s3:Same H2 (upd (upd (upd (upd H2 wa (.dT [])) tp (.tup [])) li (.lst [])) wa (.dT [([],.ref li)])):=((Ng hwa).trans ((Ng htp).trans (Ng hli))).updM hwa;let e3:upd (upd (upd (upd H2 wa (.dT [])) tp (.tup [])) li (.lst [])) wa (.dT [([],.ref li)]) wa=some (.dT [([],.ref li)]):=ae;let w3:WsV (upd (upd (upd (upd H2 wa (.dT [])) tp (.tup [])) li (.lst [])) wa (.dT [([],.ref li)])) [([],.ref li)] (GD.cJ (bc ds) (soN ds) (uN us) ds.length 0):=
  .cons {rfl,li,rfl,[],by rw [ak (au (Ng htp _ _ ae) hli).symm];show ae,.nil} .nil
 generalize upd (upd (upd (upd H2 wa (.dT [])) tp (.tup [])) li (.lst [])) wa (.dT [([],.ref li)])=H3 at s3 e3 w3 ⊢;show later ?_;erw [];let hpos2:=L2.pos;obtain ⟨n,hn⟩:∃n,n=ds.length:={_,rfl}
 rw [<- hn] at e2 w3 q h8;obtain ⟨dx2,ub,sb,gb,qs,hob,_⟩:=L2.ob;show ⟨λm σ H'=>∃(r:Nat)(wa:Addr)(kvs:List (List Key×V)) (o5 o6 o7 o8:N8),m=n-r/\σ=[some (.ref a),some (.ref b),some (.ref ly),some (.ref ev),some (.ref wa),o5,o6,o7,o8]/\Same H2 H'/\H2 wa=none/\H' wa=some (.dT kvs)/\WsV H' kvs (GD.cJ (bc ds) (soN ds) (uN us) n r)/\∀k,k<r->List.range n∉(GD.cJ (bc ds) (soN ds) (uN us) n k).map (·.1),
  {_,0,wa,_,none,none,none,none,rfl,rfl,s3,hwa,e3,w3,λk hk=>absurd hk Oo},?_⟩
 rintro m σ H4 ⟨r,wb,kvs,o5,o6,o7,o8,rfl,rfl,s4,hwb,e4,w4,hno⟩;erw [Bu];show {wb,_,rfl,DGet.t (k:=km (List.range n)) e4 (by rw [wm];show s4 _ _ e2),?_};rcases w4.val (List.range n) with ⟨hk,hv⟩ | ⟨w',hw',hk',c,hv,hl⟩
 ·rw [hv,zq1 (show (!(none:N8).isSome)=true from rfl)];let hlt:r<n:=GD.F4 hpos2 λk hk2=>by
   by_cases e:k=r
   ·rw [e];show hk
   ·show hno k Oo
  show {λσ H'=>∃(wa:Addr)(kvs:List (List Key×V)) (o5 o6 o7 o8:N8),σ=[some (.ref a),some (.ref b),some (.ref ly),some (.ref ev),some (.ref wa),o5,o6,o7,o8]/\Same H2 H'/\H2 wa=none/\H' wa=some (.dT kvs)/\WsV H' kvs (GD.cJ (bc ds) (soN ds) (uN us) n (r+1)),?_,?_}
  ·rintro σ' H' ⟨wc,kv2,p5,p6,p7,p8,rfl,z1,z2,z3,z4⟩;show {n-(r+1),Oo,r+1,wc,kv2,p5,p6,p7,p8,rfl,rfl,z1,z2,z3,z4,λk hk2=>?_}
   by_cases e:k=r
   ·rw [e];show hk
   ·show hno k Oo
  intro lo hlo;show later ?_;erw [];let sl:=Ng (o:=.dT []) hlo;show {wb,kvs,rfl,sl _ _ e4,λo=>?_};let nlw:lo≠wb:=(au e4 hlo).symm;let R0:RoundH H2 (upd (upd H4 lo (.dT [])) wb (.frz o (.dT kvs))) wb lo o kvs (GD.cJ (bc ds) (soN ds) (uN us) n r) []:=
   {(s4.trans sl).updM hwb,s4.free hlo,ae,w4.lst ((NK sl).trans (LSt.upd (sl _ _ e4) (by intro xs z;cases z))),[],by rw [ak nlw];show ae,.nil}
  generalize upd (upd H4 lo (.dT [])) wb (.frz o (.dT kvs))=H6 at R0 ⊢;let lw:=w4.length;let wok:=GD.gh (G:=bc ds) (so:=soN ds) (U:=uN us) (n:=n) r;let hstep:GD.cJ (bc ds) (soN ds) (uN us) n (r+1)=(GD.cJ (bc ds) (soN ds) (uN us) n r).foldl (λacc w=>GD.c7 n acc w (GD.cz (bc ds) (soN ds) (uN us) n w.1)) []:=rfl;rw [hstep];generalize GD.cJ (bc ds) (soN ds) (uN us) n r=ws at lw wok R0 ⊢;show Af (λi σ H'=>RoundH H2 H' wb lo o kvs ws ((ws.take i).foldl (λacc w=>GD.c7 n acc w (GD.cz (bc ds) (soN ds) (uN us) n w.1)) [])/\∃o6 o7 o8,σ=[some (.ref a),some (.ref b),some (.ref ly),some (.ref ev),some (.ref wb),some (.ref lo),o6,o7,o8]) {R0,_,_,_,rfl} (λi σ H' _ h=>h.1.old) ?_ ?_
  ·rintro i k v bb σ H7 p hki hb hp ⟨R,o6,o7,o8,rfl⟩;obtain ⟨w,hwi,ek,c,ev2,hlc⟩:=Nu R.wsv hki;subst ev2;subst ek;obtain ⟨hi,ei⟩:=zq7.mp hwi;erw [uO];show {_,Nl ae,rfl,?_};let sp:=Ng (o:=.tup [.ref bb,.ref c]) hp;let R8:=R.mv sp;let hb8:=sp _ _ hb;let hlc8:=hlc.same sp;generalize upd H7 p (.tup [.ref bb,.ref c])=H8 at R8 hb8 hlc8 ⊢;rw [wm] at hb8;erw [uO];show aE (R8.same _ _ hob) rfl {ds,us,w.1,L2.same R8.same,Nl hb8,λc2 H9 s9 hl9=>?_};rw [<- hn] at hl9;obtain ⟨ps,hc2,hps⟩:=hl9;let lps:=hps.length;let R9:=R8.mv s9;let hl:=wok.lay w (bR hwi);obtain ⟨acc,hacc⟩:∃acc,acc=(ws.take i).foldl (λacc w=>GD.c7 n acc w (GD.cz (bc ds) (soN ds) (uN us) n w.1)) []:={_,rfl}
   let eacc:(ws.take (i+1)).foldl (λacc w=>GD.c7 n acc w (GD.cz (bc ds) (soN ds) (uN us) n w.1)) []=GD.c7 n acc w (GD.cz (bc ds) (soN ds) (uN us) n w.1):=by rw [dH hi,ei,jU,hacc];rfl
   let aok:GD.WOk (bc ds) (soN ds) (uN us) n (r+1) acc:=by rw [hacc];show GD.WOk.step _ _ (λx hx=>wok.lay x (i9 hx)) {λx hx=>(by cases hx),Oq}
   rw [eacc];rw [<- hacc] at R9;let hfine:∀b∈GD.cz (bc ds) (soN ds) (uN us) n w.1,GD.Fine (bc ds) (soN ds) (uN us) w.1 (GD.cU n w.1) b/\b∈GD.cz (bc ds) (soN ds) (uN us) n w.1:=λb hb=>{GD.jw hpos2 hb,hb}
   generalize hbs:GD.cz (bc ds) (soN ds) (uN us) n w.1=bs at hps hfine lps ⊢;show {c2,rfl,{_,Nh hc2},?_};show eC (xs:=ps.map V.ref) (λj σ H'=>RoundH H2 H' wb lo o kvs ws (GD.c7 n acc w (bs.take j))/\LSt H9 H'/\H' bb=some (.tup (nl w.1))/\∃o8,σ=[some (.ref a),some (.ref b),some (.ref ly),some (.ref ev),some (.ref wb),some (.ref lo),some (.ref bb),some (.ref c),o8]) {by simpa [GD.c7] using R9,λ_ _ e=>e,s9 _ _ hb8,_,rfl} (λj σ H' _ h=>Nh (h.2.1 _ _ hc2)) ?_ ?_
   ·rintro j x σ H10 hx ⟨R10,ls,hb10,o9,rfl⟩;rw [bP] at hx;obtain ⟨bp,hbp,rfl⟩:=zq30.mp hx;obtain ⟨bt,hbt,hpb⟩:=Nu hps hbp;obtain ⟨hj,ej⟩:=zq7.mp hbt;obtain ⟨hf,hff⟩:=hfine bt (bR hbt);rwa [];obtain ⟨kv2,elo,wlo⟩:=R10.now;let hcan:=hl.1.can;let hwl:w.1.length<=8:=by let this:=hcan.len;omega
    let hbl:bt.length<=8:=by let this:=hf.sub.length_le;let this:=rS (n:=n) (dn:=w.1);omega
    let aok':GD.WOk (bc ds) (soN ds) (uN us) n (r+1) (GD.c7 n acc w (bs.take j)):=GD.WOk.add hl.1 hl.2 _ _ (λb hb=>by rw [hbs];show (hfine b (i9 hb)).2) aok;let hkl:kv2.length<=256:=by rw [wlo.length];show bF aok'.len (bF (Di On h8) On)
    obtain ⟨cs,hcc,hcs⟩:=(hlc8.same s9).lst ls;let lcs:=hcs.length;let lr:=hl.2;show {.inr (.inr (.inl {rfl,.inr ⟨kv2,elo⟩})),nl w.1,.inr (Nl hb10),λl1 hl1=>{nl w.1,nl bt,ae,Ng hl1 _ _ (ls _ _ hpb),by rw [g8,g8,bB];omega,λl2 hl2=>?_}};let Sb:=(Ng (o:=.lst (nl w.1)) hl1).trans (Ng (o:=.lst (nl w.1++nl bt)) hl2);let eb:upd (upd H10 l1 (.lst (nl w.1))) l2 (.lst (nl w.1++nl bt)) l2=some (.lst (((w.1++bt).map λp:Nat=>(p:Int)).map V.int)):=by rw [ae,gm,dN];rfl
    generalize upd (upd H10 l1 (.lst (nl w.1))) l2 (.lst (nl w.1++nl bt))=Hb at Sb eb ⊢;show {_,Nh eb,by rw [zq3,bW];omega,λl3 ns' hl3 hperm hsort=>?_};let ens:ns'=(GD.dP n w.1 bt).map λp:Nat=>(p:Int):=List.Perm.eq_of_pairwise (λx y _ _ h1 h2=>Int.le_antisymm h1 h2) hsort (List.pairwise_map.mpr ((GD.ph (n:=n) (dn:=w.1) (b:=bt)).sorted.imp λh=>Oo)) (hperm.trans ((GD.lX hcan hf.sub).map _));subst ens;let Sc:=Sb.trans (Ng (o:=.lst (((GD.dP n w.1 bt).map λp:Nat=>(p:Int)).map V.int)) hl3);let ec:upd Hb l3 (.lst (((GD.dP n w.1 bt).map λp:Nat=>(p:Int)).map V.int)) l3=some (.lst (nl (GD.dP n w.1 bt))):=by rw [ae,gm];rfl
    generalize upd Hb l3 (.lst (((GD.dP n w.1 bt).map λp:Nat=>(p:Int)).map V.int))=Hc at Sc ec ⊢;show {_,.inl {Nh ec,λl4 hl4 l5 hl5=>{cs.map V.ref,[.ref bp],((Sc.trans (Ng hl4)).trans (Ng hl5)) _ _ hcc,ae,by rw [zq3,dc,bB];omega,λl6 hl6=>?_}}};let Se:=(Ng (o:=.lst [V.ref bp]) hl5).trans (Ng (o:=.lst (cs.map V.ref++[.ref bp])) hl6);let Sf:=(Sc.trans (Ng (o:=.tup (nl (GD.dP n w.1 bt))) hl4)).trans Se;let e4':upd (upd (upd Hc l4 (.tup (nl (GD.dP n w.1 bt)))) l5 (.lst [V.ref bp])) l6 (.lst (cs.map V.ref++[.ref bp])) l4=some (.tup (nl (GD.dP n w.1 bt))):=Se _ _ ae;let e6:LLN (upd (upd (upd Hc l4 (.tup (nl (GD.dP n w.1 bt)))) l5 (.lst [V.ref bp])) l6 (.lst (cs.map V.ref++[.ref bp]))) l6 (w.2++[bt]):={cs++[bp],by rw [ae,dN];rfl,Paired.snoc (Nx hcs λ_ _ z=>Sf _ _ z) (Sf _ _ (ls _ _ hpb))}
    generalize upd (upd (upd Hc l4 (.tup (nl (GD.dP n w.1 bt)))) l5 (.lst [V.ref bp])) l6 (.lst (cs.map V.ref++[.ref bp]))=Hf at Sf e4' e6 ⊢;let eadd:GD.c7 n acc w (bs.take (j+1))=GD.je (GD.c7 n acc w (bs.take j)) (GD.dP n w.1 bt) (w.2++[bt]):=by rw [dH hj,ej];unfold GD.c7;rw [jU];rfl
    rw [eadd];let R11:=R10.mv Sf;let wlo':=wlo.lst (NK Sf);show {kv2,km (GD.dP n w.1 bt),Sf _ _ elo,by rw [wm];show e4',by rw [bB];omega,λy hy=>?_,λhy=>?_}
    ·rcases wlo'.val (GD.dP n w.1 bt) with ⟨_,hv2⟩ | ⟨w2,hw2,hk2,_⟩
     ·rw [hy] at hv2;cases hv2
     ·unfold GD.je;rw [zq1 (zq32.mpr ⟨w2,hw2,hk2⟩)];show {R11,ls.trans (NK Sf),Sf _ _ hb10,_,rfl}
    ·rcases wlo'.val (GD.dP n w.1 bt) with ⟨hk2,_⟩ | ⟨_,_,_,_,hv2,_⟩
     ·show {R11.put (Sf _ _ elo) wlo' hk2 e6,(ls.trans (NK Sf)).trans (LSt.upd (Sf _ _ elo) (by intro xs z;cases z)),?_,_,rfl};rw [ak (aO (Sf _ _ hb10) (Sf _ _ elo) (by intro z;cases z))];show Sf _ _ hb10
     ·rw [hy] at hv2;cases hv2
   ·rintro σ H10 ⟨R10,ls,hb10,o9,rfl⟩;rw [zq3,lps,eA] at R10;show {R10,_,_,_,rfl}
  ·rintro σ H7 ⟨R,o6,o7,o8,rfl⟩;rw [lw,eA] at R;show later ?_;rwa [];obtain ⟨kv2,e7,w7⟩:=R.now;show later ?_;rwa [];show {lo,kv2,_,_,_,_,rfl,R.same,R.fr,e7,w7}
 ·rw [hv];rw [zq0 Oq];show later ?_;rwa [];show {wb,_,rfl,(by let z:=DGet.t (k:=km (List.range n)) e4 (by rw [wm];show s4 _ _ e2);rw [hv] at z;show z),?_};show q c r w'.2 H4 (s2.trans s4) hl (by rw [<- hk'];show hw') hno
def qC{n:Nat}{w x:be×List be}:∀(bs:List be) (acc:List (be×List be)),x∈GD.c7 n acc w bs->x∈acc\/∃b∈bs,x=(GD.dP n w.1 b,w.2++[b])
 | [],_,h=>.inl h
 |b::bs,acc,h=>by
  rcases qC bs _ h with h | ⟨c,hc,e⟩
  ·rcases GD.jK h with h | h
   ·show .inl h
   ·show .inr ⟨b,Oq,h⟩
  ·show .inr {c,zq8 _ hc,e}
def tj{n:Nat}{G:Nat->Nat->Option Int}{so:Nat->Nat}{U:Nat->Int}{x:be×List be}:∀(ws acc:List (be×List be)),x∈ws.foldl (λacc w=>GD.c7 n acc w (GD.cz G so U n w.1)) acc->x∈acc\/∃w∈ws,∃b∈GD.cz G so U n w.1,x=(GD.dP n w.1 b,w.2++[b])
 | [],_,h=>.inl h
 |w::ws,acc,h=>by
  rcases tj ws _ h with h | ⟨v,hv,e⟩
  ·rcases qC _ _ h with h | ⟨b,hb,e⟩
   ·show .inl h
   ·show .inr ⟨w,Oq,b,hb,e⟩
  ·show .inr {v,zq8 _ hv,e}
structure vq(G:Nat->Nat->Option Int)(so:Nat->Nat)(U:Nat->Int)(bss:List be)(dn:be):Prop where
 ne:∀b∈bss,b≠[]
 perm:bss.flatten.Perm dn
def oM{n:Nat}{G:Nat->Nat->Option Int}{so:Nat->Nat}{U:Nat->Int}(hU:∀s,s<3->0<U s):∀r,(∀k,k<r->List.range n∉(GD.cJ G so U n k).map (·.1))->∀w∈GD.cJ G so U n r,vq G so U w.2 w.1
 |0,_,w,hw=>by
  rw [GD.cJ,zq15] at hw;subst hw;show {λb h=>(by cases h),.refl _}
 |r+1,hno,w,hw=>by
  rcases tj _ _ hw with h | ⟨v,hv,b,hb,rfl⟩
  ·cases h
  let ih:=oM hU r (λk hk=>hno k Oo) v hv;let hcan:=((GD.gh r).lay v hv).1.can;let hne:v.1≠List.range n:=λe=>hno r Oo (zq32.mpr ⟨v,hv,e⟩);show {λc hc=>?_,?_}
  ·rcases zq27.mp hc with hc | hc
   ·show ih.ne c hc
   ·rw [zq15.mp hc];show GD.vZ hU hb (hcan.miss hne)
  ·rw [Dj];simp only [List.flatten_cons,List.flatten_nil,List.append_nil];show (ih.perm.append_right b).trans (GD.lX hcan (GD.jw hU hb).sub)
variable {i:Nat}
def y7(ds:N9)(p:Nat):Na:=ds.getD p (.tell (.word 0))
def bz(ds:N9)(bss:List be):List N9:=bss.map λb=>b.map (y7 ds)
def wrB(ds:N9)(n:Str):Bool:=ds.any λd=>decide (wrV d=.str n)
def gE(bs:List N9):N9:=bs.getLastD []
def ot(bs:List N9):FZ.Ed->Bool
 | .choose n _ _=>wrB (gE bs) n
 |_=>false
def fv(b:Nc)(bss:List be):List N9:=if (bz b.ds bss).isEmpty || ot (bz b.ds bss) b.ed then bz b.ds bss++[[]] else bz b.ds bss
def Jf(fs:be):FZ.Ed->FZ.Ed
 | .stop=>.stop
 | .go i=>.go (fs.getD i 0)
 | .choose n i j=>.choose n (fs.getD i 0) (fs.getD j 0)
def gz(l:List (List N9)):Nat:=(l.map List.length).sum
def bY(bbs:List (List N9)):be:=(List.range bbs.length).map λi=>gz (bbs.take i)
def ij(m:Nat)(bs:List N9)(ed:FZ.Ed):Nb:=(bs.dropLast.mapIdx λj d=>{d,.go (m+j+1)})++[{gE bs,ed}]
def mV(fs:be)(acc:Nb)(p:Nc×List N9):Nb:=acc++ij acc.length p.2 (Jf fs p.1.ed)
def nz(B:Nb)(bbs:List (List N9)):Nb:=(B.zip bbs).foldl (mV (bY bbs)) []
def gn(us:N3)(b:Nc)(bs:List N9):Prop:=∃bss,vq (bc b.ds) (soN b.ds) (uN us) bss (List.range b.ds.length)/\bs=fv b bss
def nQ{b:Nc}{bss:List be}:fv b bss≠[]:=by
 unfold fv
 split
 ·simp
 ·next h=>intro z;rw [z] at h;show h rfl
def DX{bs:List N9}(h:bs≠[]):bs=bs.dropLast++[gE bs]:=by unfold gE;rw [Dk,List.getLast?_eq_some_getLast h,Option.getD_some];show (Gc h).symm
def yS{m:Nat}{bs:List N9}{ed:FZ.Ed}(h:bs≠[]):(ij m bs ed).length=bs.length:=by unfold ij;rw [bW,Dl,qt,dc];let this:=zq93.mpr h;omega
def BS{m:Nat}{bs:List N9}{ed:FZ.Ed}(h:bs≠[]):∀r∈ij m bs ed,r.ds∈bs:=λr hr=>by
 unfold ij at hr;rw [DX h];rcases zq27.mp hr with hr | hr
 ·obtain ⟨j,hj,e⟩:=List.mem_mapIdx.mp hr;rw [<- e];show mS _ (kB _)
 ·rw [zq15.mp hr];show i7 _ (zq15.mpr rfl)
def sD{m:Nat}{bs:List N9}{ed:FZ.Ed}(h:bs≠[]):∀r∈ij m bs ed,r.ed=ed\/∃k,r.ed=.go k/\k<m+bs.length:=λr hr=>by
 unfold ij at hr;rcases zq27.mp hr with hr | hr
 ·obtain ⟨j,hj,e⟩:=List.mem_mapIdx.mp hr;rw [<- e];rw [qt] at hj;show .inr {_,rfl,Oo}
 ·rw [zq15.mp hr];show .inl rfl
def fP{bbs:List (List N9)}{bs:List N9}(h:bbs[i]?=some bs):gz (bbs.take (i+1))=gz (bbs.take i)+bs.length:=by obtain ⟨hi,e⟩:=zq7.mp h;unfold gz;rw [dH hi,e,dN,Dm];simp
def qf{bbs:List (List N9)}(i:Nat):gz (bbs.take i)<=gz bbs:=by
 unfold gz
 conv=>rhs;rw [<- kE i bbs,dN,Dm]
 show tY _ _
def oj{bbs:List (List N9)}(hne:∀bs∈bbs,bs≠[])(hi:i<bbs.length):(bY bbs).getD i 0=gz (bbs.take i)/\gz (bbs.take i)<gz bbs:=by
 show {?_,?_}
 ·unfold bY;rw [eK,bP,Dg hi];rfl
 ·let h1:=fP (bN hi);let h2:=qf (bbs:=bbs) (i+1);let h3:=zq93.mpr (hne _ (kB hi));omega
def kz(B:Nb)(bbs:List (List N9))(i:Nat):Nb:=((B.zip bbs).take i).foldl (mV (bY bbs)) []
def jO{B:Nb}{bbs:List (List N9)}{b:Nc}{bs:List N9}(hb:B[i]?=some b)(hs:bbs[i]?=some bs):kz B bbs (i+1)=mV (bY bbs) (kz B bbs i) (b,bs):=by
 let hz:(B.zip bbs)[i]?=some (b,bs):=by rw [zq69];show ⟨hb,hs⟩
 obtain ⟨hi,e⟩:=zq7.mp hz;unfold kz;rw [dH hi,e,jU];rfl
def mP{B:Nb}{bbs:List (List N9)}(hl:B.length=bbs.length):kz B bbs B.length=nz B bbs:=by unfold kz nz;rw [kC (by rw [jV];omega)]
def jl{B:Nb}{bbs:List (List N9)}(hl:B.length=bbs.length)(hne:∀bs∈bbs,bs≠[]):∀i,i<=B.length->(kz B bbs i).length=gz (bbs.take i)
 |0,_=>rfl
 |i+1,hi=>by let hb:B[i]?=some B[i]:=bN Oo;let hs:bbs[i]?=some bbs[i]:=bN Oo;rw [jO hb hs,fP hs,mV,bW,jl hl hne i Oo,yS (hne _ (kB _))]
def CD{ns:N0}{w:Int}{us:N3}{B:Nb}{bbs:List (List N9)}(hl:B.length=bbs.length)(hne:∀bs∈bbs,bs≠[])(hG:FZ.ki ns w B.length B)(hd:∀(i:Nat)b bs,B[i]?=some b->bbs[i]?=some bs->∀l∈bs,l.length<=8/\∀d∈l,d∈b.ds):
  ∀i,i<=B.length->FZ.ki ns w (gz bbs) (kz B bbs i)
 |0,_=>λr hr=>by cases hr
 |i+1,hi=>λr hr=>by
  let hb:B[i]?=some B[i]:=bN Oo;let hs:bbs[i]?=some bbs[i]:=bN Oo;let hn:=hne _ (bR hs);rw [jO hb hs,mV] at hr;rcases zq27.mp hr with hr | hr
  ·show CD (us:=us) hl hne hG hd i Oo r hr
  let hbG:=hG _ (bR hb);let h1:=hd i _ _ hb hs r.ds (BS hn r hr);let ht:∀k,k∈B[i].ed.tg->(bY bbs).getD k 0<gz bbs:=λk hk=>by let hz:=oj hne (i:=k) (by let this:=hbG.tg k hk;omega);rw [hz.1];show hz.2
  show {λd hd2=>hbG.gd d (h1.2 d hd2),h1.1,?_,?_}
  ·rcases sD hn r hr with e | ⟨k,e,hk⟩
   ·rw [e]
    cases he:B[i].ed with
    |stop=>intro z hz;cases hz
    |go k=>rw [he] at ht;intro z hz;rw [zq15.mp hz];show ht k (by simp [FZ.Ed.tg])
    |choose n k j=>
     rw [he] at ht;intro z hz;let hz':z∈[(bY bbs).getD k 0,(bY bbs).getD j 0]:=hz;rcases zq9.mp hz' with y | y
     ·rw [y];show ht k (by simp [FZ.Ed.tg])
     ·rw [zq15.mp y];show ht j (by simp [FZ.Ed.tg])
   ·rw [e];intro z hz;rw [zq15.mp hz];rw [jl hl hne i Oo] at hk;let h2:=fP hs;let h3:=qf (bbs:=bbs) (i+1);omega
  ·intro n k j e2;rcases sD hn r hr with e | ⟨k',e,_⟩
   ·rw [e] at e2
    cases he:B[i].ed with
    |stop=>rw [he] at e2;cases e2
    |go k=>rw [he] at e2;cases e2
    |choose n' k' j'=>rw [he] at e2;cases e2;show hbG.nm n k' j' he
   ·rw [e] at e2;cases e2
def jy{ds:N9}{us:N3}{bss:List be}(h:vq (bc ds) (soN ds) (uN us) bss (List.range ds.length)):∀b∈bss,b.length<=ds.length/\∀p∈b,p<ds.length:=λb hb=>by show {?_,λp hp=>zq43.mp (h.perm.mem_iff.mp (List.mem_flatten.mpr ⟨b,hb,hp⟩))};let z:=h.perm.length_eq;rw [fi] at z;let this:=(List.sublist_flatten_of_mem hb).length_le;omega
def fY{us:N3}{b:Nc}{bs:List N9}(h8:b.ds.length<=8)(h:gn us b bs):bs≠[]/\∀l∈bs,l.length<=8/\∀d∈l,d∈b.ds:=by
 obtain ⟨bss,hg,rfl⟩:=h;show {nQ,λl hl=>?_};let old:l∈bz b.ds bss->l.length<=8/\∀d∈l,d∈b.ds:=λhl=>by obtain ⟨c,hc,rfl⟩:=zq32.mp hl;obtain ⟨h2,h3⟩:=jy hg c hc;show {by rw [zq3];omega,λd hd=>?_};obtain ⟨p,hp,rfl⟩:=zq32.mp hd;unfold y7;rw [eK,bN (h3 p hp)];show kB _
 unfold fv at hl
 split at hl
 ·rcases zq27.mp hl with hl | hl
  ·show old hl
  ·rw [zq15.mp hl];show {cE _,λd hd=>by cases hd}
 ·show old hl
def zK(K:N5)(e f:Addr)(H:Hp)(Q:VK):Prop:=∃(ed:FZ.Ed)(fs:be),H e=some (.tup (fH ed))/\SqL K H f (nl fs)/\(∀i∈ed.tg,i<fs.length)/\∀e' H',Same H H'->H' e'=some (.tup (fH (Jf fs ed)))->Q (.ref e') H'
def C9(K:N5):Sp:=λvs H Q _=>∃e f:Addr,vs=[.ref e,.ref f]/\zK K e f H Q
def vI(K:N5)(a:Addr)(n:Str)(H:Hp)(Q:VK):Prop:=∃(xs:N7)(ds:N9),SqL K H a xs/\Paired (DeedV1 K H) xs ds/\ds.length<=1000/\∀H',Same H H'->Q (.bl (wrB ds n)) H'
def xo(K:N5):Sp:=λvs H Q _=>∃(a:Addr)(n:Str),vs=[.ref a,.str n]/\vI K a n H Q
section
variable {K:N5} {te:TE} {ci:be} {σ:L2.St} {acc:Addr} {Q:Hp->Prop} {H1:Hp} {a:Addr} {xs:N7}
def vL(fs:N7)(hz:xs.length<=sizeLine)(hlen:xs.length=fs.length)(hl:SqL K H1 a xs)(hacc:H1 acc=none)
  (hf:∀(i:Nat)x y,xs[i]?=some x->fs[i]?=some y->∀H Q',Same H1 H->(∀H',Same H H'->Q' y H')->te (aI [some x] ci σ) H Q')
  (q:∀H,Same H1 H->H acc=some (.lst fs)->Q H):c5 (Itl K a) (bI 1) ff te 1 ci σ acc Q (upd H1 acc (.lst [])):=by
 show cL (λi ys H=>ys=fs.take i/\Same H1 H/\H acc=some (.lst ys)) {Oq,Ng hacc,ae} (λi ys H _ h=>h.2.1.seq hl) ?_ ?_
 ·rintro i x ys H os hi ho ⟨rfl,sm,ha⟩;let hi':i<fs.length:=by let this:=(zq7.mp hi).1;omega
  let e:(aI os ci σ).set 1 (some x)=aI [some x] ci σ:=by
   match os,ho with
   | [o],_=>rfl
  change (∃os',os'.length=1/\(aI os ci σ).set 1 (some x)=aI os' ci σ)/\ff ((aI os ci σ).set 1 (some x)) H _;rw [e];show {{[some x],rfl,rfl},?_};unfold ff;dsimp only;rw [zq1 rfl];show hf i x fs[i] hi (bN hi') _ _ sm λH3 s3=>{s3 _ _ ha,by rw [dz];omega,(dH hi').symm,(sm.trans s3).updM hacc,ae}
 ·rintro ys H ⟨rfl,sm,ha⟩;rw [hlen,eA] at ha;show q H sm ha
end
def wY{e f:Addr}{H:Hp}{Q:VK}{E:XK}:C9 K [.ref e,.ref f] H Q E=zK K e f H Q:=∅
def BM{a:Addr}{n:Str}{H:Hp}{Q:VK}{E:XK}:xo K [.ref a,.str n] H Q E=vI K a n H Q:=∅
def pV{fs:be}{i:Nat}(h:i<fs.length):(nl fs)[i]?=some (V.int (fs.getD i 0)):=by unfold nl;rw [bP,eK,bN h];rfl
def GY(T:Txt K mg t):FnOk P w K mg base CX0 1 t.f_43 t.e_43 ["ending","places"] (C9 K):=by
 show T.d_43.F.ok LD ∅ ?_;rintro cdv A outer s H vs Q E hr ⟨e,f,rfl,ed,fs,he,hf,ht,q⟩;show {_,(XSs.h (af (aM (aA bi (aq aD (!0) ai) aG (aH _)) (aj (ao (aK #[aG,aq aP (!1) (aq aD (!0) ai)]))) aF) (af (aM (aA bi (aq aD (!0) ai) aG (aH _)) (aj (ao (aK #[aG,aq aD (!0) ai,aq aP (!1) (aq aD (!0) ai),aq aP (!1) (aq aD (!0) ai)]))) aF) (aj (ao (!0)))))),?_}
 ac_rfl;rwa []
 cases ed with
 |stop=>
  show {_,_,Nl he,rfl,rfl,_,rfl,?_};rw [zq0 Ol];show {_,_,Nl he,rfl,rfl,_,rfl,?_};rw [zq0 Ol];show q e H (Nq H) he
 |go i=>
  show {_,_,Nl he,rfl,rfl,_,rfl,?_};rw [zq1 Ol];show {_,_,Nl he,rfl,ixL hf (pV (ht i (by simp [FZ.Ed.tg]))) λp hp=>q p _ (Ng hp) ae}
 |choose n i j=>show {_,_,Nl he,rfl,rfl,_,rfl,?_};rw [zq0 Ol];show {_,_,Nl he,rfl,rfl,_,rfl,?_};rw [zq1 Ol];show {_,_,Nl he,rfl,_,_,Nl he,rfl,ixL hf (pV (ht i (by simp [FZ.Ed.tg]))) {_,_,Nl he,rfl,ixL hf (pV (ht j (by simp [FZ.Ed.tg]))) λp hp=>q p _ (Ng hp) ae}}
def Ef(T:Txt K mg t):FnOk P w K mg base CX0 2 t.f_53 t.e_53 ["deeds","name"] (xo K):=by
 show T.d_53.F.ok LG ∅ ?_;rintro cdv A outer s H vs Q E hr ⟨a,n,rfl,xs,ds,ha,hd,hl,q⟩;show {_,(XSs.h (aj (ao (az (qQ rfl) gl T.z24 boot_any #[(aU (tns:=["deed"]) (cns:=["name"]) (ci:=[1]) rfl (Np Om) (aX (!0)) (λ_=>(ay (i:=1) (show List.Nodup [(".0":Str),("deed":Str),("name":Str)] by decide +kernel) rfl ll (Or.inr Om))) (λ_=>bf) (λ_=>(bu bi (av T.d_5 (iz T) hr.m #[!1] gl) (yqv 2 vc) (aH _))))])))),?_}
 ac_rfl;rwa [fN];let lx:=hd.length;show {{_,ha},λacc hacc bk=>?_};show vL (ds.map λd=>V.bl (decide (wrV d=.str n))) (by rw [bB];omega) (by rw [zq3];show lx) ha hacc (λi x y hx hy H2 Q' s2 h=>?_) λH2 s2 e2=>?_
 ·obtain ⟨d,hd1,q0,rfl,hq0,hf⟩:=Nu hd hx;rw [bP,hd1] at hy
  cases hy
  rwa [fN];show {d,s2.seqT hq0,hf,?_,h H2 (Nq H2)}
  cases d<;>rfl
 ·show {ds.map λd=>decide (wrV d=.str n),Nh (by rw [gm];show e2),?_};rw [Df];show q H2 s2
def BtsV(K:N5)(N:Addr->Prop)(H:Hp)(c:Addr)(bs:List N9):Prop:=∃ps:N2,H c=some (.lst (ps.map V.ref))/\Paired (λp (l:N9)=>N p/\∃vs,H p=some (.lst vs)/\Paired (DeedV1 K H) vs l) ps bs
structure IS(K:N5)(H:Hp)(q u:Addr)(b:Nc)(us:N3):Prop where
 ex:∃a e vs,H q=some (.tup [.ref a,.ref e])/\H a=some (.lst vs)/\Paired (DeedV1 K H) vs b.ds/\H e=some (.tup (fH b.ed))
 h8:b.ds.length<=8
 ut:SqT K H u (us.map V.int)
 h3:us.length=3
 hp:∀x∈us,0<x/\x<=3
def qF(K:N5)(q u:Addr)(H:Hp)(Q:VK):Prop:=∃(b:Nc)(us:N3),IS K H q u b us/\∀c bs H',Same H H'->H c=none->gn us b bs->BtsV K (λp=>H p=none) H' c bs->Q (.ref c) H'
def sJ(K:N5):Sp:=λvs H Q _=>∃q u:Addr,vs=[.ref q,.ref u]/\qF K q u H Q
def wU{q u:Addr}{H:Hp}{Q:VK}{E:XK}:sJ K [.ref q,.ref u] H Q E=qF K q u H Q:=∅
def wX{a b:Addr}{H:Hp}{Q:VK}{E:XK}:sP K [.ref a,.ref b] H Q E=∃(ds:N9)(us:N3),oR K H a b ds us/\∀c r bss H',Same H H'->LLN H' c bss->(List.range ds.length,bss)∈GD.cJ (bc ds) (soN ds) (uN us) ds.length r->(∀k,k<r->List.range ds.length∉(GD.cJ (bc ds) (soN ds) (uN us) ds.length k).map (·.1))->Q (.ref c) H':=propext {by rintro ⟨_,_,ds,us,e,q⟩;cases e;show ⟨ds,us,q⟩,λ⟨ds,us,q⟩=>{_,_,ds,us,rfl,q}}
def CJ{us:N3}(h3:us.length=3)(hp:∀x∈us,0<x/\x<=3):∀s,s<3->0<uN us s:=λs hs=>by unfold uN;rw [eK,bN Oo];show (hp _ (kB _)).1
def rD{G:Nat->Nat->Option Int}{so:Nat->Nat}{U:Nat->Int}{bss:List be}{dn:be}(h:vq G so U bss dn):bss.length<=dn.length:=by
 let z:=h.perm.length_eq;let g:∀l:List be,(∀b∈l,b≠[])->l.length<=l.flatten.length:=λl=>by
  induction l with
  |nil=>intro _;show cE _
  |cons b l ih=>intro hl;let h1:=ih λc hc=>hl c (zq8 _ hc);let h2:=zq93.mpr (hl b Oq);rw [List.flatten_cons,bW,cG];omega
 let this:=g bss h.ne;omega
def AO(T:Txt K mg t)(hw:t.pr=w.params):FnOk P w K mg base CX0 15 t.f_52 t.e_52 ["block","units"] (sJ K):=by
 show T.d_52.F.ok sc_52 ∅ ?_;rintro cdv A outer s H vs Q E hr ⟨q,u,rfl,b,us,hB,qk⟩;let hu:=ii hr;show {_,(XSs.h (af (aw (i:=2) sc_52.nd rfl lc (aq aD (!0) ai)) (af (aw (i:=3) sc_52.nd rfl ll (aq aD (!0) ai)) (af (cK (i:=4) sc_52.nd rfl ll rfl Om (tns:=["beat"]) (cns:=["deeds"]) (ci:=[2]) rfl (Np Om) (aX (av T.d_45 (AV T hw) hr.m #[yqv 2 vc,!1] gl)) (λ_=>(ay (i:=1) (show List.Nodup [(".0":Str),("beat":Str),("deeds":Str)] by decide +kernel) rfl ll (Or.inr Om))) (λ_=>bf) (λ_=>(aU (tns:=["place"]) (cns:=["deeds"]) (ci:=[2]) rfl (Np Om) (aX (!1)) (λ_=>(ay (i:=1) (show List.Nodup [(".0":Str),("place":Str),("deeds":Str)] by decide +kernel) rfl ll (Or.inr Om))) (λ_=>bf) (λ_=>(aq aP (yqv 2 vc) (!1)))))) (af (aM (cq (cD (aA (iA (n:=0) (kl On hr)) (!4) (aR ac) (aH _)) (cQ (cq (i3 (aA bi (aq aD (!3) ai) aG (aH _)) (fT (aV (av T.d_53 (Ef T) hr.m #[aq aP (!4) (fG eE ai),aq aD (!3) ai] gl)))))))) (aj (aT (bH Nk Ni Nj aS (!4) #[aR ac]))) aF) (aj (ao (!4)))))))),?_}
 ac_rfl;erw [wX,BM];obtain ⟨a,e,vs,hq,ha,hvs,he⟩:=hB.ex;let hds:DeedsV K H vs b.ds:=FL.Paired.imp hvs λx _ d _ ⟨q0,e1,z1,z2⟩=>⟨z2,q0,e1,z1⟩
 let lvs:=hvs.length;let h8:=hB.h8;show {_,_,Nl hq,rfl,?_};show later ?_;erw [];show {_,_,Nl hq,rfl,?_};show later ?_;erw [wX];show {b.ds,us,{vs,Nh ha,hds,h8,hB.ut,hB.h3,hB.hp},λc r bss H1 s1 hL hmem hno=>?_};let hg:=oM (CJ hB.h3 hB.hp) r hno _ hmem;obtain ⟨ps,hc,hps⟩:=hL;let lps:=hps.length;let lb:bss.length<=b.ds.length:=by let z:=rD hg;rwa [fi] at z
 let lbd:(bz b.ds bss).length=bss.length:=by unfold bz;rw [zq3]
 show {{_,Nh hc},λacc hacc bk=>?_};show cL (xs:=ps.map V.ref) (λi ys H'=>Same H1 H'/\H' acc=some (.lst ys)/\∃rs:N2,ys=rs.map V.ref/\Paired (λp (l:N9)=>H1 p=none/\p≠acc/\∃vs,H' p=some (.lst vs)/\Paired (DeedV1 K H') vs l) rs ((bz b.ds bss).take i)) {Ng hacc,ae,[],rfl,.nil} (λi ys H' _ h=>Nh (h.1 _ _ hc)) ?_ ?_
 ·rintro i x ys H2 os hi ho ⟨s2,ha2,rs,rfl,hrs⟩;rw [bP] at hi;obtain ⟨p,hp,rfl⟩:=zq30.mp hi;obtain ⟨bt,hbt,hpb⟩:=Nu hps hp;obtain ⟨_,hlt⟩:=jy hg bt (bR hbt);let eb:(aI os [2] [some (V.ref q),some (V.ref u),some (V.ref a),some (V.ref e),none]).set 1 (some (V.ref p))=aI [some (V.ref p)] [2] [some (V.ref q),some (V.ref u),some (V.ref a),some (V.ref e),none]:=by
   match os,ho with
   | [o],_=>rfl
  change (∃os',os'.length=1/\(aI os [2] [some (V.ref q),some (V.ref u),some (V.ref a),some (V.ref e),none]).set 1 (some (V.ref p))=aI os' [2] _)/\ff ((aI os [2] _).set 1 (some (V.ref p))) H2 _;rw [eb];show {{[some (V.ref p)],rfl,rfl},?_};unfold ff;dsimp only;rw [zq1 rfl];rwa [];show {{_,Nh (s2 _ _ hpb)},λa2 ha2n bk2=>?_};show vL (bt.map λp=>vs.getD p .non) (by rw [g8,bB];let this:=jy hg bt (bR hbt);omega) (by rw [g8,zq3]) (Nh (s2 _ _ hpb)) ha2n (λj x y hx hy H3 Q' s3 h=>?_) λH3 s3 e3=>?_
  ·rw [bP] at hy;obtain ⟨pl,hpl,rfl⟩:=zq30.mp hy;rw [Jh hpl] at hx
   cases hx
   rwa [];let hpv:=hlt pl (bR hpl);show {_,_,Nh (s3 _ _ (s2 _ _ (s1 _ _ ha))),bO (j:=pl) (v:=vs.getD pl .non) (by rw [eK,bN Oo];rfl),h H3 (Nq H3)}
  let na:a2≠acc:=au ha2 ha2n |>.symm
  let s13:=s2.trans s3;let lr:=hrs.length;let e3a:=s3 _ _ ha2;let sf:Same H1 (upd H3 acc (.lst (List.map V.ref rs++[V.ref a2]))):=s13.updM hacc;let tf:TSame H3 (upd H3 acc (.lst (List.map V.ref rs++[V.ref a2]))):=Nv e3a;rw [dz] at lr;show {e3a,by rw [zq3,bB];omega,sf,ae,rs++[a2],by rw [dN];rfl,?_};let et:(bz b.ds bss).take (i+1)=(bz b.ds bss).take i++[bt.map (y7 b.ds)]:=by
   let hb:(bz b.ds bss)[i]?=some (bt.map (y7 b.ds)):=by unfold bz;rw [bP,hbt];rfl
   obtain ⟨h1,h2⟩:=zq7.mp hb;rw [dH h1,h2]
  rw [et];show FL.Paired.snoc {s2.free ha2n,na,_,by rw [ak na];show e3,?_} (FL.Paired.imp hrs λr0 _ l _ ⟨z1,z2,vs2,z3,z4⟩=>{z1,z2,vs2,by rw [ak z2];show s3 _ _ z3,FL.Paired.imp z4 λ_ _ _ _ z=>z.ts (s3.ts.trans tf)});show FL.Paired.of_get (by rw [zq3,zq3]) λj x d hx hd=>?_;rw [bP] at hx hd;obtain ⟨pl,hpl,rfl⟩:=zq30.mp hx;rw [hpl] at hd
  cases hd
  let hpv:=hlt pl (bR hpl);obtain ⟨d,hd,hdv⟩:=Nu hvs (i:=pl) (a:=vs.getD pl .non) (by rw [eK,bN Oo];rfl);let ed:y7 b.ds pl=d:=by unfold y7;rw [eK,hd];rfl
  rw [ed];show hdv.ts ((s1.trans s13).ts.trans tf)
 ·rintro ys H2 ⟨s2,ha2,rs,rfl,hrs⟩;rw [zq3,lps,kC (by unfold bz;rw [zq3];show zq4 _)] at hrs;let s02:=s1.trans s2;show later ?_;erw [];let fin:∀H3,Same H2 H3->∀bs,gn us b bs->BtsV K (λp=>H p=none) H3 acc bs->ic (CA (fk 4)) {nx:=λx H'=>Q V.non H',rt:=Q} [some (V.ref q),some (V.ref u),some (V.ref a),some (V.ref e),some (V.ref acc)] H3:=λH3 s3 bs hl hv=>by show later ?_;rwa [];show qk acc bs H3 (s02.trans s3) (s1.free hacc) hl hv
  let hv2:∀H3,Same H2 H3->BtsV K (λp=>H p=none) H3 acc (bz b.ds bss):=λH3 s3=>{rs,s3 _ _ ha2,FL.Paired.imp hrs λr0 _ l _ ⟨z1,z2,vs2,z3,z4⟩=>{s1.free z1,vs2,s3 _ _ z3,FL.Paired.imp z4 λ_ _ _ _ z=>z.ts s3.ts}}
  let hF:∀z,((bz b.ds bss).isEmpty || ot (bz b.ds bss) b.ed)=z->fv b bss=if z=true then bz b.ds bss++[[]] else bz b.ds bss:=λz hz=>by unfold fv;rw [hz]
  let lrs:=hrs.length;let stay:∀H3,Same H2 H3->((bz b.ds bss).isEmpty || ot (bz b.ds bss) b.ed)=false->ic (CA (fk 4)) {nx:=λx H'=>Q V.non H',rt:=Q} [some (V.ref q),some (V.ref u),some (V.ref a),some (V.ref e),some (V.ref acc)] H3:=λH3 s3 hz=>fin H3 s3 _ {bss,hg,(hF _ hz).symm} (hv2 H3 s3);let grow:∀H3,Same H2 H3->((bz b.ds bss).isEmpty || ot (bz b.ds bss) b.ed)=true->tyV K "list" (V.ref acc) H3/\∀p,H3 p=none->∃xs,upd H3 p (.lst []) acc=some (.lst xs)/\xs.length<sizeLine/\
    ic (CA (fk 4)) {nx:=λx H'=>Q V.non H',rt:=Q} [some (V.ref q),some (V.ref u),some (V.ref a),some (V.ref e),some (V.ref acc)] (upd (upd H3 p (.lst [])) acc (.lst (xs++[V.ref p]))):=λH3 s3 hz=>by
   let e3:=s3 _ _ ha2;show {.inl {rfl,_,Nh e3},λp hp=>?_};let np:p≠acc:=(au e3 hp).symm;let t1:=Ng (o:=.lst []) hp;show {_,t1 _ _ e3,by rw [zq3,bB];omega,?_};let tf:TSame (upd H3 p (.lst [])) (upd (upd H3 p (.lst [])) acc (.lst (List.map V.ref rs++[V.ref p]))):=Nv (t1 _ _ e3);show later ?_;rwa [];show qk acc (fv b bss) _ ((s02.trans (s3.trans t1)).updM (s1.free hacc)) (s1.free hacc) ⟨bss,hg,rfl⟩ ?_;rw [hF _ hz,zq1 rfl];show {rs++[p],by rw [ae,dN];rfl,FL.Paired.snoc {s02.free (s3.free hp),[],by rw [ak np];show ae,.nil} (FL.Paired.imp hrs λr0 _ l _ ⟨z1,z2,vs2,z3,z4⟩=>{s1.free z1,vs2,by rw [ak z2];show t1 _ _ (s3 _ _ z3),FL.Paired.imp z4 λ_ _ _ _ z=>z.ts ((s3.trans t1).ts.trans tf)})}
  intro p hp;let t1:=Ng (o:=.lst []) hp;show {_,BU (t1 _ _ ha2) ae,_,rfl,aJ (λhz=>?_) λhz=>?_}
  ·rw [zq1 trivial];show grow _ t1 ?_;let this:bz b.ds bss=[]:=zq115.mp (by rw [<- lrs,<- zq3 (f:=V.ref),hz];rfl);rw [this];rfl
  let hbe:(bz b.ds bss).isEmpty=false:=by
   cases hbd:bz b.ds bss with
   |nil=>
    rw [hbd] at lrs;show absurd (by rw [zq115.mp lrs];rfl) hz
   |cons _ _=>rfl
  rw [hbe,D1] at grow stay;let he2:=t1 _ _ (s02 _ _ he)
  cases hed:b.ed with
  |stop=>
   rw [hed] at stay grow he2;show {_,_,Nl he2,rfl,rfl,_,rfl,?_};rw [zq0 Ol];show stay _ t1 rfl
  |go i=>
   rw [hed] at stay grow he2;show {_,_,Nl he2,rfl,rfl,_,rfl,?_};rw [zq0 Ol];show stay _ t1 rfl
  |choose n i j=>
   rw [hed] at stay grow he2;show {_,_,Nl he2,rfl,rfl,_,rfl,?_};rw [zq1 Ol];rcases xP rs with z | ⟨rl,pl,z⟩
   ·show absurd (by rw [z];rfl) hz
   let hpl:rs[rl.length]?=some pl:=by rw [z,ua,tV (zq4 _),xO];rfl
   obtain ⟨l,hl,_,_,vl,hvl,hdl⟩:=Nu hrs hpl;let el:gE (bz b.ds bss)=l:=by unfold gE;rw [Dk,Gd,<- lrs,z,ua,bW,dc,Nat.add_sub_cancel,hl];rfl
   let hll:l.length<=8:=(fY h8 ⟨bss,hg,rfl⟩).2 l (by
    unfold fv
    split
    ·show mS _ (bR hl)
    ·show bR hl) |>.1
   show {_,.ref pl,Nh (t1 _ _ ha2),by rw [z,ua,dN];show iJ _ _,_,_,Nl he2,rfl,?_};rw [BM];show {vl,l,Nh (t1 _ _ hvl),FL.Paired.imp hdl λ_ _ _ _ z=>z.ts t1.ts,Oo,λH3 s3=>{_,rfl,?_}};let em:ot (bz b.ds bss) (.choose n i j)=wrB l n:=by rw [ot,el]
   rw [em] at grow stay;show iW (λh=>grow H3 (t1.trans s3) h) λh=>stay H3 (t1.trans s3) h
variable {H:Hp}
def y3{xs:N7}:dY xs none (some (-1))=xs.dropLast:=by
 unfold dY;rw [HT.gK,xJ,zr,Ge];let e:HT.sIx xs.length xs.length (some (-1))=xs.length-1:=by change (if (-1:Int)<0 then (-1+(xs.length:Int)).toNat else min (-1:Int).toNat xs.length)=_;rw [zq1 On];omega
 rw [e]
def kH{x:V}{os:List N8}{ci:be}{σ:L2.St}{Z Y:L2.St->Hp->Prop}(ho:os.length=1)(h:Z (aI [some x] ci σ) H):bI 1 x (aI os ci σ) H λσ1 H1=>(∃os',os'.length=1/\σ1=aI os' ci σ)/\ff σ1 H1 λb H2=>if b=true then Z σ1 H2 else Y σ1 H2:=by
 let e:(aI os ci σ).set 1 (some x)=aI [some x] ci σ:=by
  match os,ho with
  | [o],_=>rfl
 change (∃os',os'.length=1/\(aI os ci σ).set 1 (some x)=aI os' ci σ)/\ff ((aI os ci σ).set 1 (some x)) H _;rw [e];show {{[some x],rfl,rfl},by unfold ff;dsimp only;rw [if_pos rfl];show h}
def qL(K:N5)(C:Addr)(d:Nat)(p u:Addr)(H:Hp)(Q:VK):Prop:=∃(wd:Int)(ins oth:N0)(ss:Nf)(a b r:Addr)(ys:N7)(g:N2)(us:N3)(ns:N0),ProgAt K C H p wd ins oth ss a b r ys g/\ce ss<d/\3 * bJ ss<300/\eP ns wd ss/\SqT K H u (us.map V.int)/\us.length=3/\(∀x∈us,0<x/\x<=3)/\
 ∀tb xs bbs H',Same H H'->H tb=none->H' tb=some (.lst xs)->Paired (gn us) (FZ.cT ss) bbs->Paired (BlkV K (λc=>H c=none) H' tb) xs (nz (FZ.cT ss) bbs)->Q (.ref tb) H'
def sW(K:N5)(C:Addr)(d:Nat):Sp:=λvs H Q _=>∃p u:Addr,vs=[.ref p,.ref u]/\qL K C d p u H Q
def EQ{C p u:Addr}{d:Nat}{Q:VK}{E:XK}:sW K C d [.ref p,.ref u] H Q E=qL K C d p u H Q:=∅
def BtsV.mv{N N':Addr->Prop}{H':Hp}{c:Addr}{bs:List N9}(h:BtsV K N H c bs)(s:Same H H')(hn:∀p,N p->N' p):BtsV K N' H' c bs:=
 let ⟨ps,e,r⟩:=h;{ps,s _ _ e,FL.Paired.imp r λp _ l _ ⟨z1,vs,z2,z3⟩=>{hn p z1,vs,s _ _ z2,FL.Paired.imp z3 λ_ _ _ _ z=>z.ts s.ts}}
def BtsV.updL{N:Addr->Prop}{c l:Addr}{bs:List N9}{us vs:N7}(h:BtsV K N H c bs)(hl:H l=some (.lst us))(hc:c≠l)(hn:∀p,N p->p≠l):BtsV K N (upd H l (.lst vs)) c bs:=
 let ⟨ps,e,r⟩:=h;{ps,by rw [ak hc];show e,FL.Paired.imp r λp _ l _ ⟨z1,vs,z2,z3⟩=>{z1,vs,by rw [ak (hn p z1)];show z2,FL.Paired.imp z3 λ_ _ _ _ z=>z.ts (Nv hl)}}
def CC{N:Addr->Prop}{H:Hp}{tb q a e:Addr}{xs vs:N7}{T:Nb}{l:N9}{ed:FZ.Ed}(ht:H tb=some (.lst xs))(hx:Paired (BlkV K N H tb) xs T)(hq:H q=some (.tup [.ref a,.ref e]))(ha:H a=some (.lst vs))(hv:Paired (DeedV1 K H) vs l)(he:H e=some (.tup (fH ed)))(hn:a≠tb)(hN:N a):
  Paired (BlkV K N (upd H tb (.lst (xs++[.ref q]))) tb) (xs++[.ref q]) (T++[⟨l,ed⟩]):=
 FL.Paired.snoc (BlkV.sx (b:=⟨l,ed⟩) ⟨q,a,e,vs,rfl,hq,ha,hv,he,hn,hN⟩ NA ht) (FL.Paired.imp hx λy _ c _ h=>h.sx NA ht)
def yq{F:Addr->N9->Prop}{ps:N2}{bs:List N9}(h:Paired F ps bs)(hn:bs≠[]):∃p,atI (ps.map V.ref) (-1)=some (.ref p)/\F p (gE bs):=by
 let lr:=h.length;rcases xP ps with z | ⟨rl,pl,z⟩
 ·rw [z] at lr;show absurd (zq115.mp lr.symm) hn
 let hpl:ps[rl.length]?=some pl:=by rw [z,ua,tV (zq4 _),xO];rfl
 obtain ⟨l,hl,hf⟩:=Nu h hpl;let el:gE bs=l:=by unfold gE;rw [Dk,Gd,<- lr,z,ua,bW,dc,Nat.add_sub_cancel,hl];rfl
 rw [el];show {pl,by rw [z,ua,dN];show iJ _ _,hf}
def rM{us:N3}{b:Nc}{bs:List N9}(h8:b.ds.length<=8)(h:gn us b bs):bs.length<=9:=by
 obtain ⟨bss,hg,rfl⟩:=h;let z:=rD hg;rw [fi] at z;let lbd:(bz b.ds bss).length=bss.length:=by unfold bz;rw [zq3]
 unfold fv
 split
 ·rw [bW,dc];omega
 ·omega
def oJ{bbs:List (List N9)}(h:∀bs∈bbs,bs.length<=9):gz bbs<=9 * bbs.length:=by
 induction bbs with
 |nil=>show cE _
 |cons b l ih=>have h1:=ih λc hc=>h c (zq8 _ hc);let h2:=h b Oq;unfold gz at h1 ⊢;rw [cH,u9,cG];omega
def B0(T:Txt K mg t)(hw:t.pr=w.params)(d:Nat):FnOk P w K mg base CX0 (3 * d+16) t.f_51 t.e_51 ["program","units"] (sW K t.C11 d):=by
 let G_34:=@yy P w K mg base t T d;show T.d_51.F.ok sc_51 ∅ ?_;rintro cdv A outer s H vs Q E hr ⟨p,u,rfl,wd,ins,oth,ss,a,b,r,ys,g,us,ns,hP,hd,hm,hgd,hU,h3,hp3,qk⟩;let hu:=ii hr;show {_,(XSs.h (af (aw (i:=2) sc_51.nd rfl ll (av T.d_34 G_34 hr.m #[!0] gl)) (af (cK (i:=4) sc_51.nd rfl ll rfl Om (tns:=["block"]) (cns:=["units"]) (ci:=[1]) rfl (Np Om) (aX (!2)) (λ_=>(ay (i:=1) (show List.Nodup [(".0":Str),("block":Str),("units":Str)] by decide +kernel) rfl ll (Or.inr Om))) (λ_=>bf) (λ_=>(av T.d_52 (AO T hw) hr.m #[!1,yqv 2 vc] gl))) (af (aw (i:=5) sc_51.nd rfl ll (aR ac)) (af (aw (i:=6) sc_51.nd rfl ll ai) (da (bv PassesOwn.never rfl (aX (!4)) (ay (i:=7) sc_51.nd rfl ll) (af (aT (bH Nk Ni Nj aS (!5) #[!6])) (aj (aw (i:=6) sc_51.nd rfl ll (ax bM (!6) (az aC gl T.z15 Nm #[!7])))))) (af (aw (i:=8) sc_51.nd rfl ll (aR ac)) (af (bv PassesOwn.never rfl (eD T.z25 #[!2,!4] gl) (cy rfl (aQ (ay (i:=3) sc_51.nd rfl ll) (aQ (ay (i:=7) sc_51.nd rfl ll) bV))) (da (bv PassesOwn.never rfl (aX (bD cO (!7) cj (bE (fG eE ai)))) (ay (i:=9) sc_51.nd rfl ll) (aj (aT (bH Nk Ni Nj aS (!8) #[aK #[!9,aK #[aG,ax bM (az aC gl T.z15 Nm #[!8]) ai]]])))) (aj (aT (bH Nk Ni Nj aS (!8) #[aK #[aq aP (!7) (fG eE ai),av T.d_43 (GY T) hr.m #[aq aD (!3) ai,!5] gl]]))))) (aj (ao (!8))))))))))),?_}
 ac_rfl;erw [Bs];show {wd,ins,oth,ss,a,b,r,ys,g,hP,hd,Oo,λbl bs H1 s1 hbl0 hbl hbs=>?_};let hG:=FZ.l8 hgd;let lB:=FZ.iK ss;obtain ⟨B,hB⟩:∃B,B=FZ.cT ss:={_,rfl}
 rw [<- hB] at hG lB hbs qk;let lb:=hbs.length;show later ?_;erw [wU];show {{_,Nh hbl},λacc hacc bk=>?_};let up:=CJ h3 hp3;show cL (xs:=bs) (λi ys H'=>Same H1 H'/\H' acc=some (.lst ys)/\∃(rs:N2)(bbs:List (List N9)),ys=rs.map V.ref/\Paired (gn us) (B.take i) bbs/\Paired (λr bs=>H1 r=none/\r≠acc/\BtsV K (λp=>H1 p=none/\p≠acc) H' r bs) rs bbs) {Ng hacc,ae,[],[],rfl,.nil,.nil} (λi ys H' _ h=>Nh (h.1 _ _ hbl)) ?_ ?_
 ·rintro i x ys H2 os hi ho ⟨s2,ha2,rs,bbs,rfl,hL,hR⟩;obtain ⟨b0,hb0,hbv⟩:=Nu hbs hi;let hb8:=(hG b0 (bR hb0)).len;obtain ⟨qb,ab,eb,vs,rfl,v1,v2,v3,v4,v5,v6⟩:=hbv.same s2;show kH ho ?_;rwa [wU];show {b0,us,{⟨ab,eb,vs,v1,v2,v3,v4⟩,hb8,(s1.trans s2).seqT hU,h3,hp3},λc bs0 H3 s3 hc hl hv=>?_};let e3:=s3 _ _ ha2;let nc:c≠acc:=(au ha2 hc).symm;let lr:=hR.length;let lL:=hL.length;rw [dz] at lL;show {e3,by rw [zq3,bB];omega,(s2.trans s3).updM hacc,ae,rs++[c],bbs++[bs0],by rw [dN];rfl,?_,?_}
  ·obtain ⟨h1,h2⟩:=zq7.mp hb0;rw [dH h1,h2];show FL.Paired.snoc hl hL
  ·show FL.Paired.snoc {s2.free hc,nc,?_} (FL.Paired.imp hR λr0 _ l _ ⟨z1,z2,z3⟩=>{z1,z2,(z3.mv s3 λ_ z=>z).updL e3 z2 λ_ z=>z.2});show (hv.mv (Nq _) λp0 z=>{s2.free z,(au ha2 z).symm}).updL e3 nc λ_ z=>z.2
 ·rintro ys H2 ⟨s2,ha2,rs,bbs,rfl,hL,hR⟩;rw [kC Oo] at hL;let lr:=hR.length;let lL:=hL.length;let hne:∀bs∈bbs,bs≠[]/\bs.length<=9:=λbs hbs=>by obtain ⟨i,hi⟩:=zq149.mp hbs;obtain ⟨b0,hb0,hl⟩:=NC hL hi;let h8:=(hG b0 (bR hb0)).len;show {(fY h8 hl).1,rM h8 hl}
  let hR2:Paired (λr bs=>H1 r=none/\BtsV K (λp=>H1 p=none) H2 r bs) rs bbs:=FL.Paired.imp hR λr0 _ l _ ⟨z1,_,z3⟩=>{z1,z3.mv (Nq _) λ_ z=>z.1}
  let hsum:=oJ λbs hbs=>(hne bs hbs).2;let hacc0:=hacc;clear hR hacc bk;show later ?_;erw [];intro fl hfl;show later ?_;erw [];show later ?_;erw [];let t1:=Ng (o:=.lst []) hfl;show {λσ H'=>Same H2 H'/\H' fl=some (.lst (nl (bY bbs)))/\∃o6 o7,σ=[some (V.ref p),some (V.ref u),some (V.ref bl),none,some (V.ref acc),some (V.ref fl),o6,o7,none,none],?_,?_}
  ·show {{_,Nh (t1 _ _ ha2)},?_};show eC (xs:=rs.map V.ref) (λi σ H'=>Same H2 H'/\H' fl=some (.lst (nl ((bY bbs).take i)))/\∃o7,σ=[some (V.ref p),some (V.ref u),some (V.ref bl),none,some (V.ref acc),some (V.ref fl),some (V.int (gz (bbs.take i))),o7,none,none])
    {t1,ae,_,rfl} (λi σ H' _ h=>Nh (h.1 _ _ ha2)) ?_ ?_
   ·rintro i x σ H3 hx ⟨s3,e3,o7,rfl⟩;rw [bP] at hx;obtain ⟨r0,hr0,rfl⟩:=zq30.mp hx;obtain ⟨bs0,hbs0,z1,ps,hps,hpp⟩:=Nu hR2 hr0;let hi:=(zq7.mp hbs0).1;let lp:=hpp.length;let lf:(bY bbs).length=bbs.length:=by unfold bY;rw [zq3,fi]
    let ltk:=g8 (ps:=(bY bbs).take i);rw [dz] at ltk;rwa [];let nr:r0≠fl:=au hps hfl;show {.inl {rfl,_,Nh e3},_,e3,by rw [ltk,bB];omega,ps.map V.ref,.inl (Nh (by rw [ak nr];show s3 _ _ hps)),s3.updM hfl,?_,some (V.ref r0),?_}
    ·let hf:(bY bbs)[i]?=some (gz (bbs.take i)):=by unfold bY;rw [bP,Dg hi];rfl
     obtain ⟨h1,h2⟩:=zq7.mp hf;rw [ae,dH h1,h2];unfold nl;rw [dN];rfl
    ·rw [fP hbs0,zq3,lp,Int.natCast_add]
   ·rintro σ H3 ⟨s3,e3,o7,rfl⟩;rw [zq3,lr,kC (by unfold bY;rw [zq3,fi];show zq4 _)] at e3;show {s3,e3,_,_,rfl}
  rintro σ H3 ⟨s3,e3,o6,o7,rfl⟩;show later ?_;erw [];intro tb htb;show later ?_;erw [wY];let t4:=Ng (o:=.lst []) htb;let hS3:=s2.trans s3;let lB1:B.length=bbs.length:=lL;show {bl,acc,rfl,{_,Nh (t4 _ _ (hS3 _ _ hbl))},{_,Nh (t4 _ _ (s3 _ _ ha2))},?_};show uq (xs:=bs) (ys:=rs.map V.ref) (by rw [zq3];omega) (λi σ H'=>Same H3 H'/\(∃xs,H' tb=some (.lst xs)/\Paired (BlkV K (λc=>H c=none) H' tb) xs (kz B bbs i))/\∃o3 o7 o9,σ=[some (V.ref p),some (V.ref u),some (V.ref bl),o3,some (V.ref acc),some (V.ref fl),o6,o7,some (V.ref tb),o9])
   {t4,{[],ae,.nil},_,_,_,rfl} (λi σ H' _ h=>{Nh (h.1 _ _ (hS3 _ _ hbl)),Nh (h.1 _ _ (s3 _ _ ha2))}) ?_ ?_
  ·rintro i x y σ H5 pp hx hy hpp ⟨s5,⟨xs,e5,hxs⟩,o3,o7,o9,rfl⟩;rw [bP] at hy;obtain ⟨r0,hr0,rfl⟩:=zq30.mp hy;obtain ⟨bs0,hbs0,z1,ps,hps,hpp0⟩:=Nu hR2 hr0;obtain ⟨b0,hb0,hbv⟩:=Nu hbs hx;obtain ⟨qb,ab,eb,vs,rfl,v1,v2,v3,v4,v5,v6⟩:=hbv.same hS3;let lp:=hpp0.length;let hn0:=(hne bs0 (bR hbs0)).1;let hlen:=jl lB1 (λbs hbs=>(hne bs hbs).1) i (by let this:=(zq7.mp hbs0).1;omega);let hsle:=qf (bbs:=bbs) (i+1);rw [fP hbs0] at hsle;erw [];show {_,Nl ae,rfl,?_};let t6:=Ng (o:=.tup [.ref qb,.ref r0]) hpp;let s6:=s5.trans t6;let e6:=t6 _ _ e5;let hx6:=FL.Paired.imp hxs λy _ c _ h=>h.same t6;clear hxs hpp e5;generalize upd H5 pp (.tup [.ref qb,.ref r0])=H6 at t6 s6 e6 hx6 ⊢;erw [wY];show {λσ H'=>Same H3 H'/\(∃xs,H' tb=some (.lst xs)/\Paired (BlkV K (λc=>H c=none) H' tb) xs (kz B bbs i++bs0.dropLast.mapIdx λj d=>{d,.go ((kz B bbs i).length+j+1)}))/\∃o9,σ=[some (V.ref p),some (V.ref u),some (V.ref bl),some (V.ref qb),some (V.ref acc),some (V.ref fl),o6,some (V.ref r0),some (V.ref tb),o9],?_,?_}
   ·show {_,Nh (s6 _ _ (s3 _ _ hps)),λsl hsl=>?_};rw [y3];let t7:=Ng (o:=.lst (ps.map V.ref).dropLast) hsl;let s7:=s6.trans t7;let e7:=t7 _ _ e6;let esl:upd H6 sl (.lst (ps.map V.ref).dropLast) sl=some (.lst (ps.map V.ref).dropLast):=ae;let hx7:=FL.Paired.imp hx6 λy _ c _ h=>h.same t7;let nsl:sl≠tb:=(au e6 hsl).symm;generalize upd H6 sl (.lst (ps.map V.ref).dropLast)=H7 at t7 s7 e7 esl hx7 ⊢;show {{_,Nh esl},?_};show eC (xs:=(ps.map V.ref).dropLast) (λj σ H'=>SameX tb H7 H'/\(∃xs,H' tb=some (.lst xs)/\Paired (BlkV K (λc=>H c=none) H' tb) xs (kz B bbs i++(bs0.dropLast.take j).mapIdx λj d=>{d,.go ((kz B bbs i).length+j+1)}))/\∃o9,σ=[some (V.ref p),some (V.ref u),some (V.ref bl),some (V.ref qb),some (V.ref acc),some (V.ref fl),o6,some (V.ref r0),some (V.ref tb),o9])
     {SameX.refl,{_,e7,by simpa using hx7},_,rfl} (λj σ H' _ h=>Nh (h.1 _ _ esl nsl)) ?_ ?_
    ·rintro j x σ H8 hxj ⟨sx8,⟨xs8,e8,hx8⟩,o9',rfl⟩;rwa [];let hjl:j<ps.length-1:=by let this:=(zq7.mp hxj).1;rwa [qt,zq3] at this
     obtain ⟨pj,hpj⟩:∃pj,ps[j]?=some pj:={_,bN Oo}
     rw [Gf,zq1 (by rw [zq3];show hjl),bP,hpj] at hxj
     cases hxj
     obtain ⟨l,hl,hN,vl,hvl,hdl⟩:=Nu hpp0 hpj;let hld:bs0.dropLast[j]?=some l:=by rw [Gf,zq1 Oo];show hl
     let lx8:=hx8.length;rw [bW,Dl,dz,qt] at lx8;let s38:Same H3 H8:=λc o e=>sx8 c o (s7 c o e) (au e htb);show {.inl {rfl,_,Nh e8},_,.inl (Nh e8),λp1 hp1 p2 hp2=>?_};let t9:=Ng (o:=.tup [V.str (Str.ofString "go"),V.int ((xs8.length:Int)+1)]) hp1;let t10:=Ng (o:=.tup [V.ref pj,V.ref p1]) hp2;let s10:=t9.trans t10;let e1:=t10 _ _ (ae (H:=H8) (a:=p1) (o:=.tup [V.str (Str.ofString "go"),V.int ((xs8.length:Int)+1)]));let s310:=s38.trans s10;show {xs8,s10 _ _ e8,by rw [bB];omega,(sx8.trans (Nw s10)).trans NA,{_,ae,?_},_,rfl};rw [tE hld,<- kD];show CC (s10 _ _ e8) (FL.Paired.imp hx8 λy _ c _ h=>h.same s10) ae (s310 _ _ (s3 _ _ hvl)) (FL.Paired.imp hdl λ_ _ _ _ z=>z.ts (s3.trans s310).ts) (e:=p1) ?_ (au (s3 _ _ hvl) htb) (s1.free hN);rw [e1,lx8,qm Oo];rfl
    ·rintro σ H8 ⟨sx8,⟨xs8,e8,hx8⟩,o9',rfl⟩;show {λc o e=>sx8 c o (s7 c o e) (au e htb),{xs8,e8,?_},_,rfl};rw [kC (by rw [qt,qt,zq3];omega)] at hx8;show hx8
   ·rintro σ H8 ⟨s8,⟨xs8,e8,hx8⟩,o9',rfl⟩;show later ?_;rwa [wY];obtain ⟨pl,hat,hN,vl,hvl,hdl⟩:=yq hpp0 hn0;let lx8:=hx8.length;rw [bW,Dl,qt] at lx8;let lb0:=zq93.mpr hn0;show {.inl {rfl,_,Nh e8},_,_,Nh (s8 _ _ (s3 _ _ hps)),hat,_,_,Nl (s8 _ _ v1),rfl,?_};rw [wY];show {b0.ed,bY bbs,s8 _ _ v4,Nh (s8 _ _ e3),λk hk=>?_,λe' H9 s9 he' p1 hp1=>?_}
    ·let this:=(hG b0 (bR hb0)).tg k hk;unfold bY;rw [zq3,fi];omega
    let t10:=Ng (o:=.tup [.ref pl,.ref e']) hp1;let s10:=s9.trans t10;let s310:=s8.trans s10;show {xs8,s10 _ _ e8,by rw [bB];omega,s310.updM htb,{_,ae,?_},_,_,_,rfl};rw [jO hb0 hbs0,mV,ij,<- kD];show CC (s10 _ _ e8) (FL.Paired.imp hx8 λy _ c _ h=>h.same s10) ae (s310 _ _ (s3 _ _ hvl)) (FL.Paired.imp hdl λ_ _ _ _ z=>z.ts (s3.trans s310).ts) (t10 _ _ he') (au (s3 _ _ hvl) htb) (s1.free hN)
  ·rintro σ H5 ⟨s5,⟨xs,e5,hxs⟩,o3,o7,o9,rfl⟩;show later ?_;rwa [];rw [lb,mP lB1] at hxs;show qk tb xs bbs H5 ((s1.trans hS3).trans s5) ((s1.trans hS3).free htb) e5 hL hxs
def StV(K:N5)(H:Hp)(x:V)(b:Nc):Prop:=∃q a e vs,x=.ref q/\SqT K H q [.ref a,.ref e]/\H a=some (.lst vs)/\Paired (DeedV1 K H) vs b.ds/\SqT K H e (fH b.ed)
def Dy(K:N5)(H:Hp)(tb:Addr)(F:Nb):Prop:=∃xs,H tb=some (.lst xs)/\Paired (StV K H) xs F
structure ShV(pr:Params)(K:N5)(C:Addr)(H:Hp)(p L D:Addr)(R:Rs):Prop where
 ob:∃dx,H p=some (.ins C dx [("rows",.ref L),("known",.ref D)])
 rows:∃xs,H L=some (.lst xs)/\RowsV K H xs R
 kn:∃kvs,DnAt pr K H D kvs/\kvs.length<=R.length/\∀g,yj g=false->cn kvs (iX g)=if g∈R then some (.int ((R.idxOf g:Nat):Int)) else none
section
variable {pr:Params} {K:N5} {C p L D:Addr} {H H':Hp} {R:Rs}
def ShV.mv(h:ShV pr K C H p L D R)(s:Same H H'):ShV pr K C H' p L D R:=by obtain ⟨⟨dx,e⟩,⟨xs,h1,h2⟩,kvs,h3,h4⟩:=h;show {{dx,s _ _ e},{xs,s _ _ h1,h2.ts s.ts},kvs,h3.same s,h4}
def ShV.ext(h:ShV pr K C H p L D R):∃φ,H D=some (.ext φ):=by obtain ⟨_,_,kvs,⟨es,h1,_⟩,_⟩:=h;show {_,h1}
def ShV.ts(h:ShV pr K C H p L D R)(s:SameB L D H H'):TSame H H':=by obtain ⟨xs,h1,_⟩:=h.rows;obtain ⟨φ,h2⟩:=h.ext;show {λc ys e=>s c _ e (λz=>by rw [z,h1] at e;cases e) (λz=>by rw [z,h2] at e;cases e),λc o u e=>s c _ e (λz=>by rw [z,h1] at e;cases e) (λz=>by rw [z,h2] at e;cases e)}
def ShV.at(h:ShV pr K C H p L D R){i:Nat}{r:Row}(e:R[i]?=some r):∃xs q,H L=some (.lst xs)/\xs[i]?=some (.ref q)/\SqT K H q r.vs:=by obtain ⟨xs,h1,h2⟩:=h.rows;obtain ⟨x,hx,q,rfl,hq⟩:=L2.Paired.getR h2 e;show ⟨xs,q,h1,hx,hq⟩
def jP{k k':W.WData}{v:V}:∀{kvs:List (W.WData×V)},cn (kvs++[(k,v)]) k'=match cn kvs k' with | some u=>some u | none=>if k=k' then some v else none
 | []=>by
  rw [tZ]
  by_cases e:k=k'
  ·rw [dU e,zq1 e];rfl
  ·rw [dw e,zq0 e];rfl
 | (a,u)::kvs=>by
  rw [nK]
  by_cases e:a=k'
  ·rw [dU e,dU e]
  ·rw [dw e,dw e];show jP
def jJ{x:V}{g:Row}(hx:RowV K H x g):∀{xs:N7} {R:Rs},RowsV K H xs R->RowsV K H (xs++[x]) (R++[g])
 |_,_,.nil=>.cons hx .nil
 |_,_,.cons h t=>.cons h (jJ hx t)
end
def oi{pr:Params}{K:N5}{H H':Hp}{d:Addr}{kvs:List (W.WData×V)}(h:DnAt pr K H d kvs)(s:TSame H H')(e:H' d=H d):DnAt pr K H' d kvs:=by obtain ⟨es,h1,h2,h3⟩:=h;show {es,e.trans h1,h2,λp hp=>{(h3 p hp).1.keep s,(h3 p hp).2}}
def DW{R:Rs}{g:Row}{kvs:List (W.WData×V)}(hm:g∉R)(h:∀g,yj g=false->cn kvs (iX g)=if g∈R then some (.int ((R.idxOf g:Nat):Int)) else none):
  ∀g',yj g'=false->cn (kvs++[(iX g,.int (R.length:Int))]) (iX g')=if g'∈R++[g] then some (.int (((R++[g]).idxOf g':Nat):Int)) else none:=λg' hg'=>by
 rw [jP,h g' hg']
 by_cases h1:g'∈R
 ·rw [zq1 h1,zq1 (mS _ h1),Do,zq1 h1]
 ·rw [zq0 h1];dsimp only
  by_cases h2:g=g'
  ·subst h2;rw [zq1 rfl,zq1 Oq,Do,zq0 h1];simp
  ·rw [zq0 (λz=>h2 (Ao z)),zq0 (by simpa [h1] using λz=>h2 z.symm)]
def zP(pr:Params)(K:N5)(C p:Addr)(H:Hp)(Q:VK):Prop:=∃(dx:Addr),H p=some (.ins C dx [])/\∀L D H',SameX p H H'->H L=none->H D=none->ShV pr K C H' p L D []->Q .non H'
def Cg(pr:Params)(K:N5)(C:Addr):Sp:=λvs H Q _=>∃p:Addr,vs=[.ref p]/\zP pr K C p H Q
def K8{pr:Params}{K:N5}{C p:Addr}{H:Hp}{Q:VK}{E:XK}:Cg pr K C [.ref p] H Q E=zP pr K C p H Q:=∅
def Ff(pr:Params)(K:N5)(C p q:Addr)(H:Hp)(Q:VK):Prop:=∃(L D:Addr)(R:Rs)(g:Row),ShV pr K C H p L D R/\SqT K H q g.vs/\yj g=false/\R.length<=100000/\∀H',SameB L D H H'->ShV pr K C H' p L D (wrS R g).1->Q (.int ((wrS R g).2:Nat)) H'
def FQ(pr:Params)(K:N5)(C:Addr):Sp:=λvs H Q _=>∃p q:Addr,vs=[.ref p,.ref q]/\Ff pr K C p q H Q
def mE{pr:Params}{K:N5}{C p q:Addr}{H:Hp}{Q:VK}{E:XK}:FQ pr K C [.ref p,.ref q] H Q E=Ff pr K C p q H Q:=∅
def wH(T:Txt K mg t):FnOk P w K mg base CX0 1 t.f_8 t.e_8 ["self","row"] (FQ w.params K t.C13):=by
 show T.d_8.F.ok MK ∅ ?_;rintro cdv A outer s H vs Q E hr ⟨p,q0,rfl,L,D,R,g,hS,hq,hg,hl,q⟩;show {_,(XSs.h (af (aM (aA (yC (kl (n:=9) On hr)) (!1) (aL (!0) rfl) rfl) (af (CU (kl (n:=9) On hr) (aL (!0) rfl) (!1) (az aC gl T.z15 Nm #[aL (!0) rfl]) rfl) (aj (aT (bH Nk Ni Nj aS (aL (!0) rfl) #[!1])))) aF) (aj (ao (zk (kl (n:=9) On hr) (aL (!0) rfl) (!1) (λ_ _=>rfl)))))),?_}
 ac_rfl;erw [];obtain ⟨dx,hp⟩:=hS.ob;obtain ⟨kvs,hD,hkl,hkv⟩:=hS.kn;obtain ⟨xs,hL,hR⟩:=hS.rows;show bS hp T.c13.cl T.n20 rfl ?_;show {q0,D,kvs,iX g,rfl,rfl,hD,pU hq,pD g,_,rfl,?_};rw [hkv g hg]
 by_cases hm:g∈R
 ·let e:wrS R g=(R,R.idxOf g):=by unfold wrS;rw [zq1 hm]
  rw [zq1 hm,zq0 (λz=>nomatch z)];show later ?_;erw [];show bS hp T.c13.cl T.n20 rfl ?_;show {D,q0,kvs,iX g,_,rfl,rfl,hD,pU hq,pD g,by rw [hkv g hg,zq1 hm],?_};let z:=q H SameB.refl (by rw [e];show hS);rw [e] at z;show z
 ·let e:wrS R g=(R++[g],R.length):=by unfold wrS;rw [zq0 hm]
  rw [e] at q;let lx:xs.length=R.length:=hR.length;rw [zq0 hm,zq1 On];show bS hp T.c13.cl T.n19 rfl {L,xs,rfl,.inl (Nh hL),bS hp T.c13.cl T.n20 rfl ?_};show {D,q0,kvs,iX g,rfl,rfl,hD,pU hq,pD g,by rw [bB];omega,by rw [hkv g hg,zq0 hm],λo hD2=>later ?_};obtain ⟨φ,hφ⟩:=hS.ext;let npD:p≠D:=aO hp hφ (λz=>nomatch z);let nLD:L≠D:=aO hL hφ (λz=>nomatch z);let hp1:=(ak (H:=H) (o:=o) npD).trans hp;let hL1:upd H D o L=some (.lst xs):=by rw [ak nLD];show hL
  let s1:SameB L D H (upd H D o):=SameB.upd2;generalize upd H D o=H1 at hD2 hp1 hL1 s1 ⊢;erw [];show bS hp1 T.c13.cl T.n19 rfl ?_;erw [];show {.inl {rfl,_,Nh hL1},_,hL1,by rw [bB];omega,later ?_};let s2:SameB L D H (upd H1 L (.lst (xs++[.ref q0]))):=s1.trans NL;let hL2:upd H1 L (.lst (xs++[.ref q0])) L=some (.lst (xs++[.ref q0])):=ae;let npL:p≠L:=aO hp1 hL1 (λz=>nomatch z);let hp2:=(ak (H:=H1) (o:=.lst (xs++[.ref q0])) npL).trans hp1;let hD3:DnAt w.params K (upd H1 L (.lst (xs++[.ref q0]))) D (kvs++[(iX g,.int (xs.length:Int))]):=oi hD2 (Nv hL1) (ak nLD.symm);generalize upd H1 L (.lst (xs++[.ref q0]))=H2 at s2 hL2 hp2 hD3 ⊢;let tt:=hS.ts s2;rw [lx] at hD3;let hS2:ShV w.params K t.C13 H2 p L D (R++[g]):={⟨dx,hp2⟩,{_,hL2,jJ {q0,rfl,tt.seqT hq} (hR.ts tt)},_,hD3,by simp;omega,DW hm hkv}
  erw [];show bS hp2 T.c13.cl T.n20 rfl ?_;show {D,q0,_,iX g,_,rfl,rfl,hD3,pU (tt.seqT hq),pD g,by rw [jP,hkv g hg,zq0 hm];show zq1 rfl,q H2 s2 hS2}
def Hg(T:Txt K mg t):FnOk P w K mg base CX0 1 t.f_7 t.e_7 ["self"] (Cg w.params K t.C13):=by
 show T.d_7.F.ok MJ ∅ ?_;rintro cdv A outer s H vs Q E hr ⟨p,rfl,dx,hp,q⟩;show {_,(XSs.h (af (cP (!0) (aR ac) rfl) (aj (cP (!0) zm rfl)))),?_}
 ac_rfl;erw [];intro L hL;let s1:=Ng (o:=.lst []) hL;show iu (s1 _ _ hp) T.c13.cl T.n19 Oq (later ?_);rw [cB Os,tZ];erw [];intro D hD;let s2:Same (upd H L (.lst [])) (upd (upd H L (.lst [])) D (mZ w.params D [])):=Ng (by
  by_cases z:D=p
  ·rw [z,ae] at hD;cases hD
  ·rw [ak z] at hD;show hD)
 let nDp:D≠p:=λz=>by rw [z,ae] at hD;cases hD
 let nLp:L≠p:=(au hp hL).symm;let hD0:H D=none:=by rw [ak nDp] at hD;show s1.free hD
 let nDL:D≠L:=λz=>by rw [z,ak nLp,ae] at hD;cases hD
 show iu (by rw [ak nDp.symm,ae]) T.c13.cl T.n20 Oq ?_;rw [cB Om];show q L D _ (λc o e n=>?_) hL hD0 {⟨dx,ae⟩,{[],?_,.nil},[],{[],?_,rfl,λ_ h=>by cases h},zq4 _,λg _=>rfl}
 ·rw [ak n,ak (λz=>by rw [z,hD0] at e;cases e),ak n,ak (λz=>by rw [z,hL] at e;cases e)];show e
 ·rw [ak nLp,ak nDL.symm,ak nLp,ae]
 ·rw [ak nDp,ae]
variable {E:XK} {H:Hp} {Q:VK} {a b:Nat} {p:Addr}
def eL(pr:Params)(K:N5)(C p:Addr)(H:Hp)(Q:VK)(f:Rs->Rs×Nat)(W:Rs->Prop):Prop:=∃(L D:Addr)(R:Rs),ShV pr K C H p L D R/\W R/\(f R).1.length<=100000/\∀H',SameB L D H H'->ShV pr K C H' p L D (f R).1->Q (.int ((f R).2:Nat)) H'
def FI(pr:Params)(K:N5)(C:Addr):Sp:=λvs H Q _=>∃(p:Addr)(b:Int),vs=[.ref p,.int b]/\eL pr K C p H Q (λR=>cr R b) (λ_=>True)
def kx{pr:Params}{K:N5}{C:Addr}{b:Int}:FI pr K C [.ref p,.int b] H Q E=eL pr K C p H Q (λR=>cr R b) (λ_=>True):=∅
def Cj(pr:Params)(K:N5)(C:Addr):Sp:=λvs H Q _=>∃(p:Addr)(n:Str)(k:Nat),vs=[.ref p,.str n,.int (k:Int)]/\eL pr K C p H Q (λR=>inS R n k) (λ_=>True)
def cN{a b:Nat}(h:V.int (a:Int)=V.int (b:Int)):a=b:=by injection h with h;omega
def Mz{pr:Params}{K:N5}{C:Addr}{n:Str}{k:Nat}:Cj pr K C [.ref p,.str n,.int (k:Int)] H Q E=eL pr K C p H Q (λR=>inS R n k) (λ_=>True):=propext {by rintro ⟨_,_,k',e,q⟩;injection e with e1 e;injection e with e2 e;injection e with e3 _;injection e1 with e1;injection e2 with e2;let z:=cN e3;subst e1 e2 z;show q,λq=>{_,_,_,rfl,q}}
def FN(pr:Params)(K:N5)(C:Addr)(f:Nat->Rs->Rs×Nat):Sp:=λvs H Q _=>∃(p:Addr)(a:Nat),vs=[.ref p,.int (a:Int)]/\eL pr K C p H Q (f a) (λR=>a<R.length)
def jc{pr:Params}{K:N5}{C:Addr}{f:Nat->Rs->Rs×Nat}:FN pr K C f [.ref p,.int (a:Int)] H Q E=eL pr K C p H Q (f a) (λR=>a<R.length):=propext {by rintro ⟨_,a',e,q⟩;injection e with e1 e;injection e with e2 _;injection e1 with e1;let z:=cN e2;subst e1 z;show q,λq=>{_,_,rfl,q}}
def xn(pr:Params)(K:N5)(C:Addr)(f:Nat->Nat->Rs->Rs×Nat):Sp:=λvs H Q _=>∃(p:Addr)(a b:Nat),vs=[.ref p,.int (a:Int),.int (b:Int)]/\eL pr K C p H Q (f a b) (λR=>a<R.length/\b<R.length)
def gf{pr:Params}{K:N5}{C:Addr}{f:Nat->Nat->Rs->Rs×Nat}:xn pr K C f [.ref p,.int (a:Int),.int (b:Int)] H Q E=eL pr K C p H Q (f a b) (λR=>a<R.length/\b<R.length):=propext {by rintro ⟨_,a',b',e,q⟩;injection e with e1 e;injection e with e2 e;injection e with e3 _;injection e1 with e1;let z2:=cN e2;let z3:=cN e3;subst e1 z2 z3;show q,λq=>{_,_,_,rfl,q}}
def Ce(pr:Params)(K:N5)(C:Addr):Sp:=λvs H Q _=>∃(p:Addr)(o:Bop)(a b:Nat),vs=[.ref p,.str o.str,.int (a:Int),.int (b:Int)]/\eL pr K C p H Q (λR=>yD R o a b) (λ_=>True)
def gx{pr:Params}{K:N5}{C:Addr}{o:Bop}:Ce pr K C [.ref p,.str o.str,.int (a:Int),.int (b:Int)] H Q E=eL pr K C p H Q (λR=>yD R o a b) (λ_=>True):=propext {by rintro ⟨_,o',a',b',e,q⟩;injection e with e1 e;injection e with e2 e;injection e with e3 e;injection e with e4 _;injection e1 with e1;injection e2 with e2;let z2:=vJ e2;let z3:=cN e3;let z4:=cN e4;subst e1 z2 z3 z4;show q,λq=>{_,_,_,_,rfl,q}}
def C7(pr:Params)(K:N5)(C:Addr):Sp:=λvs H Q _=>∃(p:Addr),vs=[.ref p]/\eL pr K C p H Q d6 (λ_=>True)
def Fx{pr:Params}{K:N5}{C:Addr}:C7 pr K C [.ref p] H Q E=eL pr K C p H Q d6 (λ_=>True):=∅
def vB(pr:Params)(K:N5)(C p:Addr)(l wi:Nat)(H:Hp)(Q:VK):Prop:=∃(L D:Addr)(R:Rs),ShV pr K C H p L D R/\(∃x,R[l]?=some (.latch x))/\∀H',SameB L D H H'->ShV pr K C H' p L D (f9 R l wi)->Q .non H'
def xf(pr:Params)(K:N5)(C:Addr):Sp:=λvs H Q _=>∃(p:Addr)(l wi:Nat),vs=[.ref p,.int (l:Int),.int (wi:Int)]/\vB pr K C p l wi H Q
def Bw{pr:Params}{K:N5}{C:Addr}{l wi:Nat}:xf pr K C [.ref p,.int (l:Int),.int (wi:Int)] H Q E=vB pr K C p l wi H Q:=propext {by rintro ⟨_,a',b',e,q⟩;injection e with e1 e;injection e with e2 e;injection e with e3 _;injection e1 with e1;let z2:=cN e2;let z3:=cN e3;subst e1 z2 z3;show q,λq=>{_,_,_,rfl,q}}
def zI(pr:Params)(K:N5)(C p:Addr)(a:Nat)(b:Int)(H:Hp)(Q:VK):Prop:=∃(L D:Addr)(R:Rs),ShV pr K C H p L D R/\a<R.length/\∀H',Same H H'->Q (.bl (isF R a b)) H'
def C6(pr:Params)(K:N5)(C:Addr):Sp:=λvs H Q _=>∃(p:Addr)(a:Nat)(b:Int),vs=[.ref p,.int (a:Int),.int b]/\zI pr K C p a b H Q
def fc{pr:Params}{K:N5}{C:Addr}{b:Int}:C6 pr K C [.ref p,.int (a:Int),.int b] H Q E=zI pr K C p a b H Q:=propext {by rintro ⟨_,a',b',e,q⟩;injection e with e1 e;injection e with e2 e;injection e with e3 _;injection e1 with e1;injection e3 with e3;let z2:=cN e2;subst e1 z2 e3;show q,λq=>{_,_,_,rfl,q}}
def zG(pr:Params)(K:N5)(C p:Addr)(a b:Nat)(H:Hp)(Q:VK):Prop:=∃(L D:Addr)(R:Rs),ShV pr K C H p L D R/\a<R.length/\b<R.length/\∀H',Same H H'->Q (.bl (qD R a b)) H'
def C2(pr:Params)(K:N5)(C:Addr):Sp:=λvs H Q _=>∃(p:Addr)(a b:Nat),vs=[.ref p,.int (a:Int),.int (b:Int)]/\zG pr K C p a b H Q
def wR{pr:Params}{K:N5}{C:Addr}:C2 pr K C [.ref p,.int (a:Int),.int (b:Int)] H Q E=zG pr K C p a b H Q:=propext {by rintro ⟨_,a',b',e,q⟩;injection e with e1 e;injection e with e2 e;injection e with e3 _;injection e1 with e1;let z2:=cN e2;let z3:=cN e3;subst e1 z2 z3;show q,λq=>{_,_,_,rfl,q}}
def sE{K:N5}{H:Hp}{x:V}{g:Row}(hx:RowV K H x g):∀{xs:N7} {R:Rs} {l:Nat},RowsV K H xs R->RowsV K H (xs.set l x) (R.set l g)
 |_,_,_,.nil=>.nil
 |_,_,0,.cons _ t=>.cons hx t
 |_,_,l+1,.cons h t=>.cons h (sE hx t)
def wq{g:Row}{w:Nat}(hg:yj g=false):∀{R:Rs} {l x:Nat},R[l]?=some (.latch x)->(g∈f9 R l w↔g∈R)/\(f9 R l w).idxOf g=R.idxOf g
 | [],l,x,h=>by cases h
 |r::R,0,x,h=>by
  cases h
  let n1:¬Row.latch w=g:=λz=>by rw [<- z] at hg;cases hg
  let n2:¬Row.latch x=g:=λz=>by rw [<- z] at hg;cases hg
  unfold f9;show {?_,?_}
  ·simp only [List.set_cons_zero,List.mem_cons];show {λz=>z.elim (λe=>absurd e.symm n1) .inr,λz=>z.elim (λe=>absurd e.symm n2) .inr}
  ·rw [List.set_cons_zero,xQ,xQ,beq_eq_false_iff_ne.mpr n1,beq_eq_false_iff_ne.mpr n2]
 |r::R,l+1,x,h=>by
  obtain ⟨h1,h2⟩:=wq hg (R:=R) (l:=l) (x:=x) (w:=w) h;unfold f9 at h1 h2 ⊢;show {?_,?_}
  ·rw [List.set_cons_succ,zq9,zq9,h1]
  ·rw [List.set_cons_succ,xQ,xQ,h2]
def Au{g:Row}{R:Rs}{w:Nat}(hg:yj g=false):(g∈R++[Row.latch w]↔g∈R)/\(g∈R->(R++[Row.latch w]).idxOf g=R.idxOf g):=by
 let n1:¬g=Row.latch w:=λz=>by rw [z] at hg;cases hg
 show {by simp [n1],λh=>by rw [Do,zq1 h]}
def ixM{K:N5}{L:Addr}{xs:N7}{i:Nat}{v:V}{Z:VK}(hL:H L=some (.lst xs))(hx:xs[i]?=some v)(h:Z v H):Eu K (.ref L) (.int (i:Int)) H Z:={L,_,_,_,rfl,rfl,Nh hL,bO hx,h}
def ui{R:Rs}{g:Row}(h:a<R.length):decide (R[a]=g)=decide (R[a]?=some g):=by rw [bN h];show decide_eq_decide.mpr {λe=>by rw [e],Option.some.inj}
def j7(T:Txt K mg t):FnOk P w K mg base CX0 2 t.f_9 t.e_9 ["self","bit"] (FI w.params K t.C13):=by
 show T.d_9.F.ok ML ∅ ?_;rintro cdv A outer s H vs Q E hr ⟨p,b,rfl,L,D,R,hS,_,hl,q⟩;show {_,(XSs.h (aj (ao (am T.c13.cl T.d_8 (wH T) hr.m (!0) #[aK #[aG,!1]])))),?_}
 ac_rfl;erw [mE];obtain ⟨dx,hp⟩:=hS.ob;show aE hp rfl λp1 hp1=>?_;let s1:=Ng (o:=.tup [V.str (Str.ofString "fix"),V.int b]) hp1;show {L,D,R,.fix b,hS.mv s1,Nl ae,rfl,(by let this:=(wr_gr (R:=R) (g:=.fix b)).1.len;show bF this hl),λH' s2 h2=>q H' ((Nn s1).trans s2) h2}
def Jl(T:Txt K mg t):FnOk P w K mg base CX0 2 t.f_10 t.e_10 ["self","name","bit"] (Cj w.params K t.C13):=by
 show T.d_10.F.ok Lk ∅ ?_;rintro cdv A outer s H vs Q E hr ⟨p,n,k,rfl,L,D,R,hS,_,hl,q⟩;show {_,(XSs.h (aj (ao (am T.c13.cl T.d_8 (wH T) hr.m (!0) #[aK #[aG,!1,!2]])))),?_}
 ac_rfl;erw [mE];obtain ⟨dx,hp⟩:=hS.ob;show aE hp rfl λp1 hp1=>?_;let s1:=Ng (o:=.tup [V.str (Str.ofString "in"),V.str n,V.int (k:Int)]) hp1;show {L,D,R,.inp n k,hS.mv s1,Nl ae,rfl,(by let this:=(wr_gr (R:=R) (g:=.inp n k)).1.len;show bF this hl),λH' s2 h2=>q H' ((Nn s1).trans s2) h2}
def uD(T:Txt K mg t):FnOk P w K mg base CX0 2 t.f_16 t.e_16 ["self","kind","a","b"] (Ce w.params K t.C13):=by
 show T.d_16.F.ok Ln ∅ ?_;rintro cdv A outer s H vs Q E hr ⟨p,o,a,b,rfl,L,D,R,hS,_,hl,q⟩;show {_,(XSs.h (aj (ao (am T.c13.cl T.d_8 (wH T) hr.m (!0) #[aK #[!1,az (jp rfl) gl T.z20 boot_min #[!2,!3],az (xW rfl) gl T.z27 boot_max #[!2,!3]]])))),?_}
 ac_rfl;erw [mE];obtain ⟨dx,hp⟩:=hS.ob;show aE hp rfl λp1 hp1=>?_;rw [show (if (b:Int)<a then (b:Int) else a)=((min a b:Nat):Int) by split<;>omega,show (if (b:Int)>a then (b:Int) else a)=((max a b:Nat):Int) by split<;>omega];let s1:=Ng (o:=.tup [V.str o.str,V.int ((min a b:Nat):Int),V.int ((max a b:Nat):Int)]) hp1;show {L,D,R,.bin o (min a b) (max a b),hS.mv s1,Nl ae,rfl,(by let this:=(wr_gr (R:=R) (g:=.bin o (min a b) (max a b))).1.len;show bF this hl),λH' s2 h2=>q H' ((Nn s1).trans s2) h2}
def uC(T:Txt K mg t):FnOk P w K mg base CX0 1 t.f_17 t.e_17 ["self","wire","bit"] (C6 w.params K t.C13):=by
 show T.d_17.F.ok Lo ∅ ?_;rintro cdv A outer s H vs Q E hr ⟨p,a,b,rfl,L,D,R,hS,ha,q⟩;show {_,(XSs.h (aj (ao (bu (iA (n:=0) (kl On hr)) (aq aP (aL (!0) rfl) (!1)) (aK #[aG,!2]) (aH _))))),?_}
 ac_rfl;erw [];obtain ⟨dx,hp⟩:=hS.ob;obtain ⟨xs,q1,hL,hx,hq⟩:=hS.at (bN ha);show bS hp T.c13.cl T.n19 rfl ?_;show ixM hL hx λp1 hp1=>?_;let s1:=Ng (o:=.tup [V.str (Str.ofString "fix"),V.int b]) hp1;show {_,uQ (r':=.fix b) (s1.seqT hq) (Nl ae),?_};rw [ui ha];show q _ s1
def uB(T:Txt K mg t):FnOk P w K mg base CX0 1 t.f_18 t.e_18 ["self","a","b"] (C2 w.params K t.C13):=by
 show T.d_18.F.ok Lp ∅ ?_;rintro cdv A outer s H vs Q E hr ⟨p,a,b,rfl,L,D,R,hS,ha,hb,q⟩;show {_,(XSs.h (aj (ao (CO (bu (iA (n:=0) (kl On hr)) (aq aP (aL (!0) rfl) (!1)) (aK #[aG,!2]) (aH _)) (dB (bu (iA (n:=0) (kl On hr)) (aq aP (aL (!0) rfl) (!2)) (aK #[aG,!1]) (aH _))))))),?_}
 ac_rfl;erw [];obtain ⟨dx,hp⟩:=hS.ob;obtain ⟨xs,q1,hL,hx,hq⟩:=hS.at (bN ha);show bS hp T.c13.cl T.n19 rfl ?_;show ixM hL hx λp1 hp1=>?_;let s1:=Ng (o:=.tup [V.str (Str.ofString "not"),V.int (b:Int)]) hp1;show {_,uQ (r':=.nt b) (s1.seqT hq) (Nl ae),_,rfl,?_};rw [ui ha];unfold qD at q
 cases h1:decide (R[a]?=some (.nt b)) with
 |true=>
  rw [zq1 rfl];let z:=q _ s1;rw [h1,Bool.true_or] at z;show z
 |false=>rw [zq0 zq6];obtain ⟨dx1,hp1'⟩:=(hS.mv s1).ob;obtain ⟨xs1,q2,hL1,hx1,hq1⟩:=(hS.mv s1).at (bN hb);show bS hp1' T.c13.cl T.n19 rfl (ixM hL1 hx1 λp2 hp2=>?_);let s2:=Ng (o:=.tup [V.str (Str.ofString "not"),V.int (a:Int)]) hp2;show {_,uQ (r':=.nt a) (s2.seqT hq1) (Nl ae),?_};rw [ui hb];let z:=q _ (s1.trans s2);rw [h1,D1] at z;show z
def mf(T:Txt K mg t):FnOk P w K mg base CX0 3 t.f_11 t.e_11 ["self","a"] (FN w.params K t.C13 λa R=>fj R a):=by
 show T.d_11.F.ok sc_11 ∅ ?_;rintro cdv A outer s H vs Q E hr ⟨p,a,rfl,L,D,R,hS,ha,hl,q⟩;dsimp only at hl q;show {_,(XSs.h (af (aw (i:=2) sc_11.nd rfl ll (aq aP (aL (!0) rfl) (!1))) (af (aM (aA bi (aq aD (!2) ai) aG (aH _)) (aj (ao (am T.c13.cl T.d_9 (j7 T) hr.m (!0) #[ax dD ai (aq aD (!2) ai)]))) aF) (af (aM (aA bi (aq aD (!2) ai) aG (aH _)) (aj (ao (aq aD (!2) ai))) aF) (aj (ao (am T.c13.cl T.d_8 (wH T) hr.m (!0) #[aK #[aG,!1]]))))))),?_}
 ac_rfl;erw [];obtain ⟨dx,hp⟩:=hS.ob;let hRa:R[a]?=some R[a]:=bN ha;obtain ⟨xs,q1,hL,hx,hq⟩:=hS.at hRa;show bS hp T.c13.cl T.n19 rfl (ixM hL hx (later ?_));unfold fj at hl q;rw [hRa] at hl q;erw [kx,mE];generalize R[a]=r at hl q hq hRa
 cases r with
 |fix b=>
  show {_,_,hq,rfl,rfl,_,rfl,?_};rw [zq1 Os];show aE hp rfl {_,_,hq,rfl,?_};erw [kx];show ⟨L,D,R,hS,trivial,hl,q⟩
 |nt x=>
  show {_,_,hq,rfl,rfl,_,rfl,?_};rw [zq0 Ol];show later ?_;erw [mE];show {_,_,hq,rfl,rfl,_,rfl,?_};rw [zq1 Os];show {_,_,hq,rfl,q H SameB.refl hS}
 |inp n k=>
  show {_,_,hq,rfl,rfl,_,rfl,?_};rw [zq0 Ol];show later ?_;erw [mE];show {_,_,hq,rfl,rfl,_,rfl,?_};rw [zq0 Ol];show later ?_;erw [mE];show aE hp rfl λp1 hp1=>?_;let s1:=Ng (o:=.tup [V.str (Str.ofString "not"),V.int (a:Int)]) hp1;show {L,D,R,.nt a,hS.mv s1,Nl ae,rfl,(by let this:=(wr_gr (R:=R) (g:=.nt a)).1.len;show bF this hl),λH' s2 h2=>q H' ((Nn s1).trans s2) h2}
 |bin o x y=>
  show {_,_,hq,rfl,rfl,_,rfl,?_};rw [zq0 (by simpa using (fw o).1)];show later ?_;erw [mE];show {_,_,hq,rfl,rfl,_,rfl,?_};rw [zq0 (by simpa using (fw o).2.2.1)];show later ?_;erw [mE];show aE hp rfl λp1 hp1=>?_;let s1:=Ng (o:=.tup [V.str (Str.ofString "not"),V.int (a:Int)]) hp1;show {L,D,R,.nt a,hS.mv s1,Nl ae,rfl,(by let this:=(wr_gr (R:=R) (g:=.nt a)).1.len;show bF this hl),λH' s2 h2=>q H' ((Nn s1).trans s2) h2}
 |latch x=>show {_,_,hq,rfl,rfl,_,rfl,?_};rw [zq0 Ol];show later ?_;erw [mE];show {_,_,hq,rfl,rfl,_,rfl,?_};rw [zq0 Ol];show later ?_;erw [mE];show aE hp rfl λp1 hp1=>?_;let s1:=Ng (o:=.tup [V.str (Str.ofString "not"),V.int (a:Int)]) hp1;show {L,D,R,.nt a,hS.mv s1,Nl ae,rfl,(by let this:=(wr_gr (R:=R) (g:=.nt a)).1.len;show bF this hl),λH' s2 h2=>q H' ((Nn s1).trans s2) h2}
def GU(T:Txt K mg t):FnOk P w K mg base CX0 1 t.f_19 t.e_19 ["self"] (C7 w.params K t.C13):=by
 show T.d_19.F.ok Lq ∅ ?_;rintro cdv A outer s H vs Q E hr ⟨p,rfl,L,D,R,hS,_,hl,q⟩;show {_,(XSs.h (af (aT (bH Nk Ni Nj aS (aL (!0) rfl) #[aK #[aG,az aC gl T.z15 Nm #[aL (!0) rfl]]])) (aj (ao (ax dD (az aC gl T.z15 Nm #[aL (!0) rfl]) ai))))),?_}
 ac_rfl;erw [];obtain ⟨dx,hp⟩:=hS.ob;obtain ⟨xs,hL,hR⟩:=hS.rows;let lx:xs.length=R.length:=hR.length;show bS hp T.c13.cl T.n19 rfl {.inl {rfl,_,Nh hL},bS hp T.c13.cl T.n19 rfl {L,xs,rfl,.inl (Nh hL),λp1 hp1=>?_}};rw [lx];let s1:=Ng (o:=.tup [V.str (Str.ofString "latch"),V.int (R.length:Int)]) hp1;let hS1:=hS.mv s1;let hR1:=hR.ts s1.ts;let hg:SqT K (upd H p1 (.tup [V.str (Str.ofString "latch"),V.int (R.length:Int)])) p1 (Row.latch R.length).vs:=Nl ae;let hp2:=s1 _ _ hp;let hL1:=s1 _ _ hL;generalize upd H p1 (.tup [V.str (Str.ofString "latch"),V.int (R.length:Int)])=H1 at s1 hS1 hR1 hg hp2 hL1 ⊢;let hl':R.length+1<=100000:=by let this:=hl;simp [d6] at this;omega
 erw [];show {_,hL1,by rw [bB];omega,later ?_};obtain ⟨φ,hφ⟩:=hS1.ext;obtain ⟨kvs,hD,hkl,hkv⟩:=hS1.kn;let tt:TSame H1 (upd H1 L (.lst (xs++[.ref p1]))):=Nv hL1;let hp3:=(ak (H:=H1) (o:=.lst (xs++[.ref p1])) (aO hp2 hL1 (λz=>nomatch z))).trans hp2;let hS3:ShV w.params K t.C13 (upd H1 L (.lst (xs++[.ref p1]))) p L D (R++[Row.latch R.length]):=by
  show {⟨dx,hp3⟩,{_,ae,jJ {p1,rfl,tt.seqT hg} (hR1.ts tt)},kvs,oi hD tt (ak (aO hφ hL1 (λz=>nomatch z))),by simp;omega,λg hgl=>?_};rw [hkv g hgl];obtain ⟨e1,e2⟩:=Au (R:=R) (w:=R.length) hgl
  by_cases h:g∈R
  ·rw [zq1 h,zq1 (e1.mpr h),e2 h]
  ·rw [zq0 h,zq0 (λz=>h (e1.mp z))]
 let s3:SameB L D H (upd H1 L (.lst (xs++[.ref p1]))):=(Nn s1).trans NL;let hL3:upd H1 L (.lst (xs++[.ref p1])) L=some (.lst (xs++[.ref p1])):=ae;generalize upd H1 L (.lst (xs++[.ref p1]))=H3 at hp3 hS3 s3 hL3 ⊢;erw [];show bS hp3 T.c13.cl T.n19 rfl {L,_,rfl,.inl (Nh hL3),?_};rw [bW,dc,lx,show (((R.length+1:Nat):Int)-1)=((R.length:Nat):Int) by omega];show q H3 s3 hS3
def wF(T:Txt K mg t):FnOk P w K mg base CX0 1 t.f_20 t.e_20 ["self","latch","wire"] (xf w.params K t.C13):=by
 show T.d_20.F.ok Lr ∅ ?_;rintro cdv A outer s H vs Q E hr ⟨p,l,wi,rfl,L,D,R,hS,hlt,q⟩;show {_,(XSs.h (aj (kU (aK #[aG,!2]) (kT (aL (!0) rfl) (!1) jf)))),?_}
 ac_rfl;erw [];obtain ⟨dx,hp⟩:=hS.ob;obtain ⟨xs,hL,hR⟩:=hS.rows;obtain ⟨x,hx⟩:=hlt;let hll:l<R.length:=(zq7.mp hx).1;let lx:xs.length=R.length:=hR.length;intro p1 hp1;let s1:=Ng (o:=.tup [V.str (Str.ofString "latch"),V.int (wi:Int)]) hp1;let hS1:=hS.mv s1;let hR1:=hR.ts s1.ts;let hg:SqT K (upd H p1 (.tup [V.str (Str.ofString "latch"),V.int (wi:Int)])) p1 (Row.latch wi).vs:=Nl ae;let hp2:=s1 _ _ hp;let hL1:=s1 _ _ hL;generalize upd H p1 (.tup [V.str (Str.ofString "latch"),V.int (wi:Int)])=H1 at s1 hS1 hR1 hg hp2 hL1 ⊢;show bS hp2 T.c13.cl T.n19 rfl {L,xs,_,l,rfl,rfl,hL1,(by unfold ixN;rw [zq1 Oo,zq1 Oo,eh]),?_};obtain ⟨φ,hφ⟩:=hS1.ext;obtain ⟨kvs,hD,hkl,hkv⟩:=hS1.kn;let tt:TSame H1 (upd H1 L (.lst (xs.set l (.ref p1)))):=Nv hL1;show q _ ((Nn s1).trans NL) {{dx,by rw [ak (aO hp2 hL1 (λz=>nomatch z))];show hp2},{_,ae,sE {p1,rfl,tt.seqT hg} (hR1.ts tt)},kvs,oi hD tt (ak (aO hφ hL1 (λz=>nomatch z))),by unfold f9;rw [kA];show hkl,λg hgl=>?_};rw [hkv g hgl];obtain ⟨e1,e2⟩:=wq (w:=wi) hgl hx;rw [e2];simp only [e1]
def kM(T:Txt K mg t):FnOk P w K mg base CX0 3 t.f_12 t.e_12 ["self","a","b"] (xn w.params K t.C13 λa b R=>eF R a b):=by
 show T.d_12.F.ok Ll ∅ (λcdv A outer s H vs Q E hr h=>?_);obtain ⟨p,a,b,rfl,L,D,R,hS,⟨ha,hb⟩,hl,q⟩:=h;dsimp only at hl q;show {_,(XSs.h (af (aM (aV (am T.c13.cl T.d_18 (uB T) hr.m (!0) #[!1,!2])) (aj (ao (am T.c13.cl T.d_9 (j7 T) hr.m (!0) #[ai]))) aF) (af (aM (cq (cD (aA bi (!1) (!2) (aH _)) (cD (aV (am T.c13.cl T.d_17 (uC T) hr.m (!0) #[!1,ai])) (cQ (aV (am T.c13.cl T.d_17 (uC T) hr.m (!0) #[!2,ai])))))) (aj (ao (!1))) aF) (af (aM (cq (cD (aV (am T.c13.cl T.d_17 (uC T) hr.m (!0) #[!2,ai])) (cQ (aV (am T.c13.cl T.d_17 (uC T) hr.m (!0) #[!1,ai]))))) (aj (ao (!2))) aF) (aj (ao (am T.c13.cl T.d_16 (uD T) hr.m (!0) #[aG,!1,!2]))))))),?_}
 ac_rfl;erw [wR,kx,fc,gx];obtain ⟨dx,hp⟩:=hS.ob;unfold eF at hl q;show aE hp rfl ({L,D,R,hS,ha,hb,λH1 s1=>{_,rfl,?_}})
 cases h0:qD R a b with
 |true=>
  rw [h0,zq1 rfl] at hl q;rw [zq1 rfl];show aE (s1 _ _ hp) rfl ({L,D,R,hS.mv s1,trivial,hl,λH' s h=>q H' ((Nn s1).trans s) h})
 |false=>
 rw [h0,zq0 zq6] at hl q;rw [zq0 zq6];show later ?_;erw [fc,gx];let yes:(a=b\/isF R a 0=true\/isF R b 1=true)->∀H',Same H H'->Q (.int (a:Int)) H':=λc H' s=>by rw [zq1 c] at q;show q H' (Nn s) (hS.mv s)
 by_cases e1:a=b
 ·rw [zq1 (bX (by rw [e1])),zq1 trivial];show yes (.inl e1) _ s1
 rw [zq0 (λz=>e1 (by let this:=of_decide_eq_true z;omega))];show aE (s1 _ _ hp) rfl ({L,D,R,hS.mv s1,ha,λH2 s2=>{_,rfl,?_}});let s12:=s1.trans s2
 cases h1:isF R a 0 with
 |true=>rw [zq1 rfl,zq1 trivial];show yes (.inr (.inl h1)) _ s12
 |false=>
 rw [zq0 zq6];show aE (s12 _ _ hp) rfl ({L,D,R,hS.mv s12,hb,λH3 s3=>{_,rfl,?_}});let s13:=s12.trans s3
 cases h2:isF R b 1 with
 |true=>rw [zq1 rfl];show yes (.inr (.inr h2)) _ s13
 |false=>
 rw [zq0 zq6];rw [zq0 (λc=>c.elim e1 λc=>by rw [h1,h2] at c;rcases c with c | c<;>cases c)] at hl q;clear yes;let yes:(isF R b 0=true\/isF R a 1=true)->∀H',Same H H'->Q (.int (b:Int)) H':=λc H' s=>by rw [zq1 c] at q;show q H' (Nn s) (hS.mv s)
 show later ?_;erw [fc,gx];show aE (s13 _ _ hp) rfl ({L,D,R,hS.mv s13,hb,λH4 s4=>{_,rfl,?_}});let s14:=s13.trans s4
 cases h3:isF R b 0 with
 |true=>rw [zq1 rfl,zq1 trivial];show yes (.inl h3) _ s14
 |false=>
 rw [zq0 zq6];show aE (s14 _ _ hp) rfl ({L,D,R,hS.mv s14,ha,λH5 s5=>{_,rfl,?_}});let s15:=s14.trans s5
 cases h4:isF R a 1 with
 |true=>rw [zq1 rfl];show yes (.inr h4) _ s15
 |false=>
 rw [zq0 zq6];rw [zq0 (λc=>by rw [h3,h4] at c;rcases c with c | c<;>cases c)] at hl q;show later ?_;erw [];show aE (s15 _ _ hp) rfl ?_;rw [show (Str.ofString "and")=Bop.str .and from rfl,gx];show {L,D,R,hS.mv s15,trivial,hl,λH' s h=>q H' ((Nn s15).trans s) h}
def jD(T:Txt K mg t):FnOk P w K mg base CX0 3 t.f_13 t.e_13 ["self","a","b"] (xn w.params K t.C13 λa b R=>dg R a b):=by
 show T.d_13.F.ok Lm ∅ (λcdv A outer s H vs Q E hr h=>?_);obtain ⟨p,a,b,rfl,L,D,R,hS,⟨ha,hb⟩,hl,q⟩:=h;dsimp only at hl q;show {_,(XSs.h (af (aM (aV (am T.c13.cl T.d_18 (uB T) hr.m (!0) #[!1,!2])) (aj (ao (am T.c13.cl T.d_9 (j7 T) hr.m (!0) #[ai]))) aF) (af (aM (cq (cD (aA bi (!1) (!2) (aH _)) (cD (aV (am T.c13.cl T.d_17 (uC T) hr.m (!0) #[!1,ai])) (cQ (aV (am T.c13.cl T.d_17 (uC T) hr.m (!0) #[!2,ai])))))) (aj (ao (!1))) aF) (af (aM (cq (cD (aV (am T.c13.cl T.d_17 (uC T) hr.m (!0) #[!2,ai])) (cQ (aV (am T.c13.cl T.d_17 (uC T) hr.m (!0) #[!1,ai]))))) (aj (ao (!2))) aF) (aj (ao (am T.c13.cl T.d_16 (uD T) hr.m (!0) #[aG,!1,!2]))))))),?_}
 ac_rfl;erw [wR,kx,fc,gx];obtain ⟨dx,hp⟩:=hS.ob;unfold dg at hl q;show aE hp rfl ({L,D,R,hS,ha,hb,λH1 s1=>{_,rfl,?_}})
 cases h0:qD R a b with
 |true=>
  rw [h0,zq1 rfl] at hl q;rw [zq1 rfl];show aE (s1 _ _ hp) rfl ({L,D,R,hS.mv s1,trivial,hl,λH' s h=>q H' ((Nn s1).trans s) h})
 |false=>
 rw [h0,zq0 zq6] at hl q;rw [zq0 zq6];show later ?_;erw [fc,gx];let yes:(a=b\/isF R a 1=true\/isF R b 0=true)->∀H',Same H H'->Q (.int (a:Int)) H':=λc H' s=>by rw [zq1 c] at q;show q H' (Nn s) (hS.mv s)
 by_cases e1:a=b
 ·rw [zq1 (bX (by rw [e1])),zq1 trivial];show yes (.inl e1) _ s1
 rw [zq0 (λz=>e1 (by let this:=of_decide_eq_true z;omega))];show aE (s1 _ _ hp) rfl ({L,D,R,hS.mv s1,ha,λH2 s2=>{_,rfl,?_}});let s12:=s1.trans s2
 cases h1:isF R a 1 with
 |true=>rw [zq1 rfl,zq1 trivial];show yes (.inr (.inl h1)) _ s12
 |false=>
 rw [zq0 zq6];show aE (s12 _ _ hp) rfl ({L,D,R,hS.mv s12,hb,λH3 s3=>{_,rfl,?_}});let s13:=s12.trans s3
 cases h2:isF R b 0 with
 |true=>rw [zq1 rfl];show yes (.inr (.inr h2)) _ s13
 |false=>
 rw [zq0 zq6];rw [zq0 (λc=>c.elim e1 λc=>by rw [h1,h2] at c;rcases c with c | c<;>cases c)] at hl q;clear yes;let yes:(isF R b 1=true\/isF R a 0=true)->∀H',Same H H'->Q (.int (b:Int)) H':=λc H' s=>by rw [zq1 c] at q;show q H' (Nn s) (hS.mv s)
 show later ?_;erw [fc,gx];show aE (s13 _ _ hp) rfl ({L,D,R,hS.mv s13,hb,λH4 s4=>{_,rfl,?_}});let s14:=s13.trans s4
 cases h3:isF R b 1 with
 |true=>rw [zq1 rfl,zq1 trivial];show yes (.inl h3) _ s14
 |false=>
 rw [zq0 zq6];show aE (s14 _ _ hp) rfl ({L,D,R,hS.mv s14,ha,λH5 s5=>{_,rfl,?_}});let s15:=s14.trans s5
 cases h4:isF R a 0 with
 |true=>rw [zq1 rfl];show yes (.inr h4) _ s15
 |false=>
 rw [zq0 zq6];rw [zq0 (λc=>by rw [h3,h4] at c;rcases c with c | c<;>cases c)] at hl q;show later ?_;erw [];show aE (s15 _ _ hp) rfl ?_;rw [show (Str.ofString "or")=Bop.str .or from rfl,gx];show {L,D,R,hS.mv s15,trivial,hl,λH' s h=>q H' ((Nn s15).trans s) h}
def B1(T:Txt K mg t):FnOk P w K mg base CX0 4 t.f_14 t.e_14 ["self","a","b"] (xn w.params K t.C13 λa b R=>cY R a b):=by
 show T.d_14.F.ok sc_14 ∅ (λcdv A outer s H vs Q E hr h=>?_);obtain ⟨p,a,b,rfl,L,D,R,hS,⟨ha,hb⟩,hl,q⟩:=h;dsimp only at hl q;show {_,(XSs.h (af (aM (aA bi (!1) (!2) (aH _)) (aj (ao (am T.c13.cl T.d_9 (j7 T) hr.m (!0) #[ai]))) aF) (af (aM (aV (am T.c13.cl T.d_18 (uB T) hr.m (!0) #[!1,!2])) (aj (ao (am T.c13.cl T.d_9 (j7 T) hr.m (!0) #[ai]))) aF) (af (bv PassesOwn.never rfl (qi (aK #[aK #[!1,!2],aK #[!2,!1]])) (cy rfl (aQ (ay (i:=3) sc_14.nd rfl ll) (aQ (ay (i:=4) sc_14.nd rfl ll) bV))) (af (aM (aV (am T.c13.cl T.d_17 (uC T) hr.m (!0) #[!3,ai])) (aj (ao (!4))) aF) (aj (aM (aV (am T.c13.cl T.d_17 (uC T) hr.m (!0) #[!3,ai])) (aj (ao (am T.c13.cl T.d_11 (mf T) hr.m (!0) #[!4]))) aF)))) (aj (ao (am T.c13.cl T.d_16 (uD T) hr.m (!0) #[aG,!1,!2]))))))),?_}
 ac_rfl;erw [wR,kx,fc,gx];obtain ⟨dx,hp⟩:=hS.ob;unfold cY at hl q
 by_cases e1:a=b
 ·rw [zq1 (bX (by rw [e1]))];rw [zq1 e1] at hl q;show aE hp rfl (⟨L,D,R,hS,trivial,hl,q⟩)
 rw [zq0 (λz=>e1 (by let this:=of_decide_eq_true z;omega))];rw [zq0 e1] at hl q;show later ?_;erw [wR,kx,fc,gx];show aE hp rfl ({L,D,R,hS,ha,hb,λH1 s1=>{_,rfl,?_}})
 cases h0:qD R a b with
 |true=>
  rw [h0,zq1 rfl] at hl q;rw [zq1 rfl];show aE (s1 _ _ hp) rfl ({L,D,R,hS.mv s1,trivial,hl,λH' s h=>q H' ((Nn s1).trans s) h})
 |false=>
 rw [h0,zq0 zq6] at hl q;rw [zq0 zq6];show later ?_;erw [fc,gx];intro p2 hp2 p3 hp3 p4 hp4;let u2:=Ng (o:=.tup [V.int (a:Int),V.int (b:Int)]) hp2;let u3:=Ng (o:=.tup [V.int (b:Int),V.int (a:Int)]) hp3;let u4:=Ng (o:=.tup [V.ref p2,V.ref p3]) hp4;let s4:=((s1.trans u2).trans u3).trans u4;let e2:=u4 _ _ (u3 _ _ (ae (H:=H1) (a:=p2) (o:=.tup [V.int (a:Int),V.int (b:Int)])));let e3:=u4 _ _ (ae (H:=upd H1 p2 (.tup [V.int (a:Int),V.int (b:Int)])) (a:=p3) (o:=.tup [V.int (b:Int),V.int (a:Int)]));let e4:upd (upd (upd H1 p2 (.tup [V.int (a:Int),V.int (b:Int)])) p3 (.tup [V.int (b:Int),V.int (a:Int)])) p4 (.tup [V.ref p2,V.ref p3]) p4=some (.tup [V.ref p2,V.ref p3]):=ae;generalize upd (upd (upd H1 p2 (.tup [V.int (a:Int),V.int (b:Int)])) p3 (.tup [V.int (b:Int),V.int (a:Int)])) p4 (.tup [V.ref p2,V.ref p3])=H4 at s4 e2 e3 e4 ⊢;clear u2 u3 u4 hp2 hp3 hp4;show {{_,Nl e4},GB (xs:=[V.ref p2,V.ref p3]) (λi σ H'=>Same H4 H'/\(1<=i->isF R a 0=false/\isF R a 1=false)/\(2<=i->isF R b 0=false/\isF R b 1=false)/\∃o3 o4,σ=[some (.ref p),some (.int (a:Int)),some (.int (b:Int)),o3,o4]) {Nq _,(λh=>absurd h On),(λh=>absurd h On),_,_,rfl} ?_ ?_ ?_}
 ·rintro i σ H' _ ⟨sm,_⟩;show Nl (sm _ _ e4)
 ·rintro i x σ H5 hxi ⟨sm,c1,c2,o3,o4,rfl⟩;let s5:=s4.trans sm
  match i,hxi with
  |0,hxi=>
   cases hxi
   erw [fc,jc];show {_,Nl (sm _ _ e2),rfl,?_};erw [fc,jc];show aE (s5 _ _ hp) rfl ({L,D,R,hS.mv s5,ha,λH6 s6=>{_,rfl,?_}});let s56:=s5.trans s6
   cases h1:isF R a 0 with
   |true=>
    rw [h1,zq1 rfl] at q;rw [zq1 rfl];show q _ (Nn s56) (hS.mv s56)
   |false=>
   rw [h1,zq0 zq6] at hl q;rw [zq0 zq6];show later ?_;erw [fc,jc];show aE (s56 _ _ hp) rfl ({L,D,R,hS.mv s56,ha,λH7 s7=>{_,rfl,?_}});let s57:=s56.trans s7
   cases h2:isF R a 1 with
   |true=>
    rw [h2,zq1 rfl] at hl q;rw [zq1 rfl];show aE (s57 _ _ hp) rfl ({L,D,R,hS.mv s57,hb,hl,λH' s h=>q H' ((Nn s57).trans s) h})
   |false=>
   rw [zq0 zq6];show {(sm.trans s6).trans s7,(λ_=>by first | show ⟨h1,h2⟩ | show ⟨rfl,rfl⟩ | show h2 | rfl | trivial),(λh=>absurd h On),_,_,rfl}
  |1,hxi=>
   cases hxi
   obtain ⟨d1,d2⟩:=c1 On;rw [d1,zq0 zq6,d2,zq0 zq6] at hl q;erw [fc,jc];show {_,Nl (sm _ _ e3),rfl,?_};erw [fc,jc];show aE (s5 _ _ hp) rfl ({L,D,R,hS.mv s5,hb,λH6 s6=>{_,rfl,?_}});let s56:=s5.trans s6
   cases h1:isF R b 0 with
   |true=>
    rw [h1,zq1 rfl] at q;rw [zq1 rfl];show q _ (Nn s56) (hS.mv s56)
   |false=>
   rw [h1,zq0 zq6] at hl q;rw [zq0 zq6];show later ?_;erw [fc,jc];show aE (s56 _ _ hp) rfl ({L,D,R,hS.mv s56,hb,λH7 s7=>{_,rfl,?_}});let s57:=s56.trans s7
   cases h2:isF R b 1 with
   |true=>
    rw [h2,zq1 rfl] at hl q;rw [zq1 rfl];show aE (s57 _ _ hp) rfl ({L,D,R,hS.mv s57,ha,hl,λH' s h=>q H' ((Nn s57).trans s) h})
   |false=>
   rw [zq0 zq6];show {(sm.trans s6).trans s7,λ_=>⟨d1,d2⟩,(λ_=>by first | show ⟨h1,h2⟩ | show ⟨rfl,rfl⟩ | show h2 | rfl | trivial),_,_,rfl}
  |i+2,hxi=>simp at hxi
 ·rintro σ H5 ⟨sm,c1,c2,o3,o4,rfl⟩;obtain ⟨d1,d2⟩:=c1 (show 1<=2 by decide);obtain ⟨d3,d4⟩:=c2 (show 2<=2 by decide);rw [d1,zq0 zq6,d2,zq0 zq6,d3,zq0 zq6,d4,zq0 zq6] at hl q;let s5:=s4.trans sm;dsimp only;show later ?_;erw [];show aE (s5 _ _ hp) rfl ?_;rw [show (Str.ofString "xor")=Bop.str .xor from rfl,gx];show {L,D,R,hS.mv s5,trivial,hl,λH' s h=>q H' ((Nn s5).trans s) h}
def zF(pr:Params)(K:N5)(C p a:Addr)(H:Hp)(Q:VK):Prop:=∃(L D:Addr)(R:Rs)(ws:be),ShV pr K C H p L D R/\H a=some (.lst (ws.map λx:Nat=>V.int (x:Int)))/\a≠L/\(∀x∈ws,x<R.length)/\(∃ins wd,Fm ins wd R)/\(dW R ws).1.length<=100000/\∀H',SameB L D H H'->ShV pr K C H' p L D (dW R ws).1->Q (.int ((dW R ws).2:Nat)) H'
def C1(pr:Params)(K:N5)(C:Addr):Sp:=λvs H Q _=>∃p a:Addr,vs=[.ref p,.ref a]/\zF pr K C p a H Q
def jH{pr:Params}{C p a:Addr}{H:Hp}{Q:VK}{E:XK}:C1 pr K C [.ref p,.ref a] H Q E=zF pr K C p a H Q:=∅
def Ek{R:Rs}{f:Nat}{ws:be}{i:Nat}:(fL R f (ws.take i)).1.length<=(fL R f ws).1.length:=by
 let e:ws=ws.take i++ws.drop i:=(kE i ws).symm;let key:∀(b a:be)(R:Rs)(f:Nat),(fL R f a).1.length<=(fL R f (a++b)).1.length:=by
  intro b
  induction b with
  |nil=>intro a R f;rw [iD];show zq4 _
  |cons x b ih=>intro a R f;let z:=ih (a++[x]) R f;rw [kD,xR] at z;show bF ?_ z;rw [jF];show either_gr.1.len
 let z:=key (ws.drop i) (ws.take i) R f;rw [kE] at z;show z
def gG(T:Txt K mg t):FnOk P w K mg base CX0 4 t.f_15 t.e_15 ["self","wires"] (C1 w.params K t.C13):=by
 show T.d_15.F.ok sc_15 ∅ (λcdv A outer s H vs Q E hr h=>?_);obtain ⟨p,a,rfl,L,D,R,ws,hS,ha,naL,hws,⟨ins,wd,hF⟩,hl,q⟩:=h;show {_,(XSs.h (af (aw (i:=2) sc_15.nd rfl ll (am T.c13.cl T.d_9 (j7 T) hr.m (!0) #[ai])) (af (bv PassesOwn.never rfl (aX (!1)) (ay (i:=3) sc_15.nd rfl ll) (aj (aw (i:=2) sc_15.nd rfl ll (am T.c13.cl T.d_13 (jD T) hr.m (!0) #[!2,!3])))) (aj (ao (!2)))))),?_}
 ac_rfl;erw [kx];obtain ⟨dx,hp⟩:=hS.ob;unfold dW at hl q;let g0:=(wr_gr (R:=R) (g:=.fix 0)).1;let w0:=dO hF (.inl rfl:(0:Int)=0\/_);show aE hp rfl ({L,D,R,hS,trivial,bF (pX (ws:=ws)).1.len hl,λH1 s1 hS1=>later ?_});obtain ⟨φ,hφ⟩:=hS.ext;let naD:a≠D:=aO ha hφ (λz=>nomatch z);let ha1:=s1 _ _ ha naL naD;generalize hR0:(cr R 0).1=R0 at hS1 hl q;generalize hf0:(cr R 0).2=f0 at hl q;let w1:Fm ins wd R0:=by rw [<- hR0];show w0.1
 let w2:f0<R0.length:=by rw [<- hR0,<- hf0];show w0.2
 let hws0:∀x∈ws,x<R0.length:=λx hx=>by rw [<- hR0];show bT (hws x hx) g0.len
 erw [];show {{_,Nh ha1},eC (xs:=ws.map λx:Nat=>V.int (x:Int)) (λi σ H'=>SameB L D H H'/\ShV w.params K t.C13 H' p L D (fL R0 f0 (ws.take i)).1/\∃o3,σ=[some (.ref p),some (.ref a),some (.int ((fL R0 f0 (ws.take i)).2:Nat)),o3]) {s1,hS1,_,rfl} ?_ ?_ ?_}
 ·rintro i σ H' _ ⟨sm,_⟩;show Nh (sm _ _ ha naL naD)
 ·rintro i x σ H2 hxi ⟨sm,hS2,o3,rfl⟩;rw [bP] at hxi;obtain ⟨x,hx,rfl⟩:=zq30.mp hxi;let hi:i<ws.length:=(zq7.mp hx).1;let hxe:ws[i]=x:=(zq7.mp hx).2;let et:fL R0 f0 (ws.take (i+1))=dg (fL R0 f0 (ws.take i)).1 (fL R0 f0 (ws.take i)).2 x:=by rw [dH hi,hxe,jF]
  let hw:=uJ (ws:=ws.take i) w1 w2 λy hy=>hws0 y (i9 hy);let gl:=(pX (R:=R0) (f:=f0) (ws:=ws.take i)).1.len;let hb:=Ek (R:=R0) (f:=f0) (ws:=ws) (i:=i+1);rw [et] at hb ⊢;obtain ⟨dx2,hp2⟩:=hS2.ob;erw [gf];show aE hp2 rfl ({L,D,_,hS2,{hw.2,bT (hws0 x (bR hx)) gl},bF hb hl,λH3 s3 hS3=>?_});show {sm.trans s3,hS3,_,rfl}
 ·rintro σ H2 ⟨sm,hS2,o3,rfl⟩;rw [zq3,eA] at hS2 ⊢;dsimp only;show later ?_;erw [];show q H2 sm hS2
def aN(ws:be):N7:=ws.map λx:Nat=>V.int (x:Int)
def gT{ws:be}{i x:Nat}(h:ws[i]?=some x):(aN ws)[i]?=some (.int (x:Int)):=by unfold aN;rw [bP,h];rfl
def natL_snoc{ws:be}{x:Nat}:aN (ws++[x])=aN ws++[.int (x:Int)]:=by unfold aN;rw [dN];rfl
def aW{ws:be}:(aN ws).length=ws.length:=zq3 ..
def dE(pr:Params)(K:N5)(C p:Addr)(H:Hp)(Q:VK)(f:Rs->Rs×be)(W:Rs->Addr->Prop):Prop:=∃(L D:Addr)(R:Rs),ShV pr K C H p L D R/\(∃ins wd,Fm ins wd R)/\W R L/\(f R).1.length<=100000/\∀l H',SameB L D H H'->H l=none->H' l=some (.lst (aN (f R).2))->ShV pr K C H' p L D (f R).1->Q (.ref l) H'
def eV{α:Type}{f:Rs->α->Rs×Nat}(hf:∀R x,Pre R (f R x).1){xs:List α}{R:Rs}{i:Nat}:(aY f R (xs.take i)).1.length<=(aY f R xs).1.length:=by
 let key:∀(b a:List α),(aY f R a).1.length<=(aY f R (a++b)).1.length:=by
  intro b
  induction b with
  |nil=>intro a;rw [iD];show zq4 _
  |cons x b ih=>intro a;let z:=ih (a++[x]);rw [kD,xR] at z;show bF ?_ z;rw [bC];show (hf _ _).len
 let z:=key (xs.drop i) (xs.take i);rw [kE] at z;show z
section
variable {pr:Params} {K:N5} {C p L D acc:Addr} {R:Rs} {te:TE} {ci:be} {σ:L2.St} {H1:Hp} {Q:Hp->Prop}
def ShC(pr:Params)(K:N5)(C p L D acc:Addr)(H1:Hp)(q:Rs×be)(zs:N7)(H:Hp):Prop:=SameB L D H1 H/\ShV pr K C H p L D q.1/\zs=aN q.2/\H acc=some (.lst zs)
def ShC.start(hS:ShV pr K C H1 p L D R)(ha:H1 acc=none):ShC pr K C p L D acc H1 (R,[]) [] (upd H1 acc (.lst [])):={Nn (Ng ha),hS.mv (Ng ha),rfl,ae}
def NF:=@ShC.start
def ShC.next{q:Rs×be}{zs:N7}{H H2:Hp}{g:Rs×Nat}(h:ShC pr K C p L D acc H1 q zs H)(ha:H1 acc=none)(nL:acc≠L)(nD:acc≠D)(s2:SameB L D H H2)(hS2:ShV pr K C H2 p L D g.1)(hl:q.2.length<=100000):
  H2 acc=some (.lst zs)/\zs.length<sizeLine/\ShC pr K C p L D acc H1 (g.1,q.2++[g.2]) (zs++[.int (g.2:Int)]) (upd H2 acc (.lst (zs++[.int (g.2:Int)]))):=by
 obtain ⟨s1,_,rfl,ea⟩:=h;let e2:=s2 _ _ ea nL nD;show {e2,by rw [aW,bB];omega,λc o e n1 n2=>?_,?_,natL_snoc.symm,ae}
 ·rw [ak (λz=>by rw [z,ha] at e;cases e)];show s2 c o (s1 c o e n1 n2) n1 n2
 ·let tt:TSame H2 (upd H2 acc (.lst (aN q.2++[.int (g.2:Int)]))):=Nv e2;obtain ⟨⟨dx,e⟩,⟨xs,h1,h2⟩,kvs,h3,h4⟩:=hS2;let npa:p≠acc:=aO e e2 (λz=>nomatch z);show {{dx,by rw [ak npa];show e},{xs,by rw [ak nL.symm];show h1,h2.ts tt},kvs,oi h3 tt (ak nD.symm),h4}
def ShV.ne_new(hS:ShV pr K C H1 p L D R)(ha:H1 acc=none):acc≠L/\acc≠D:=by obtain ⟨xs,h1,_⟩:=hS.rows;obtain ⟨φ,h2⟩:=hS.ext;show {(λz=>by rw [z,h1] at ha;cases ha),(λz=>by rw [z,h2] at ha;cases ha)}
def kI{f:Rs->Nat->Nat->Rs×Nat}{tg:TG}{a b:Addr}{xs ys:be}(hxy:xs.length=ys.length)(hS:ShV pr K C H1 p L D R)(hacc:H1 acc=none)(ha:H1 a=some (.lst (aN xs)))(hb:H1 b=some (.lst (aN ys)))(na:a≠L)(nb:b≠L)(hf:∀R x y,Pre R (f R x y).1)(hl:(tQ f R xs ys).1.length<=100000)(h1:xs.length<=100000)
  (htg:∀(os:List N8) (pp:Addr) (x y:V) (H:Hp) (Z:L2.St->Hp->Prop),os.length=2->H pp=some (.tup [x,y])->((∃os',os'.length=2/\aI [some x,some y] ci σ=aI os' ci σ)->Z (aI [some x,some y] ci σ) H)->tg (.ref pp) (aI os ci σ) H Z)
  (hs:∀(i x y:Nat)(H:Hp)(Q':VK),xs[i]?=some x->ys[i]?=some y->ShV pr K C H p L D (aY (λR (p:Nat×Nat)=>f R p.1 p.2) R ((xs.zip ys).take i)).1->(f (aY (λR (p:Nat×Nat)=>f R p.1 p.2) R ((xs.zip ys).take i)).1 x y).1.length<=100000->
   (∀H',SameB L D H H'->ShV pr K C H' p L D (f (aY (λR (p:Nat×Nat)=>f R p.1 p.2) R ((xs.zip ys).take i)).1 x y).1->Q' (.int ((f (aY (λR (p:Nat×Nat)=>f R p.1 p.2) R ((xs.zip ys).take i)).1 x y).2:Nat)) H')->te (aI [some (.int (x:Int)),some (.int (y:Int))] ci σ) H Q')
  (q:∀H',SameB L D H1 H'->ShV pr K C H' p L D (tQ f R xs ys).1->H' acc=some (.lst (aN (tQ f R xs ys).2))->Q H'):c5 (Itz K a b) tg ff te 2 ci σ acc Q (upd H1 acc (.lst [])):=by
 obtain ⟨nL,nD⟩:=hS.ne_new hacc;obtain ⟨φ,hφ⟩:=hS.ext;let naD:a≠D:=aO ha hφ (λz=>nomatch z);let nbD:b≠D:=aO hb hφ (λz=>nomatch z);let lz:(xs.zip ys).length=xs.length:=by rw [jV];omega
 show Gq (xs:=aN xs) (ys:=aN ys) (by rw [aW,aW,hxy]) (λi zs H=>ShC pr K C p L D acc H1 (aY (λR (p:Nat×Nat)=>f R p.1 p.2) R ((xs.zip ys).take i)) zs H) (NF hS hacc) ?_ ?_ ?_
 ·rintro i zs H _ ⟨sm,_⟩;show {Nh (sm _ _ ha na naD),Nh (sm _ _ hb nb nbD)}
 ·rintro i x y zs H pp os hx hy ho hpp hC;obtain ⟨x,hx',rfl⟩:=zq30.mp (by unfold aN at hx;rw [bP] at hx;show hx);obtain ⟨y,hy',rfl⟩:=zq30.mp (by unfold aN at hy;rw [bP] at hy;show hy);let hi:i<(xs.zip ys).length:=by rw [lz];show (zq7.mp hx').1
  let hz:(xs.zip ys)[i]=(x,y):=by
   let z:(xs.zip ys)[i]?=some (x,y):=by rw [zq69];show ⟨hx',hy'⟩
   show (zq7.mp z).2
  let et:(xs.zip ys).take (i+1)=(xs.zip ys).take i++[(x,y)]:=by rw [dH hi,hz]
  let hb:=eV (f:=λR (p:Nat×Nat)=>f R p.1 p.2) (λR x=>hf R x.1 x.2) (xs:=xs.zip ys) (R:=R) (i:=i+1);rw [et,bC] at hb;rw [et,bC];let s2:=Ng (o:=.tup [V.int (x:Int),V.int (y:Int)]) hpp;let lq:(aY (λR (p:Nat×Nat)=>f R p.1 p.2) R ((xs.zip ys).take i)).2.length<=100000:=by rw [dq,dz];omega
  show htg os pp _ _ _ _ ho ae λe=>{e,?_}
  unfold ff;dsimp only;rw [zq1 rfl];show hs i x y _ _ hx' hy' (hC.2.1.mv s2) (bF hb hl) λH' s3 hS3=>?_;show hC.next hacc nL nD ((Nn s2).trans s3) hS3 lq
 ·rintro zs H ⟨sm,hS2,rfl,ea⟩;rw [aW,<- lz,eA] at hS2 ea;show q H sm hS2 ea
end
section
variable {pr:Params} {K:N5} {C p L D acc:Addr} {R:Rs} {te:TE} {ci:be} {σ:L2.St} {H1:Hp} {Q:Hp->Prop}
def zX{f:Rs->Nat->Rs×Nat}{a:Addr}{xs:be}(hS:ShV pr K C H1 p L D R)(hacc:H1 acc=none)(ha:H1 a=some (.lst (aN xs)))(na:a≠L)(hf:∀R x,Pre R (f R x).1)(hl:(aY f R xs).1.length<=100000)(h1:xs.length<=100000)
  (hs:∀(i x:Nat)(H:Hp)(Q':VK),xs[i]?=some x->ShV pr K C H p L D (aY f R (xs.take i)).1->(f (aY f R (xs.take i)).1 x).1.length<=100000->(∀H',SameB L D H H'->ShV pr K C H' p L D (f (aY f R (xs.take i)).1 x).1->Q' (.int ((f (aY f R (xs.take i)).1 x).2:Nat)) H')->te (aI [some (.int (x:Int))] ci σ) H Q')
  (q:∀H',SameB L D H1 H'->ShV pr K C H' p L D (aY f R xs).1->H' acc=some (.lst (aN (aY f R xs).2))->Q H'):c5 (Itl K a) (bI 1) ff te 1 ci σ acc Q (upd H1 acc (.lst [])):=by
 obtain ⟨nL,nD⟩:=hS.ne_new hacc;obtain ⟨φ,hφ⟩:=hS.ext;let naD:a≠D:=aO ha hφ (λz=>nomatch z);show cL (xs:=aN xs) (λi zs H=>ShC pr K C p L D acc H1 (aY f R (xs.take i)) zs H) (NF hS hacc) ?_ ?_ ?_
 ·rintro i zs H _ ⟨sm,_⟩;show Nh (sm _ _ ha na naD)
 ·rintro i x zs H os hx ho hC;obtain ⟨x,hx',rfl⟩:=zq30.mp (by unfold aN at hx;rw [bP] at hx;show hx);let hi:i<xs.length:=(zq7.mp hx').1;let et:xs.take (i+1)=xs.take i++[x]:=by rw [dH hi,(zq7.mp hx').2]
  let hb:=eV hf (xs:=xs) (R:=R) (i:=i+1);rw [et,bC] at hb;rw [et,bC];let lq:(aY f R (xs.take i)).2.length<=100000:=by rw [dq,dz];omega
  let e:(aI os ci σ).set 1 (some (V.int (x:Int)))=aI [some (.int (x:Int))] ci σ:=by
   match os,ho with
   | [o],_=>rfl
  change (∃os',os'.length=1/\(aI os ci σ).set 1 (some (V.int (x:Int)))=aI os' ci σ)/\ff ((aI os ci σ).set 1 (some (V.int (x:Int)))) H _;rw [e];show {{_,rfl,rfl},?_};unfold ff;dsimp only;rw [zq1 rfl];show hs i x _ _ hx' hC.2.1 (bF hb hl) λH' s3 hS3=>hC.next hacc nL nD s3 hS3 lq
 ·rintro zs H ⟨sm,hS2,rfl,ea⟩;rw [aW,eA] at hS2 ea;show q H sm hS2 ea
def iM{f:Rs->Nat->Rs×Nat}{n:Nat}(hS:ShV pr K C H1 p L D R)(hacc:H1 acc=none)(hf:∀R x,Pre R (f R x).1)(hl:(aY f R (List.range n)).1.length<=100000)(h1:n<=100000)
  (hs:∀(i:Nat)(H:Hp)(Q':VK),i<n->SameB L D H1 H->ShV pr K C H p L D (aY f R (List.range i)).1->(f (aY f R (List.range i)).1 i).1.length<=100000->(∀H',SameB L D H H'->ShV pr K C H' p L D (f (aY f R (List.range i)).1 i).1->Q' (.int ((f (aY f R (List.range i)).1 i).2:Nat)) H')->te (aI [some (.int (i:Int))] ci σ) H Q')
  (q:∀H',SameB L D H1 H'->ShV pr K C H' p L D (aY f R (List.range n)).1->H' acc=some (.lst (aN (aY f R (List.range n)).2))->Q H'):c5 (Itr 0 n) (bI 1) ff te 1 ci σ acc Q (upd H1 acc (.lst [])):=by
 obtain ⟨nL,nD⟩:=hS.ne_new hacc;show iL (n:=n) (λi zs H=>ShC pr K C p L D acc H1 (aY f R (List.range i)) zs H) (NF hS hacc) ?_ ?_
 ·rintro i zs H os hi ho hC;let hb:=eV hf (xs:=List.range n) (R:=R) (i:=i+1);rw [List.take_range,qm Oo,zt,bC] at hb;rw [zt,bC];let lq:(aY f R (List.range i)).2.length<=100000:=by rw [dq,fi];omega
  let e:(aI os ci σ).set 1 (some (V.int (0+(i:Int))))=aI [some (.int (i:Int))] ci σ:=by
   rw [xH]
   match os,ho with
   | [o],_=>rfl
  change (∃os',os'.length=1/\(aI os ci σ).set 1 (some (V.int (0+(i:Int))))=aI os' ci σ)/\ff ((aI os ci σ).set 1 (some (V.int (0+(i:Int))))) H _;rw [e];show {{_,rfl,rfl},?_};unfold ff;dsimp only;rw [zq1 rfl];show hs i _ _ hi hC.1 hC.2.1 (bF hb hl) λH' s3 hS3=>hC.next hacc nL nD s3 hS3 lq
 ·rintro zs H ⟨sm,hS2,rfl,ea⟩;show q H sm hS2 ea
end
variable {c:Nat}
section
variable {pr:Params} {K:N5} {C p L D:Addr} {H H':Hp} {R R':Rs}
def ShV.free(h:ShV pr K C H' p L D R')(s:SameB L D H H'){c:Addr}(e:H' c=none):H c=none:=by
 obtain ⟨nL,nD⟩:=h.ne_new e
 cases hc:H c with
 |none=>rfl
 |some o=>rw [s c o hc nL nD] at e;cases e
def ShV.updL{l:Addr}{zs zs':N7}(h:ShV pr K C H p L D R)(e2:H l=some (.lst zs))(nL:l≠L)(nD:l≠D):ShV pr K C (upd H l (.lst zs')) p L D R:=by let tt:TSame H (upd H l (.lst zs')):=Nv e2;obtain ⟨⟨dx,e⟩,⟨xs,h1,h2⟩,kvs,h3,h4⟩:=h;let npa:p≠l:=aO e e2 (λz=>nomatch z);show {{dx,by rw [ak npa];show e},{xs,by rw [ak nL.symm];show h1,h2.ts tt},kvs,oi h3 tt (ak nD.symm),h4}
def SameB.updN{l:Addr}{o:HO}(s:SameB L D H H')(e:H l=none):SameB L D H (L2.upd H' l o):=λc u h n1 n2=>by rw [ak (λz=>by rw [z,e] at h;cases h)];show s c u h n1 n2
def NE:=@SameB.updN
end
def tw{R:Rs}{x y:Nat}:Pre R (half R x y).1/\Pre (half R x y).1 (fO R c x y).1/\Pre (fO R c x y).1 (jN R c x y).1/\Pre (jN R c x y).1 (ky R c x y).1/\Pre (ky R c x y).1 (gM R c x y).1:=⟨unlike_gr.1,unlike_gr.1,both_gr.1,both_gr.1,either_gr.1⟩
def zE{l:List (Nat×Nat)}{R:Rs}{i:Nat}:(adZ R c (l.take i)).1.length<=(adZ R c l).1.length:=by
 let key:∀(b a:List (Nat×Nat)),(adZ R c a).1.length<=(adZ R c (a++b)).1.length:=by
  intro b
  induction b with
  |nil=>intro a;rw [iD];show zq4 _
  |cons x b ih=>intro a;let z:=ih (a++[x]);rw [kD,xR] at z;show bF ?_ z;rw [iF];obtain ⟨p1,p2,p3,p4,p5⟩:=tw (R:=(adZ R c a).1) (c:=(adZ R c a).2.2) (x:=x.1) (y:=x.2);show ((((p1.trans p2).trans p3).trans p4).trans p5).len
 let z:=key (l.drop i) (l.take i);rw [kE] at z;show z
def xg(pr:Params)(K:N5)(C:Addr):Sp:=λvs H Q _=>∃(p:Addr)(wi wd:Nat),vs=[.ref p,.int (wi:Int),.int (wd:Int)]/\1<=wd/\wd<=1000/\dE pr K C p H Q (λR=>gv R wi (wd-1)) (λ_ _=>True)
def By{pr:Params}{K:N5}{C p:Addr}{wi wd:Nat}{H:Hp}{Q:VK}{E:XK}:xg pr K C [.ref p,.int (wi:Int),.int (wd:Int)] H Q E=(1<=wd/\wd<=1000/\dE pr K C p H Q (λR=>gv R wi (wd-1)) (λ_ _=>True)):=propext {by rintro ⟨_,a',b',e,q⟩;injection e with e1 e;injection e with e2 e;injection e with e3 _;injection e1 with e1;let z2:=cN e2;let z3:=cN e3;subst e1 z2 z3;show q,λq=>{_,_,_,rfl,q}}
def Ci(pr:Params)(K:N5)(C:Addr):Sp:=λvs H Q _=>∃(p a b:Addr)(c:Nat),vs=[.ref p,.ref a,.ref b,.int (c:Int)]/\∃xs ys:be,H a=some (.lst (aN xs))/\H b=some (.lst (aN ys))/\xs.length=ys.length/\xs.length<=1000/\dE pr K C p H Q (λR=>ny R xs ys c) (λR L=>a≠L/\b≠L/\c<R.length/\Ws R xs/\Ws R ys)
def BK{pr:Params}{K:N5}{C p a b:Addr}{H:Hp}{Q:VK}{E:XK}:Ci pr K C [.ref p,.ref a,.ref b,.int (c:Int)] H Q E=∃xs ys:be,H a=some (.lst (aN xs))/\H b=some (.lst (aN ys))/\xs.length=ys.length/\xs.length<=1000/\dE pr K C p H Q (λR=>ny R xs ys c) (λR L=>a≠L/\b≠L/\c<R.length/\Ws R xs/\Ws R ys):=propext {by rintro ⟨_,_,_,c',e,q⟩;injection e with e1 e;injection e with e2 e;injection e with e3 e;injection e with e4 _;injection e1 with e1;injection e2 with e2;injection e3 with e3;let z:=cN e4;subst e1 e2 e3 z;show q,λq=>{_,_,_,_,rfl,q}}
def E8(T:Txt K mg t):FnOk P w K mg base CX0 3 t.f_25 t.e_25 ["sheet","wire","width"] (xg w.params K t.C13):=by
 show T.d_25.F.ok Lu ∅ ?_;rintro cdv A outer s H vs Q E hr ⟨p,wi,wd,rfl,w1,w2,L,D,R,hS,hF,_,hl,q⟩;show {_,(XSs.h (aj (ao (ax eM (aR #[!1]) (aU (tns:=["bit"]) (cns:=["sheet"]) (ci:=[0]) rfl (Np Om) (bL gl T.z11 #[ax dD (!2) ai]) (λ_=>(ay (i:=1) (show List.Nodup [(".0":Str),("bit":Str),("sheet":Str)] by decide +kernel) rfl ll (Or.inr Om))) (λ_=>bf) (λ_=>(am T.c13.cl T.d_9 (j7 T) hr.m (yqv 2 vc) #[ai]))))))),?_}
 ac_rfl;erw [];intro p1 hp1;let s1:=Ng (o:=.lst [V.int (wi:Int)]) hp1;let hS1:=hS.mv s1;let e1:upd H p1 (.lst [V.int (wi:Int)]) p1=some (.lst [V.int (wi:Int)]):=ae;generalize upd H p1 (.lst [V.int (wi:Int)])=H1 at s1 hS1 e1 ⊢;show {Oo,Oo,λacc hacc bk=>?_};rw [show ((wd:Int)-1).toNat=wd-1 by omega];show iM (f:=λR (_:Nat)=>cr R 0) hS1 hacc (λR x=>wr_gr.1) hl Oo (λi H' Q' hi sm hS' hl' q'=>?_) (λH' sm hS' ea=>?_)
 ·rwa [kx];obtain ⟨dx',hp'⟩:=hS'.ob;show aE hp' rfl ({L,D,_,hS',trivial,hl',q'})
 ·obtain ⟨n1L,n1D⟩:=hS.ne_new hp1;show {_,_,sm _ _ e1 n1L n1D,ea,by rw [aW,dq,bB];simp;omega,λp2 hp2=>?_};let s2:=Ng (o:=.lst ([V.int (wi:Int)]++aN (aY (λR (_:Nat)=>cr R 0) R (List.range (wd-1))).2)) hp2;show q p2 _ (((Nn s1).trans sm).trans (Nn s2)) (hS'.free ((Nn s1).trans sm) hp2) ae (hS'.mv s2)
def Hh(T:Txt K mg t):FnOk P w K mg base CX0 5 t.f_24 t.e_24 ["sheet","xs","ys","carry"] (Ci w.params K t.C13):=by
 show T.d_24.F.ok sc_24 ∅ (λcdv A outer s H vs Q E hr h=>?_);obtain ⟨p,a,b,c,rfl,xs,ys,ha,hb,hxy,lx,L,D,R,hS,⟨ins,wd,hF⟩,⟨na,nb,hc,hx,hy⟩,hl,q⟩:=h;dsimp only at hl q;show {_,(XSs.h (af (aw (i:=4) sc_24.nd rfl ll (aR ac)) (af (bv PassesOwn.never rfl (eD T.z25 #[!1,!2] gl) (cy rfl (aQ (ay (i:=5) sc_24.nd rfl ll) (aQ (ay (i:=6) sc_24.nd rfl ll) bV))) (af (aw (i:=7) sc_24.nd rfl ll (am T.c13.cl T.d_14 (B1 T) hr.m (!0) #[!5,!6])) (af (aT (bH Nk Ni Nj aS (!4) #[am T.c13.cl T.d_14 (B1 T) hr.m (!0) #[!7,!3]])) (aj (aw (i:=3) sc_24.nd rfl ll (am T.c13.cl T.d_13 (jD T) hr.m (!0) #[am T.c13.cl T.d_12 (kM T) hr.m (!0) #[!5,!6],am T.c13.cl T.d_12 (kM T) hr.m (!0) #[!7,!3]])))))) (aj (ao (ax eM (!4) (aR #[!3]))))))),?_}
 ac_rfl;erw [];intro l0 hl0;show later ?_;erw [];let s0:=Ng (o:=.lst []) hl0;obtain ⟨n0L,n0D⟩:=hS.ne_new hl0;obtain ⟨φ,hφ⟩:=hS.ext;let naD:a≠D:=aO ha hφ (λz=>nomatch z);let nbD:b≠D:=aO hb hφ (λz=>nomatch z);let na0:a≠l0:=au ha hl0;let nb0:b≠l0:=au hb hl0;let lz:(xs.zip ys).length=xs.length:=by rw [jV];omega
 show {a,b,rfl,{_,Nh (s0 _ _ ha)},{_,Nh (s0 _ _ hb)},uq (xs:=aN xs) (ys:=aN ys) (by rw [aW,aW,hxy]) (λi σ H'=>SameB L D H H'/\ShV w.params K t.C13 H' p L D (adZ R c ((xs.zip ys).take i)).1/\H' l0=some (.lst (aN (adZ R c ((xs.zip ys).take i)).2.1))/\∃o5 o6 o7,σ=[some (.ref p),some (.ref a),some (.ref b),some (.int ((adZ R c ((xs.zip ys).take i)).2.2:Nat)),some (.ref l0),o5,o6,o7]) {Nn s0,hS.mv s0,ae,_,_,_,rfl} ?_ ?_ ?_}
 ·rintro i σ H' _ ⟨sm,_⟩;show {Nh (sm _ _ ha na naD),Nh (sm _ _ hb nb nbD)}
 ·rintro i x y σ H1 pp hx1 hy1 hpp ⟨sm,hS1,e1,o5,o6,o7,rfl⟩;obtain ⟨x,hx',rfl⟩:=zq30.mp (by unfold aN at hx1;rw [bP] at hx1;show hx1);obtain ⟨y,hy',rfl⟩:=zq30.mp (by unfold aN at hy1;rw [bP] at hy1;show hy1);let hi:i<(xs.zip ys).length:=by rw [lz];show (zq7.mp hx').1
  let hz:(xs.zip ys)[i]=(x,y):=by
   let z:(xs.zip ys)[i]?=some (x,y):=by rw [zq69];show ⟨hx',hy'⟩
   show (zq7.mp z).2
  let et:(xs.zip ys).take (i+1)=(xs.zip ys).take i++[(x,y)]:=by rw [dH hi,hz]
  let hb':=zE (l:=xs.zip ys) (R:=R) (c:=c) (i:=i+1);rw [et,iF] at hb';rw [et,iF];obtain ⟨mk,mc⟩:=oV (l:=(xs.zip ys).take i) hF hc λq hq=>{hx _ (fU (i9 hq)).1,hy _ (fU (i9 hq)).2}
  let lS:=mk.len;let pS:=mk.gr.1.len;let fS:=mk.fm;rw [dz] at lS;let hxR:=hx x (bR hx');let hyR:=hy y (bR hy');dsimp only at lS pS fS hb';generalize adZ R c ((xs.zip ys).take i)=S at hS1 e1 hb' mc lS pS fS;obtain ⟨S1,S2,S3⟩:=S;dsimp only at hS1 e1 hb' mc lS pS fS ⊢;obtain ⟨w1,_,w2,_,w3,_,w4,_,w5,_⟩:=xq fS mc (show x<S1.length by omega) (show y<S1.length by omega);obtain ⟨p1,p2,p3,p4,p5⟩:=tw (R:=S1) (c:=S3) (x:=x) (y:=y);let q1:=p1.len;let q2:=p2.len;let q3:=p3.len;let q4:=p4.len;let q5:=p5.len;let hl5:(gM S1 S3 x y).1.length<=100000:=bF hb' hl;let v1:=w1.2;let v3:=w3.2;let v4:=w4.2;let sp:=Ng (o:=.tup [V.int (x:Int),V.int (y:Int)]) hpp;let hS2:=hS1.mv sp;let e2:=sp _ _ e1;erw [gf];show {_,Nl ae,rfl,?_};erw [gf];generalize upd H1 pp (.tup [V.int (x:Int),V.int (y:Int)])=H2 at sp hS2 e2 ⊢;obtain ⟨dx2,hp2⟩:=hS2.ob;show aE hp2 rfl ({L,D,S1,hS2,(⟨Oo,Oo⟩),((show (half S1 x y).1.length<=100000 by omega)),λH3 s3 hS3=>later ?_});let hS3:ShV w.params K t.C13 H3 p L D (half S1 x y).1:=hS3;let e3:=s3 _ _ e2 n0L n0D;obtain ⟨dx3,hp3⟩:=hS3.ob;erw [gf];show {.inl {rfl,_,Nh e3},aE hp3 rfl ({L,D,_,hS3,(⟨v1,Oo⟩),((show (fO S1 S3 x y).1.length<=100000 by omega)),λH4 s4 hS4=>{_,s4 _ _ e3 n0L n0D,by rw [aW,bB];omega,?_}})};let hS4:ShV w.params K t.C13 H4 p L D (fO S1 S3 x y).1:=hS4;let e4:=s4 _ _ e3 n0L n0D;let hS5:=hS4.updL (zs':=aN S2++[V.int ((fO S1 S3 x y).2:Nat)]) e4 n0L n0D;let sm5:SameB L D H (upd H4 l0 (.lst (aN S2++[V.int ((fO S1 S3 x y).2:Nat)]))):=NE (((sm.trans (Nn sp)).trans s3).trans s4) hl0;let e5:upd H4 l0 (.lst (aN S2++[V.int ((fO S1 S3 x y).2:Nat)])) l0=some (.lst (aN (S2++[(fO S1 S3 x y).2]))):=by rw [ae,natL_snoc]
  let hh:(cY S1 x y).2=(half S1 x y).2:=rfl;rw [hh];change ic _ _ _ (upd H4 l0 (.lst (aN S2++[V.int ((fO S1 S3 x y).2:Nat)])));generalize upd H4 l0 (.lst (aN S2++[V.int ((fO S1 S3 x y).2:Nat)]))=H5 at hS5 sm5 e5 ⊢;obtain ⟨dx5,hp5⟩:=hS5.ob;show later ?_;erw [gf];show aE hp5 rfl (aE hp5 rfl ({L,D,_,hS5,(⟨Oo,Oo⟩),((show (jN S1 S3 x y).1.length<=100000 by omega)),λH6 s6 hS6=>?_}));let hS6:ShV w.params K t.C13 H6 p L D (jN S1 S3 x y).1:=hS6;obtain ⟨dx6,hp6⟩:=hS6.ob;show aE hp6 rfl ({L,D,_,hS6,(⟨Oo,Oo⟩),((show (ky S1 S3 x y).1.length<=100000 by omega)),λH7 s7 hS7=>?_});let hS7:ShV w.params K t.C13 H7 p L D (ky S1 S3 x y).1:=hS7;simp only [gf];show {L,D,_,hS7,({(show (jN S1 S3 x y).2<(ky S1 S3 x y).1.length by omega),v4}),hl5,λH8 s8 hS8=>?_};show {((sm5.trans s6).trans s7).trans s8,hS8,s8 _ _ (s7 _ _ (s6 _ _ e5 n0L n0D) n0L n0D) n0L n0D,_,_,_,rfl}
 ·rintro σ H1 ⟨sm,hS1,e1,o5,o6,o7,rfl⟩;rw [aW,<- lz,eA] at hS1 e1 ⊢;let lS:(adZ R c (xs.zip ys)).2.1.length<=1000:=by
   obtain ⟨mk,_⟩:=oV (l:=xs.zip ys) hF hc λq hq=>{hx _ (fU hq).1,hy _ (fU hq).2}
   let this:=mk.len;dsimp only at this;omega
  dsimp only;show later ?_;erw [];intro p1 hp1;let s1:=Ng (o:=.lst [V.int ((adZ R c (xs.zip ys)).2.2:Nat)]) hp1;show {_,_,s1 _ _ e1,ae,by rw [aW,bB];simp;omega,λp2 hp2=>?_};let s2:=Ng (o:=.lst (aN (adZ R c (xs.zip ys)).2.1++[V.int ((adZ R c (xs.zip ys)).2.2:Nat)])) hp2;let s12:=s1.trans s2;show q p2 _ (sm.trans (Nn s12)) (hS1.free sm (s1.free hp2)) (by rw [ae];unfold ny;rw [natL_snoc]) (hS1.mv s12)
def BxD(H:Hp)(d L:Addr)(bx:Str->be)(ns:N0):Prop:=∃kvs,H d=some (.dK kvs)/\∀n∈ns,∃a,cn kvs (.inr n:Key)=some (.ref a)/\H a=some (.lst (aN (bx n)))/\a≠L
def BxW(R:Rs)(bx:Str->be)(ns:N0)(wd:Nat):Prop:=∀n∈ns,(bx n).length=wd/\Ws R (bx n)
def uF(ns:N0):Opd->Prop
 | .box n=>n∈ns
 | .word i=>0<=i/\i<256
def DA(x:Int):Builtin.bitAnd x 1=x % 2:=by
 change PySem.Builtin.bitAnd x 1=_;unfold PySem.Builtin.bitAnd
 by_cases h:0<=x
 ·obtain ⟨n,rfl⟩:=vo h;rw [bX h,bX (show (0:Int)<=1 by decide)];change (((n:Int).toNat &&& (1:Int).toNat:Nat):Int)=_;rw [eh,show (1:Int).toNat=1 from rfl,Nat.and_one_is_mod];omega
 ·rw [cR h,bX (show (0:Int)<=1 by decide)];obtain ⟨n,hn⟩:∃n:Nat,x=-(n:Int)-1:={(-x-1).toNat,Oo}
  subst hn;change (1:Int)-(((1:Int).toNat &&& (-(-(n:Int)-1)-1).toNat:Nat):Int)=_;rw [show (-(-(n:Int)-1)-1).toNat=n by omega,show (1:Int).toNat=1 from rfl,Nat.and_comm,Nat.and_one_is_mod];omega
def zN(pr:Params)(K:N5)(C p:Addr)(x:V)(d:Addr)(m:Int)(H:Hp)(Q:VK):Prop:=∃(o:Opd)(bx:Str->be)(ns:N0)(wd:Nat),x=o.v/\m=(wd:Int)/\wd<=8/\uF ns o/\dE pr K C p H Q (λR=>opW R bx wd o) (λR L=>BxD H d L bx ns/\BxW R bx ns wd)
def Cd(pr:Params)(K:N5)(C:Addr):Sp:=λvs H Q _=>∃(p:Addr)(x:V)(d:Addr)(m:Int),vs=[.ref p,x,.ref d,.int m]/\zN pr K C p x d m H Q
def K4{pr:Params}{K:N5}{C p d:Addr}{x:V}{m:Int}{H:Hp}{Q:VK}{E:XK}:Cd pr K C [.ref p,x,.ref d,.int m] H Q E=zN pr K C p x d m H Q:=∅
def Hd(T:Txt K mg t):FnOk P w K mg base CX0 3 t.f_22 t.e_22 ["sheet","operand","boxes","width"] (Cd w.params K t.C13):=by
 show T.d_22.F.ok Ls ∅ (λcdv A outer s H vs Q E hr h=>?_);obtain ⟨p,x,d,m,rfl,o,bx,ns,wd,rfl,rfl,w8,ho,L,D,R,hS,hF,⟨hB,hW⟩,hl,q⟩:=h;let hu:=ii hr;dsimp only at hl q;show {_,(XSs.h (af (aM (aV (az dk gl T.z12 boot_isinstance #[yqv 1 vc,(dy (v:=.ty "str") gl T.z16 boot_str rfl)])) (aj (ao (c6 cc gl T.z19 boot_list #[fR hu (!2) (yqv 1 vc) (λ_ _=>rfl)]))) aF) (aj (ao (aU (tns:=["bit"]) (cns:=["sheet","operand"]) (ci:=[0,1]) rfl (Np Om) (bL gl T.z11 #[!3]) (λ_=>(ay (i:=1) (show List.Nodup [(".0":Str),("bit":Str),("sheet":Str),("operand":Str)] by decide +kernel) rfl ll (Or.inr Om))) (λ_=>bf) (λ_=>(am T.c13.cl T.d_9 (j7 T) hr.m (yqv 2 vc) #[ax Fc (ax Fd (yqv 3 vc) (!1)) ai]))))))),?_}
 ac_rfl
 cases o with
 |box n=>
  erw [Opd.v];obtain ⟨kvs,hd,hk⟩:=hB;obtain ⟨a,hv,ha,na⟩:=hk n ho;show {d,_,rfl,.inl {kvs,.inr n,.inl hd,rfl,hv.symm},a,_,rfl,.inl (Nh ha),λl hl=>?_};show q l _ (Nn (Ng hl)) hl ae (hS.mv (Ng hl))
 |word i=>erw [Opd.v];show later ?_;erw [];show {Oo,Oo,λacc hacc bk=>?_};rw [eh];show iM (f:=λR (b:Nat)=>cr R (i / 2 ^ b % 2)) hS hacc (λR x=>wr_gr.1) hl Oo (λj H' Q' hj sm hS' hl' q'=>?_) (λH' sm hS' ea=>q acc H' sm hacc ea hS');rwa [kx];obtain ⟨dx',hp'⟩:=hS'.ob;show aE hp' rfl {Oo,?_};rw [eh,DA];show {L,D,_,hS',trivial,hl',q'}
def tg2{K:N5}{n:Nat}{ci:be}{σ:L2.St}(hn:2=n)(os:List N8)(pp:Addr)(x y:V)(H:Hp)(Z:L2.St->Hp->Prop)(ho:os.length=2)(e:H pp=some (.tup [x,y]))(h:(∃os',os'.length=2/\aI [some x,some y] ci σ=aI os' ci σ)->Z (aI [some x,some y] ci σ) H):Ah K n (jZ (bI 1) (jZ (bI 2) Ag)) (.ref pp) (aI os ci σ) H Z:=by
 match os,ho with
 | [o1,o2],_=>show {pp,[x,y],rfl,Nl e,hn,x,[y],rfl,y,[],rfl,rfl,h {_,rfl,rfl}}
def J5{ws:be}:dY (aN ws) none (some (-1))=aN ws.dropLast:=by
 let e:HT.sIx (aN ws).length (aN ws).length (some (-1))=(aN ws).length-1:=by unfold HT.sIx;simp;omega
 unfold dY;rw [HT.gK,xJ,zr,e,<- Ge];unfold aN;rw [List.map_dropLast]
def As{ws:be}(h:0<ws.length):atI (aN ws) (-1)=some (.int ((ws.getLastD 0:Nat):Int)):=by
 let hne:ws≠[]:=zq93.mp h;let e:ws=ws.dropLast++[ws.getLast hne]:=(Gc hne).symm;rw [e,natL_snoc];let z:(ws.dropLast++[ws.getLast hne]).getLastD 0=ws.getLast hne:=by simp
 rw [z];show L2.iJ _ _
def zO(pr:Params)(K:N5)(C p:Addr)(k:Str)(a b:Addr)(H:Hp)(Q:VK):Prop:=∃(xs ys:be),k∈FB.opsL/\H a=some (.lst (aN xs))/\H b=some (.lst (aN ys))/\xs.length=ys.length/\0<xs.length/\xs.length<=8/\dE pr K C p H Q (λR=>kg R k xs ys) (λR L=>a≠L/\b≠L/\Ws R xs/\Ws R ys)
def Cf(pr:Params)(K:N5)(C:Addr):Sp:=λvs H Q _=>∃(p:Addr)(k:Str)(a b:Addr),vs=[.ref p,.str k,.ref a,.ref b]/\zO pr K C p k a b H Q
def K6{pr:Params}{K:N5}{C p a b:Addr}{k:Str}{H:Hp}{Q:VK}{E:XK}:Cf pr K C [.ref p,.str k,.ref a,.ref b] H Q E=zO pr K C p k a b H Q:=∅
def He(T:Txt K mg t):FnOk P w K mg base CX0 6 t.f_23 t.e_23 ["sheet","op","xs","ys"] (Cf w.params K t.C13):=by
 show T.d_23.F.ok sc_23 ∅ (λcdv A outer s H vs Q E hr h=>?_);obtain ⟨p,k,a,b,rfl,xs,ys,hk,ha,hb,hxy,h0,h8,L,D,R,hS,⟨ins,wd,hF⟩,⟨na,nb,hx,hy⟩,hl,q⟩:=h;dsimp only at hl q;show {_,(XSs.h (af (aM (aA bi (!1) aG (aH _)) (aj (ao (aU (tns:=["x","y"]) (cns:=["sheet"]) (ci:=[0]) rfl (Np Om) (eD T.z25 #[!2,!3] gl) (λ_=>(cy rfl (aQ (ay (i:=1) (show List.Nodup [(".0":Str),("x":Str),("y":Str),("sheet":Str)] by decide +kernel) rfl ll (Or.inr Om)) (aQ (ay (i:=2) (show List.Nodup [(".0":Str),("x":Str),("y":Str),("sheet":Str)] by decide +kernel) rfl ll (Or.inr Om)) bV)))) (λ_=>bf) (λ_=>(am T.c13.cl T.d_12 (kM T) hr.m (yqv 3 vc) #[!1,!2]))))) aF) (af (aM (aA bi (!1) aG (aH _)) (aj (ao (aU (tns:=["x","y"]) (cns:=["sheet"]) (ci:=[0]) rfl (Np Om) (eD T.z25 #[!2,!3] gl) (λ_=>(cy rfl (aQ (ay (i:=1) (show List.Nodup [(".0":Str),("x":Str),("y":Str),("sheet":Str)] by decide +kernel) rfl ll (Or.inr Om)) (aQ (ay (i:=2) (show List.Nodup [(".0":Str),("x":Str),("y":Str),("sheet":Str)] by decide +kernel) rfl ll (Or.inr Om)) bV)))) (λ_=>bf) (λ_=>(am T.c13.cl T.d_13 (jD T) hr.m (yqv 3 vc) #[!1,!2]))))) aF) (af (aM (aA bi (!1) aG (aH _)) (aj (ao (aU (tns:=["x","y"]) (cns:=["sheet"]) (ci:=[0]) rfl (Np Om) (eD T.z25 #[!2,!3] gl) (λ_=>(cy rfl (aQ (ay (i:=1) (show List.Nodup [(".0":Str),("x":Str),("y":Str),("sheet":Str)] by decide +kernel) rfl ll (Or.inr Om)) (aQ (ay (i:=2) (show List.Nodup [(".0":Str),("x":Str),("y":Str),("sheet":Str)] by decide +kernel) rfl ll (Or.inr Om)) bV)))) (λ_=>bf) (λ_=>(am T.c13.cl T.d_14 (B1 T) hr.m (yqv 3 vc) #[!1,!2]))))) aF) (af (aM (aA bi (!1) aG (aH _)) (aj (ao (bD cO (av T.d_24 (Hh T) hr.m #[yqv 0 vc,!2,!3,am T.c13.cl T.d_9 (j7 T) hr.m (yqv 0 vc) #[ai]] gl) cj (bE (fG eE ai))))) aF) (af (aM (aA bi (!1) aG (aH _)) (af (aw (i:=4) sc_23.nd rfl ll (am T.c13.cl T.d_15 (gG T) hr.m (yqv 0 vc) #[(aU (tns:=["x","y"]) (cns:=["sheet"]) (ci:=[0]) rfl (Np Om) (eD T.z25 #[!2,!3] gl) (λ_=>(cy rfl (aQ (ay (i:=1) (show List.Nodup [(".0":Str),("x":Str),("y":Str),("sheet":Str)] by decide +kernel) rfl ll (Or.inr Om)) (aQ (ay (i:=2) (show List.Nodup [(".0":Str),("x":Str),("y":Str),("sheet":Str)] by decide +kernel) rfl ll (Or.inr Om)) bV)))) (λ_=>bf) (λ_=>(am T.c13.cl T.d_14 (B1 T) hr.m (yqv 3 vc) #[!1,!2])))])) (aj (ao (av T.d_25 (E8 T) hr.m #[yqv 0 vc,am T.c13.cl T.d_11 (mf T) hr.m (yqv 0 vc) #[!4],az aC gl T.z15 Nm #[!2]] gl)))) aF) (af (aw (i:=5) sc_23.nd rfl ll (av T.d_24 (Hh T) hr.m #[yqv 0 vc,!2,(aU (tns:=["y"]) (cns:=["sheet"]) (ci:=[0]) rfl (Np Om) (aX (!3)) (λ_=>(ay (i:=1) (show List.Nodup [(".0":Str),("y":Str),("sheet":Str)] by decide +kernel) rfl ll (Or.inr Om))) (λ_=>bf) (λ_=>(am T.c13.cl T.d_11 (mf T) hr.m (yqv 2 vc) #[!1]))),am T.c13.cl T.d_9 (j7 T) hr.m (yqv 0 vc) #[ai]] gl)) (af (aM (aA bi (!1) aG (aH _)) (aj (ao (bD cO (!5) cj (bE (fG eE ai))))) aF) (aj (ao (av T.d_25 (E8 T) hr.m #[yqv 0 vc,am T.c13.cl T.d_11 (mf T) hr.m (yqv 0 vc) #[aq aP (!5) (fG eE ai)],az aC gl T.z15 Nm #[!2]] gl))))))))))),?_}
 ac_rfl;obtain ⟨φ,hφ⟩:=hS.ext;let naD:a≠D:=aO ha hφ (λz=>nomatch z);let nbD:b≠D:=aO hb hφ (λz=>nomatch z);let px:=@List.of_mem_zip Nat Nat;let zw:∀{f:Rs->Nat->Nat->Rs×Nat},(∀R' a b,Fm ins wd R'->a<R'.length->b<R'.length->Wf ins wd (f R' a b)/\Gr 1 R' (f R' a b).1)->∀(i x y:Nat),xs[i]?=some x->ys[i]?=some y->x<(aY (λR (p:Nat×Nat)=>f R p.1 p.2) R ((xs.zip ys).take i)).1.length/\y<(aY (λR (p:Nat×Nat)=>f R p.1 p.2) R ((xs.zip ys).take i)).1.length:=λhf i x y ex ey=>by obtain ⟨_,g⟩:=pP (ins:=ins) (wd:=wd) (f:=λR (p:Nat×Nat)=>_) 1 (xs:=(xs.zip ys).take i) hF λR' p h' z hz=>hf R' z.1 z.2 h' (bT (hx _ (fU (i9 hz)).1) p.len) (bT (hy _ (fU (i9 hz)).2) p.len);show {bT (hx x (bR ex)) g.1.len,bT (hy y (bR ey)) g.1.len}
 erw [gf];unfold kg at hl q
 by_cases k1:k="and"
 ·rw [zq1 k1] at hl q;rw [zq1 (bX k1)];show {a,b,rfl,{_,Nh ha},{_,Nh hb},λacc hacc bk=>kI hxy hS hacc ha hb na nb (λR x y=>both_gr.1) hl Oo (tg2 rfl) (λi x y H' Q' ex ey hS' hl' q'=>?_) (λH' sm hS' ea=>q acc H' sm hacc ea hS')};obtain ⟨z1,z2⟩:=zw (f:=eF) (λR' a b h' ha hb=>{fq h' ha hb,both_gr}) i x y ex ey;rwa [gf];obtain ⟨dx',hp'⟩:=hS'.ob;show aE hp' rfl ({L,D,_,hS',⟨z1,z2⟩,hl',q'})
 rw [zq0 k1] at hl q;rw [zq0 (by simpa using k1)];show later ?_;erw [gf]
 by_cases k2:k="or"
 ·rw [zq1 k2] at hl q;rw [zq1 (bX k2)];show {a,b,rfl,{_,Nh ha},{_,Nh hb},λacc hacc bk=>kI hxy hS hacc ha hb na nb (λR x y=>either_gr.1) hl Oo (tg2 rfl) (λi x y H' Q' ex ey hS' hl' q'=>?_) (λH' sm hS' ea=>q acc H' sm hacc ea hS')};obtain ⟨z1,z2⟩:=zw (f:=dg) (λR' a b h' ha hb=>{gQ h' ha hb,either_gr}) i x y ex ey;rwa [gf];obtain ⟨dx',hp'⟩:=hS'.ob;show aE hp' rfl ({L,D,_,hS',⟨z1,z2⟩,hl',q'})
 rw [zq0 k2] at hl q;rw [zq0 (by simpa using k2)];show later ?_;erw [gf]
 by_cases k3:k="xor"
 ·rw [zq1 k3] at hl q;rw [zq1 (bX k3)];show {a,b,rfl,{_,Nh ha},{_,Nh hb},λacc hacc bk=>kI hxy hS hacc ha hb na nb (λR x y=>unlike_gr.1) hl Oo (tg2 rfl) (λi x y H' Q' ex ey hS' hl' q'=>?_) (λH' sm hS' ea=>q acc H' sm hacc ea hS')};obtain ⟨z1,z2⟩:=zw (f:=cY) (λR' a b h' ha hb=>{ee h' ha hb,unlike_gr}) i x y ex ey;rwa [gf];obtain ⟨dx',hp'⟩:=hS'.ob;show aE hp' rfl ({L,D,_,hS',⟨z1,z2⟩,hl',q'})
 rw [zq0 k3] at hl q;rw [zq0 (by simpa using k3)];show later ?_;erw [gf];obtain ⟨dx,hp⟩:=hS.ob;let lone:∀(R1:Rs)(wi:Nat)(H1:Hp),Fm ins wd R1->SameB L D H H1->ShV w.params K t.C13 H1 p L D R1->(gv R1 wi (xs.length-1)).1.length<=100000->(∀l H',SameB L D H H'->H l=none->H' l=some (.lst (aN (gv R1 wi (xs.length-1)).2))->ShV w.params K t.C13 H' p L D (gv R1 wi (xs.length-1)).1->Q (.ref l) H')->dE w.params K t.C13 p H1 Q (λR=>gv R wi (xs.length-1)) (λ_ _=>True):=λR1 wi H1 f1 s1 h1 l1 q=>{L,D,R1,h1,⟨ins,wd,f1⟩,trivial,l1,λl H' s2 hl2 e2 h2=>q l H' (s1.trans s2) (h1.free s1 hl2) e2 h2}
 by_cases k4:k="plus"
 ·rw [zq1 k4] at hl q;rw [zq1 (bX k4)];erw [kx,BK];let f:=dO hF (.inl rfl:(0:Int)=0\/_);let g:Pre R (cr R 0).1:=wr_gr.1;let m:=kR (c:=(cr R 0).2) hxy f.1 f.2 (hx.up g) (hy.up g);show aE hp rfl ({L,D,R,hS,trivial,bF m.gr.1.len hl,λH1 s1 hS1=>?_});simp only [BK];show {xs,ys,s1 _ _ ha na naD,s1 _ _ hb nb nbD,hxy,Oo,{L,D,_,hS1,⟨ins,wd,f.1⟩,{na,nb,f.2,hx.up g,hy.up g},hl,λl H2 s2 hl2 e2 hS2=>?_}};show {l,_,rfl,Nh e2,λl3 hl3=>?_};rw [J5];let s3:=Ng (o:=.lst (aN (ny (cr R 0).1 xs ys (cr R 0).2).2.dropLast)) hl3;show q l3 _ ((s1.trans s2).trans (Nn s3)) (hS2.free (s1.trans s2) hl3) ae (hS2.mv s3)
 rw [zq0 k4] at hl q;rw [zq0 (by simpa using k4)];show later ?_;erw [gf]
 by_cases k5:k="same"
 ·rw [zq1 k5] at hl q;rw [zq1 (bX k5)];let z:Mk ins wd R (nB R xs ys) _ _:=mR hxy hF hx hy λR' a b h' ha hb=>{ee h' ha hb,unlike_gr}
  let wa:Wf ins wd (iI R xs ys):=fu z.fm z.ws;let pa:Pre (nB R xs ys).1 (iI R xs ys).1:=any_gr.1;let ws:=(FF hxy hF hx hy).1;let ps:Pre (iI R xs ys).1 (saS R xs ys).1:=inv_gr.1;let pl:Pre (saS R xs ys).1 (sG R xs ys).1:=(j4 ws.1 ws.2).gr.1;let la:=pa.len;let ls:=ps.len;let lll:=pl.len;let hl:(sG R xs ys).1.length<=100000:=hl;show aE hp rfl {a,b,rfl,{_,Nh ha},{_,Nh hb},λacc hacc bk=>kI (f:=cY) hxy hS hacc ha hb na nb (λR x y=>unlike_gr.1) (show (nB R xs ys).1.length<=100000 by omega) Oo (tg2 rfl) (λi x y H' Q' ex ey hS' hl' q'=>?_) (λH1 s1 hS1 ea=>?_)}
  ·obtain ⟨z1,z2⟩:=zw (f:=cY) (λR' a b h' ha hb=>{ee h' ha hb,unlike_gr}) i x y ex ey;rwa [gf];obtain ⟨dx',hp'⟩:=hS'.ob;show aE hp' rfl ({L,D,_,hS',⟨z1,z2⟩,hl',q'})
  obtain ⟨nL,nD⟩:=hS.ne_new hacc;rw [jH];show {L,D,(nB R xs ys).1,(nB R xs ys).2,hS1,ea,nL,z.ws,⟨ins,wd,z.fm⟩,((show (iI R xs ys).1.length<=100000 by omega)),λH2 s2 hS2=>later ?_};let hS2:ShV w.params K t.C13 H2 p L D (iI R xs ys).1:=hS2;obtain ⟨dx2,hp2⟩:=hS2.ob;erw [jc];show aE hp2 rfl ({L,D,_,hS2,wa.2,((show (saS R xs ys).1.length<=100000 by omega)),λH3 s3 hS3=>?_});let s13:=(s1.trans s2).trans s3;show {_,.inl (Nh (s13 _ _ ha na naD)),?_};rw [aW,By];show {h0,Oo,lone _ _ H3 ws.1 s13 hS3 hl q}
 rw [zq0 k5] at hl q;rw [zq0 (by simpa using k5)];show later ?_;erw [jc];let v:Mk ins wd R (eI R ys) ys.length (1 * ys.length):=g7 1 hF λR' p h' x hxx=>{dF h' (bT (hy x hxx) p.len),inv_gr}
 let wf1:=dO v.fm (.inr rfl:(1:Int)=0\/_);let g1:Pre (eI R ys).1 (cr (eI R ys).1 1).1:=wr_gr.1;let m:Mk ins wd (cr (eI R ys).1 1).1 (i5 R xs ys) _ _:=kR (c:=(cr (eI R ys).1 1).2) (hxy.trans v.len.symm) wf1.1 wf1.2 ((hx.up v.gr.1).up g1) (v.ws.up g1);let ldif:(i5 R xs ys).1.length<=100000:=by
  by_cases k6:k="less"
  ·rw [zq1 k6] at hl;show hl
  ·rw [zq0 k6] at hl;let b1:Pre (i5 R xs ys).1 (beS R xs ys).1:=inv_gr.1;let b2:Pre (beS R xs ys).1 (kZ R xs ys).1:={_,(j4 (dF m.fm (m.ws _ (gF (by let this:=m.len;omega)))).1 (dF m.fm (m.ws _ (gF (by let this:=m.len;omega)))).2).gr.1.choose_spec}
   let this:=b1.len;let this:=b2.len;omega
 let l1:=m.gr.1.len;let l2:=g1.len;show {{_,Nh hb},λacc hacc bk=>zX (f:=λR x=>fj R x) hS hacc hb nb (λR x=>inv_gr.1) (show (eI R ys).1.length<=100000 by omega) Oo (λi x H' Q' ex hS' hl' q'=>?_) (λH1 s1 hS1 ea=>?_)}
 ·rwa [jc];obtain ⟨dx',hp'⟩:=hS'.ob;let zz:x<(aY fj R (ys.take i)).1.length:=by
   obtain ⟨_,g⟩:=pP (ins:=ins) (wd:=wd) (f:=fj) 1 (xs:=ys.take i) hF λR' p h' z hz=>{dF h' (bT (hy z (i9 hz)) p.len),inv_gr}
   show bT (hy x (bR ex)) g.1.len
  show aE hp' rfl ({L,D,_,hS',zz,hl',q'})
 let hS1:ShV w.params K t.C13 H1 p L D (eI R ys).1:=hS1;obtain ⟨nL,nD⟩:=hS.ne_new hacc;obtain ⟨dx1,hp1⟩:=hS1.ob;rw [kx];show aE hp1 rfl ({L,D,_,hS1,trivial,((show (cr (eI R ys).1 1).1.length<=100000 by omega)),λH2 s2 hS2=>?_});simp only [BK];let s12:=s1.trans s2;show {xs,(eI R ys).2,s12 _ _ ha na naD,s2 _ _ ea nL nD,hxy.trans v.len.symm,Oo,{L,D,_,hS2,⟨ins,wd,wf1.1⟩,{na,nL,wf1.2,(hx.up v.gr.1).up g1,v.ws.up g1},ldif,λl H3 s3 hl3 e3 hS3=>later ?_}};let s13:=s12.trans s3;let hS3:ShV w.params K t.C13 H3 p L D (i5 R xs ys).1:=hS3;let e3:H3 l=some (.lst (aN (i5 R xs ys).2)):=e3;erw []
 by_cases k6:k="less"
 ·rw [zq1 k6] at hl q;rw [zq1 (bX k6)];show {_,Nh e3,λl4 hl4=>?_};rw [J5];let s4:=Ng (o:=.lst (aN (i5 R xs ys).2.dropLast)) hl4;show q l4 _ (s13.trans (Nn s4)) (hS3.free s13 hl4) ae (hS3.mv s4)
 rw [zq0 k6] at hl q;rw [zq0 (by simpa using k6)];show later ?_;erw [jc];obtain ⟨dx3,hp3⟩:=hS3.ob;let hne:0<(i5 R xs ys).2.length:=by let this:=m.len;omega
 let hla:atI (aN (i5 R xs ys).2) (-1)=some (.int (((i5 R xs ys).2.getLastD 0:Nat):Int)):=As hne;let wi:=dF m.fm (m.ws _ (gF hne));let hl:(kZ R xs ys).1.length<=100000:=hl;let b2:=(j4 (k:=xs.length-1) wi.1 wi.2).gr.1.len;show aE hp3 rfl {_,_,Nh e3,hla,?_};rw [jc];show {L,D,_,hS3,m.ws _ (gF hne),(show (beS R xs ys).1.length<=100000 from bF b2 hl),λH4 s4 hS4=>?_};let s14:=s13.trans s4;show {_,.inl (Nh (s14 _ _ ha na naD)),?_};rw [aW,By];show {h0,Oo,lone _ _ H4 wi.1 s14 hS4 hl q}
variable {wd:Nat}
section
variable {pr:Params} {K:N5} {C p L D d:Addr} {H H':Hp} {R:Rs} {bx:Str->be} {ns:N0}
def BxD.mv(h:BxD H d L bx ns)(hS:ShV pr K C H p L D R)(s:SameB L D H H'):BxD H' d L bx ns:=by obtain ⟨kvs,h1,h2⟩:=h;obtain ⟨xs,h3,_⟩:=hS.rows;obtain ⟨φ,h4⟩:=hS.ext;show {kvs,s _ _ h1 (aO h1 h3 (λz=>nomatch z)) (aO h1 h4 (λz=>nomatch z)),λn hn=>?_};obtain ⟨a,e1,e2,e3⟩:=h2 n hn;show {a,e1,s _ _ e2 e3 (aO e2 h4 (λz=>nomatch z)),e3}
def BxW.up{R R':Rs}(h:BxW R bx ns wd)(g:Pre R R'):BxW R' bx ns wd:=λn hn=>{(h n hn).1,(h n hn).2.up g}
def jE{ins:N0}{wi:Nat}{R:Rs}{o:Opd}(h:Fm ins wi R)(hW:BxW R bx ns wd)(ho:uF ns o):Mk ins wi R (opW R bx wd o) wd wd:=by
 cases o with
 |box n=>show {h,(hW n ho).2,(hW n ho).1,.refl}
 |word i=>show uo h
end
def cX(ns:N0)(d:Na):Prop:=∀o∈dM d,uF ns o
def fK(bx:Str->be)(wd:Nat)(R:Rs)(os:List Opd):Rs×List be:=aY (λR o=>opW R bx wd o) R os
def kO{ins ns:N0}{wi wd:Nat}{bx:Str->be}:∀{os:List Opd} {R:Rs},Fm ins wi R->BxW R bx ns wd->(∀o∈os,uF ns o)->Fm ins wi (fK bx wd R os).1/\Gr (wd * os.length) R (fK bx wd R os).1/\∀ws∈(fK bx wd R os).2,ws.length=wd/\Ws (fK bx wd R os).1 ws
 | [],R,h,_,_=>{h,.refl,λws hw=>by cases hw}
 |o::os,R,h,hW,ho=>by
  let z:=jE h hW (ho o (cS ..));obtain ⟨h1,h2,h3⟩:=kO (os:=os) z.fm (hW.up z.gr.1) λx hx=>ho x (zq8 _ hx);unfold fK at h1 h2 h3 ⊢;rw [aY];show {h1,(z.gr.trans h2).mono (by rw [cG,zu];omega),λws hw=>?_};rcases zq9.mp hw with rfl | hw
  ·show {z.len,z.ws.up h2.1}
  ·show h3 ws hw
def Ej{ins ns:N0}{wi:Nat}{bx:Str->be}{os:List Opd}{R:Rs}{i:Nat}(h:Fm ins wi R)(hW:BxW R bx ns wd)(ho:∀o∈os,uF ns o):(fK bx wd R (os.take i)).1.length<=(fK bx wd R os).1.length:=by
 let key:∀(b a:List Opd),(∀o∈a++b,uF ns o)->(fK bx wd R a).1.length<=(fK bx wd R (a++b)).1.length:=by
  intro b
  induction b with
  |nil=>intro a _;rw [iD];show zq4 _
  |cons x b ih=>intro a hab;let z:=ih (a++[x]) (by rw [kD];show hab);rw [kD,xR] at z;show bF ?_ z;obtain ⟨f1,g1,_⟩:=kO (os:=a) h hW λo ho=>hab o (mS _ ho);unfold fK at f1 g1 ⊢;rw [bC];show (jE f1 (hW.up g1.1) (hab x Oq)).gr.1.len
 let z:=key (os.drop i) (os.take i) (by rw [kE];show ho);rw [kE] at z;show z
def rP{bx:Str->be}{R:Rs}{d:Na}:(∃o,dM d=[o]/\j5 R bx wd d=((fK bx wd R (dM d)).1,(opW R bx wd o).2)/\(fK bx wd R (dM d)).2=[(opW R bx wd o).2])\/∃k n o o2,d=.op k n o o2/\dM d=[o,o2]/\j5 R bx wd d=kg (fK bx wd R (dM d)).1 k (opW R bx wd o).2 (opW (opW R bx wd o).1 bx wd o2).2/\(fK bx wd R (dM d)).2=[(opW R bx wd o).2,(opW (opW R bx wd o).1 bx wd o2).2]:=by
 cases d with
 |tell o=>show .inl ⟨o,rfl,rfl,rfl⟩
 |copy n o=>show .inl ⟨o,rfl,rfl,rfl⟩
 |op k n o o2=>show .inr ⟨k,n,o,o2,rfl,rfl,rfl,rfl⟩
def vD(pr:Params)(K:N5)(C p a d:Addr)(m:Int)(H:Hp)(Q:VK):Prop:=∃(dd:Na)(bx:Str->be)(ns:N0)(wd:Nat),SqT K H a dd.vs/\dd.fine/\m=(wd:Int)/\0<wd/\wd<=8/\cX ns dd/\dE pr K C p H Q (λR=>j5 R bx wd dd) (λR L=>BxD H d L bx ns/\BxW R bx ns wd)
def xi(pr:Params)(K:N5)(C:Addr):Sp:=λvs H Q _=>∃(p a d:Addr)(m:Int),vs=[.ref p,.ref a,.ref d,.int m]/\vD pr K C p a d m H Q
def Ij{pr:Params}{K:N5}{C p a d:Addr}{m:Int}{H:Hp}{Q:VK}{E:XK}:xi pr K C [.ref p,.ref a,.ref d,.int m] H Q E=vD pr K C p a d m H Q:=∅
def Ea(T:Txt K mg t):FnOk P w K mg base CX0 7 t.f_21 t.e_21 ["sheet","deed","boxes","width"] (xi w.params K t.C13):=by
 show T.d_21.F.ok sc_21 ∅ (λcdv A outer s H vs Q E hr h=>?_);obtain ⟨p,a,d,m,rfl,dd,bx,ns,wd,ha,hf,rfl,w0,w8,ho,L,D,R,hS,⟨ins,wi,hF⟩,⟨hB,hW⟩,hl,q⟩:=h;dsimp only at hl q;show {_,(XSs.h (af (cK (i:=4) sc_21.nd rfl ll rfl Om (tns:=["operand"]) (cns:=["sheet","boxes","width"]) (ci:=[0,2,3]) rfl (Np Om) (qi (av T.d_3 (wG T) hr.m #[!1] gl)) (λ_=>(ay (i:=1) (show List.Nodup [(".0":Str),("operand":Str),("sheet":Str),("boxes":Str),("width":Str)] by decide +kernel) rfl ll (Or.inr Om))) (λ_=>bf) (λ_=>(av T.d_22 (Hd T) hr.m #[yqv 2 vc,!1,yqv 3 vc,yqv 4 vc] gl))) (af (aM (aA bi (az aC gl T.z15 Nm #[!4]) ai (aH _)) (aj (ao (aq aP (!4) ai))) aF) (aj (ao (av T.d_23 (He T) hr.m #[yqv 0 vc,aq aD (!1) ai,aq aP (!4) ai,aq aP (!4) ai] gl)))))),?_}
 ac_rfl;erw [BF];show {dd,ha,hf,λp1 hp1=>?_};let s1:=Ng (o:=.tup ((dM dd).map FB.Opd.v)) hp1;let e1:upd H p1 (.tup ((dM dd).map FB.Opd.v)) p1=some (.tup ((dM dd).map FB.Opd.v)):=ae;let hS1:=hS.mv s1;let ha1:=s1.seqT ha;let hB1:=hB.mv hS (Nn s1);generalize upd H p1 (.tup ((dM dd).map FB.Opd.v))=H1 at s1 e1 hS1 ha1 hB1 ⊢;obtain ⟨f2,g2,w2⟩:=kO (os:=dM dd) hF hW ho;let lops:(fK bx wd R (dM dd)).1.length<=100000:=by
  rcases rP (bx:=bx) (wd:=wd) (R:=R) (d:=dd) with ⟨o,_,e,_⟩ | ⟨k,n,o,o2,_,_,e,e2⟩
  ·rw [e] at hl;show hl
  ·rw [e] at hl;let w3:=λws hws=>w2 ws (by rw [e2];show hws);let m:=wZ (k:=k) ((w3 (opW R bx wd o).2 Oq).1.trans (w3 (opW (opW R bx wd o).1 bx wd o2).2 Oq).1.symm) (by rw [(w3 (opW R bx wd o).2 Oq).1];show w0) f2 (w3 (opW R bx wd o).2 Oq).2 (w3 (opW (opW R bx wd o).1 bx wd o2).2 Oq).2;show bF m.gr.1.len hl
 show {{_,Nl e1},λacc hacc bk=>?_};obtain ⟨nL,nD⟩:=hS1.ne_new hacc;show zY (xs:=(dM dd).map FB.Opd.v) (λi zs H'=>SameB L D H1 H'/\ShV w.params K t.C13 H' p L D (fK bx wd R ((dM dd).take i)).1/\H' acc=some (.lst zs)/\∃ls:N2,zs=ls.map V.ref/\Paired (λl ws=>H' l=some (.lst (aN ws))/\l≠L/\l≠acc/\H1 l=none) ls (fK bx wd R ((dM dd).take i)).2) {Nn (Ng hacc),hS1.mv (Ng hacc),ae,[],rfl,.nil} ?_ ?_ ?_
 ·rintro i zs H' _ ⟨sm,_⟩;show (hS1.ts sm).seqT (Nl e1)
 ·rintro i x zs H2 os hxi hos ⟨sm,hS2,ea,ls,rfl,hP⟩;rw [bP] at hxi;obtain ⟨o,hoi,rfl⟩:=zq30.mp hxi;let hi:i<(dM dd).length:=(zq7.mp hoi).1;let et:(dM dd).take (i+1)=(dM dd).take i++[o]:=by rw [dH hi,(zq7.mp hoi).2]
  let lp:=Ej (i:=i+1) hF hW ho;obtain ⟨f3,g3,_⟩:=kO (os:=(dM dd).take i) hF hW λo ho'=>ho o (i9 ho');let ll:=hP.length;let lo:=sg (d:=dd);let lm:(fK bx wd R ((dM dd).take i)).2.length<=2:=by unfold fK;rw [dq,dz];omega
  rw [et] at lp ⊢;unfold fK at lp f3 g3 hS2 hP lm ll ⊢;rw [bC] at lp ⊢
  match os,hos with
  | [o1],_=>
   rwa [K4];show {{[some o.v],rfl,rfl},?_};rw [zq1 trivial];show {o,bx,ns,wd,rfl,rfl,w8,ho o (bR hoi),{L,D,_,hS2,⟨ins,wi,f3⟩,{hB1.mv hS1 sm,hW.up g3.1},bF lp lops,λl H3 s3 hl3 e3 hS3=>?_}};let ea3:=s3 _ _ ea nL nD;obtain ⟨φ,hφ⟩:=hS2.ext;obtain ⟨nlL,nlD⟩:=hS2.ne_new hl3;let nla:l≠acc:=λz=>by rw [z,ea] at hl3;cases hl3
   show {ea3,by rw [zq3,bB];omega,NE (sm.trans s3) hacc,hS3.updL ea3 nL nD,ae,ls++[l],by rw [dN];rfl,fM {by rw [ak nla];show e3,nlL,nla,hS2.free sm hl3} (hP.mono λl' ws h=>?_)};obtain ⟨h1,h2,h3,h4⟩:=h;show {by rw [ak h3];show s3 _ _ h1 h2 (aO h1 hφ (λz=>nomatch z)),h2,h3,h4}
 ·rintro zs H2 ⟨sm,hS2,ea,ls,rfl,hP⟩;rw [zq3,eA] at hS2 hP;let s02:=(Nn s1).trans sm;show later ?_;erw [];show {_,.inl (Nh ea),?_};rw [zq3];rcases rP (bx:=bx) (wd:=wd) (R:=R) (d:=dd) with ⟨o,e0,e,e2⟩ | ⟨k,n,o,o2,rfl,e0,e,e2⟩
  ·rw [e2] at hP
   cases hP with
   |cons h t=>
    cases t
    obtain ⟨h1,h2,h3,h4⟩:=h;rw [zq1 Os];rw [e] at q;show {_,_,Nh ea,rfl,q _ H2 s02 (s1.free h4) h1 hS2}
  ·rw [e2] at hP;let w3:=λws hws=>w2 ws (by rw [e2];show hws)
   cases hP with
   |cons h t=>
    cases t with
    |cons h' t'=>
     cases t'
     obtain ⟨h1,h2,h3,h4⟩:=h;obtain ⟨k1,k2,k3,k4⟩:=h';rw [zq0 (by change ¬(decide ((2:Int)=1)=true);decide)];show later ?_;erw [];show {_,_,(hS1.ts sm).seqT ha1,rfl,_,_,Nh ea,rfl,_,_,Nh ea,rfl,?_};rw [K6];rw [e] at hl q;let l1:=(w3 (opW R bx wd o).2 Oq)
     let l2:=(w3 (opW (opW R bx wd o).1 bx wd o2).2 Oq)
     show {_,_,hf,h1,k1,l1.1.trans l2.1.symm,(by rw [l1.1];show w0),(by rw [l1.1];show w8),{L,D,_,hS2,⟨ins,wi,f2⟩,⟨h2,k2,l1.2,l2.2⟩,hl,λl H' s' hl' e' h'=>q l H' (s02.trans s') (hS2.free s02 hl') e' h'}}
def ChV(K:N5)(H:Hp)(L:Addr):N7->List (Nat×be)->Prop:=Paired λx c=>∃q l,x=.ref q/\SqT K H q [.int (c.1:Int),.ref l]/\H l=some (.lst (aN c.2))/\l≠L
def ChW(R:Rs)(cs:List (Nat×be))(wd:Nat):Prop:=∀c∈cs,c.1<R.length/\c.2.length=wd/\Ws R c.2
def ChW.up{R R':Rs}{cs:List (Nat×be)}{wd:Nat}(h:ChW R cs wd)(g:Pre R R'):ChW R' cs wd:=λc hc=>{bT (h c hc).1 g.len,(h c hc).2.1,(h c hc).2.2.up g}
section
variable {pr:Params} {K:N5} {C p L D:Addr} {H H':Hp} {R:Rs}
def ChV.mv{xs:N7}{cs:List (Nat×be)}(h:ChV K H L xs cs)(hS:ShV pr K C H p L D R)(s:SameB L D H H'):ChV K H' L xs cs:=by obtain ⟨φ,h4⟩:=hS.ext;show Paired.mono (λx c ⟨q,l,e1,e2,e3,e4⟩=>{q,l,e1,(hS.ts s).seqT e2,s _ _ e3 e4 (aO e3 h4 (λz=>nomatch z)),e4}) h
end
section
variable {ins:N0} {wi wd:Nat} {R:Rs} {cs:List (Nat×be)} {b:Nat}
def w9{ws:be}(h:Ws R ws)(hb:b<ws.length):ws.getD b 0<R.length:=by rw [eK,bN hb];show h _ (kB hb)
def vM(h:Fm ins wi R)(hc:ChW R cs wd)(hb:b<wd):Mk ins wi R (pv cs R b) cs.length (1 * cs.length):=
 g7 1 h λR' p h' x hx=>{fq h' (bT (hc x hx).1 p.len) (w9 ((hc x hx).2.2.up p) (by rw [(hc x hx).2.1];show hb)),both_gr}
def DF(h:Fm ins wi R)(hc:ChW R cs wd)(hb:b<wd):Wf ins wi (mY cs R b)/\Gr (2 * cs.length+1) R (mY cs R b).1:=by let m:=vM h hc hb;let g:Gr _ (pv cs R b).1 (mY cs R b).1:=any_gr;rw [m.len] at g;show {fu m.fm m.ws,(m.gr.trans g).mono Oo}
def iN:Pre R (mY cs R b).1:=by let g:Gr (1 * cs.length) R (pv cs R b).1:=pO λR x _=>both_gr;show g.1.trans any_gr.1
def pw(h:Fm ins wi R)(hc:ChW R cs wd){n:Nat}(hn:n<=wd):Mk ins wi R (iO R cs n) n ((2 * cs.length+1) * n):=by let z:=g7 (ins:=ins) (wd:=wi) (f:=mY cs) (2 * cs.length+1) (xs:=List.range n) h λR' p h' x hx=>DF h' (hc.up p) (by let this:=zq43.mp hx;omega);rw [fi] at z;show z
end
def LU{K:N5}{n:Nat}{ci:be}{σ:L2.St}(hn:2=n)(os:List N8)(pp:Addr)(x y:V)(H:Hp)(Z:L2.St->Hp->Prop)(ho:os.length=2)(e:SqT K H pp [x,y])(h:(∃os',os'.length=2/\aI [some x,some y] ci σ=aI os' ci σ)->Z (aI [some x,some y] ci σ) H):Ah K n (jZ (bI 1) (jZ (bI 2) Ag)) (.ref pp) (aI os ci σ) H Z:=by
 match os,ho with
 | [o1,o2],_=>show {pp,[x,y],rfl,e,hn,x,[y],rfl,y,[],rfl,rfl,h {_,rfl,rfl}}
def C3(pr:Params)(K:N5)(C:Addr):Sp:=λvs H Q _=>∃(p c:Addr)(wd:Nat),vs=[.ref p,.ref c,.int (wd:Int)]/\∃(xs:N7)(cs:List (Nat×be)),H c=some (.lst xs)/\wd<=8/\cs.length<=10000/\dE pr K C p H Q (λR=>iO R cs wd) (λR L=>c≠L/\ChV K H L xs cs/\ChW R cs wd)
def Fv{pr:Params}{K:N5}{C p c:Addr}{wd:Nat}{H:Hp}{Q:VK}{E:XK}:C3 pr K C [.ref p,.ref c,.int (wd:Int)] H Q E=∃(xs:N7)(cs:List (Nat×be)),H c=some (.lst xs)/\wd<=8/\cs.length<=10000/\dE pr K C p H Q (λR=>iO R cs wd) (λR L=>c≠L/\ChV K H L xs cs/\ChW R cs wd):=propext {by rintro ⟨_,_,a',e,q⟩;injection e with e1 e;injection e with e2 e;injection e with e3 _;injection e1 with e1;injection e2 with e2;let z2:=cN e3;subst e1 e2 z2;show q,λq=>{_,_,_,rfl,q}}
def AQ(T:Txt K mg t):FnOk P w K mg base CX0 5 t.f_26 t.e_26 ["sheet","choices","width"] (C3 w.params K t.C13):=by
 show T.d_26.F.ok sc_26 ∅ (λcdv A outer s H vs Q E hr h=>?_);obtain ⟨p,c,wd,rfl,xs,cs,hc,w8,lcs,L,D,R,hS,⟨ins,wi,hF⟩,⟨ncL,hV,hW⟩,hl,q⟩:=h;dsimp only at hl q;show {_,(XSs.h (af (aw (i:=3) sc_26.nd rfl ll (aR ac)) (af (bv PassesOwn.never rfl (bL gl T.z11 #[!2]) (ay (i:=4) sc_26.nd rfl lc) (aj (aT (bH Nk Ni Nj aS (!3) #[(am T.c13.cl T.d_15 (gG T) hr.m (yqv 0 vc) #[(aU (tns:=["mark","word"]) (cns:=["sheet","bit"]) (ci:=[0,4]) rfl (Np Om) (aX (!1)) (λ_=>(cy rfl (aQ (ay (i:=1) (show List.Nodup [(".0":Str),("mark":Str),("word":Str),("sheet":Str),("bit":Str)] by decide +kernel) rfl ll (Or.inr Om)) (aQ (ay (i:=2) (show List.Nodup [(".0":Str),("mark":Str),("word":Str),("sheet":Str),("bit":Str)] by decide +kernel) rfl ll (Or.inr Om)) bV)))) (λ_=>bf) (λ_=>(am T.c13.cl T.d_12 (kM T) hr.m (yqv 3 vc) #[!1,aq aP (!2) (yqv 4 vc)])))])])))) (aj (ao (!3)))))),?_}
 ac_rfl;erw [];intro l0 hl0;let s0:=Ng (o:=.lst []) hl0;obtain ⟨n0L,n0D⟩:=hS.ne_new hl0;obtain ⟨φ,hφ⟩:=hS.ext;let ncD:c≠D:=aO hc hφ (λz=>nomatch z);let lx:=hV.length;show later ?_;erw [];show {Oo,Oo,?_};rw [eh];show jx (n:=wd) (λi σ H'=>SameB L D H H'/\ShV w.params K t.C13 H' p L D (iO R cs i).1/\H' l0=some (.lst (aN (iO R cs i).2))/\∃o4,σ=[some (.ref p),some (.ref c),some (.int (wd:Int)),some (.ref l0),o4]) {Nn s0,hS.mv s0,ae,_,rfl} ?_ ?_
 ·rintro i σ H1 hi ⟨sm,hS1,e1,o4,rfl⟩;let m:=pw hF hW (n:=i) Oo;let hb:=eV (f:=mY cs) (λR x=>iN) (xs:=List.range wd) (R:=R) (i:=i+1);rw [List.take_range,qm Oo,zt,bC] at hb;let hb:(mY cs (iO R cs i).1 i).1.length<=100000:=bF hb hl;let es:iO R cs (i+1)=((mY cs (iO R cs i).1 i).1,(iO R cs i).2++[(mY cs (iO R cs i).1 i).2]):=by unfold iO;rw [zt,bC]
  rw [es];let hW1:=hW.up m.gr.1;let hV1:=hV.mv hS sm;let ml:=m.len;let fm:=m.fm;generalize iO R cs i=S at hS1 e1 hb hW1 ml fm;obtain ⟨S1,S2⟩:=S;dsimp only at hS1 e1 hb hW1 ml fm ⊢;let mM:=vM fm hW1 hi;let hlM:(pv cs S1 i).1.length<=100000:=bF (any_gr (ws:=(pv cs S1 i).2)).1.len hb;let hc1:=sm _ _ hc ncL ncD;obtain ⟨dx1,hp1⟩:=hS1.ob;erw [];show {.inl {rfl,_,Nh e1},aE hp1 rfl {{_,Nh hc1},λacc hacc bk=>?_}};obtain ⟨nL,nD⟩:=hS1.ne_new hacc;show cL (xs:=xs) (λj zs H'=>ShC w.params K t.C13 p L D acc H1 (aY (λR (c:Nat×be)=>eF R c.1 (c.2.getD i 0)) S1 (cs.take j)) zs H') (NF hS1 hacc) ?_ ?_ ?_
  ·rintro j zs H' _ ⟨s',_⟩;show Nh (s' _ _ hc1 ncL ncD)
  ·rintro j x zs H2 os hxj hos hC;obtain ⟨ch,hch,q0,l,rfl,h1,h2,h3⟩:=L2.Paired.get hV1 hxj;let h1':=(hS1.ts hC.1).seqT h1;obtain ⟨φ1,hφ1⟩:=hS1.ext;let h2':=hC.1 _ _ h2 h3 (aO h2 hφ1 (λz=>nomatch z));let hj:j<cs.length:=(zq7.mp hch).1;let et:cs.take (j+1)=cs.take j++[ch]:=by rw [dH hj,(zq7.mp hch).2]
   obtain ⟨c1,c2,c3⟩:=hW1 ch (bR hch);let hbit:i<ch.2.length:=by omega
   let lp:=eV (f:=λR (c:Nat×be)=>eF R c.1 (c.2.getD i 0)) (λR x=>both_gr.1) (xs:=cs) (R:=S1) (i:=j+1);let gj:Gr (1 * (cs.take j).length) S1 (aY (λR (c:Nat×be)=>eF R c.1 (c.2.getD i 0)) S1 (cs.take j)).1:=pO λR x _=>both_gr;rw [et,bC] at lp;rw [et,bC];let lq:(aY (λR (c:Nat×be)=>eF R c.1 (c.2.getD i 0)) S1 (cs.take j)).2.length<=100000:=by rw [dq,dz];omega
   show LU rfl os q0 _ _ H2 _ hos h1' λe=>{e,?_}
   unfold ff;dsimp only;rw [zq1 rfl];rwa [gf];obtain ⟨dx2,hp2⟩:=hC.2.1.ob;let hg:(aN ch.2)[i]?=some (.int ((ch.2.getD i 0:Nat):Int)):=gT (by rw [eK,bN hbit];rfl);show aE hp2 rfl {_,_,Nh h2',bO hg,?_};rw [gf];show {L,D,_,hC.2.1,{bT c1 gj.1.len,w9 (c3.up gj.1) hbit},bF lp hlM,λH3 s3 hS3=>?_};show hC.next hacc nL nD s3 hS3 lq
  ·rintro zs H2 ⟨s2,hS2,rfl,ea⟩;rw [lx,eA] at hS2 ea;rw [jH];let e2:=s2 _ _ e1 n0L n0D;show {L,D,(pv cs S1 i).1,(pv cs S1 i).2,hS2,ea,nL,mM.ws,⟨ins,wi,mM.fm⟩,hb,λH3 s3 hS3=>?_};let e3:=s3 _ _ e2 n0L n0D;show {_,e3,by rw [aW,bB];omega,NE ((sm.trans s2).trans s3) hl0,hS3.updL e3 n0L n0D,by rw [ae,natL_snoc];rfl,_,rfl}
 ·rintro σ H1 ⟨sm,hS1,e1,o4,rfl⟩;dsimp only;show later ?_;erw [];show q l0 H1 sm hl0 e1 hS1
variable {E:XK} {H:Hp} {Q:VK} {p:Addr}
def AJ(r b t s e:V):List (Str×V):=[("rows",r),("boxes",b),("tell",t),("said",s),("stop",e)]
def zM(C p:Addr)(r b t s e:V)(H:Hp)(Q:VK):Prop:=∃(dx:Addr),H p=some (.ins C dx [])/\∀H',SameX p H H'->H' p=some (.ins C dx (AJ r b t s e))->Q .non H'
def Cb(C:Addr):Sp:=λvs H Q _=>∃(p:Addr)(r b t s e:V),vs=[.ref p,r,b,t,s,e]/\zM C p r b t s e H Q
def K2{C:Addr}{r b t s e:V}:Cb C [.ref p,r,b,t,s,e] H Q E=zM C p r b t s e H Q:=∅
def vb{X:Cx}{a:Expr}:XE X a λ_ _ _=>False:={λ_ _ _ _ _ _ h=>h.elim}
def FK(pr:Params)(K:N5)(C:Addr):Sp:=λvs H Q _=>∃(p a:Addr),vs=[.ref p,.ref a]/\∃ls:be,H a=some (.lst (aN ls))/\0<ls.length/\ls.length<=10000/\dE pr K C p H Q (λR=>lmS R ls) (λR L=>a≠L/\Ws R ls)
def Ms{pr:Params}{K:N5}{C a:Addr}:FK pr K C [.ref p,.ref a] H Q E=∃ls:be,H a=some (.lst (aN ls))/\0<ls.length/\ls.length<=10000/\dE pr K C p H Q (λR=>lmS R ls) (λR L=>a≠L/\Ws R ls):=∅
def FJ(pr:Params)(K:N5)(C:Addr):Sp:=λvs H Q _=>∃(p a:Addr),vs=[.ref p,.ref a]/\∃ls:be,H a=some (.lst (aN ls))/\ls.length<=10000/\dE pr K C p H Q (λR=>llS R ls) (λR L=>a≠L)
def Mr{pr:Params}{K:N5}{C a:Addr}:FJ pr K C [.ref p,.ref a] H Q E=∃ls:be,H a=some (.lst (aN ls))/\ls.length<=10000/\dE pr K C p H Q (λR=>llS R ls) (λR L=>a≠L):=∅
def jC{ls:be}:dY (aN ls) (some 1) none=aN ls.tail:=by
 cases ls with
 |nil=>rfl
 |cons a l=>
  unfold dY;rw [show HT.sIx (aN (a::l)).length 0 (some 1)=1 by change (if (1:Int)<0 then (1+((aN (a::l)).length:Int)).toNat else min (1:Int).toNat (aN (a::l)).length)=1;rw [zq0 On,aW,cG];change min 1 (l.length+1)=1;omega]
  rw [HT.gK];rw [kC Oq];rfl
def qT{pr:Params}{K:N5}{C p L D a:Addr}{H H1:Hp}{R R1:Rs}{ls:be}{x:Nat}{Q:VK}(hS:ShV pr K C H p L D R)(hS1:ShV pr K C H1 p L D R1)(s1:SameB L D H H1)(ha:H a=some (.lst (aN ls)))(na:a≠L)(naD:a≠D)(l1:ls.length<=10000)
  (q:∀l H',SameB L D H H'->H l=none->H' l=some (.lst (aN (x::ls.tail)))->ShV pr K C H' p L D R1->Q (.ref l) H') :
  ∀(p:Addr),H1 p=none->∃xs,SqL K (upd H1 p (HO.lst [.int (x:Int)])) a xs/\∀(p_1:Addr),upd H1 p (HO.lst [.int (x:Int)]) p_1=none->∃xs_1 zs,upd (upd H1 p (HO.lst [.int (x:Int)])) p_1 (HO.lst (dY xs (some 1) none)) p=some (HO.lst xs_1)/\
   upd (upd H1 p (HO.lst [.int (x:Int)])) p_1 (HO.lst (dY xs (some 1) none)) p_1=some (HO.lst zs)/\xs_1.length+zs.length<=sizeLine/\∀(p_2:Addr),upd (upd H1 p (HO.lst [.int (x:Int)])) p_1 (HO.lst (dY xs (some 1) none)) p_2=none->
    Q (V.ref p_2) (upd (upd (upd H1 p (HO.lst [.int (x:Int)])) p_1 (HO.lst (dY xs (some 1) none))) p_2 (HO.lst (xs_1++zs))):=by
 intro p1 hp1;let t1:=Ng (o:=.lst [V.int (x:Int)]) hp1;let e1:upd H1 p1 (.lst [V.int (x:Int)]) p1=some (.lst [V.int (x:Int)]):=ae;generalize upd H1 p1 (.lst [V.int (x:Int)])=H2 at t1 e1;show {_,Nh (t1 _ _ (s1 _ _ ha na naD)),λp2 hp2=>?_};rw [jC];let t2:=Ng (o:=.lst (aN ls.tail)) hp2;let e2:upd H2 p2 (.lst (aN ls.tail)) p2=some (.lst (aN ls.tail)):=ae;generalize upd H2 p2 (.lst (aN ls.tail))=H3 at t2 e2;show {_,_,t2 _ _ e1,e2,by rw [aW,qu,bB];simp;omega,λp3 hp3=>?_};let t3:=Ng (o:=.lst ([V.int (x:Int)]++aN ls.tail)) hp3;let tt:=(t1.trans t2).trans t3;show q p3 _ (s1.trans (Nn tt)) (hS1.free s1 ((t1.trans t2).free hp3)) ae (hS1.mv tt)
def Ha(T:Txt K mg t):FnOk P w K mg base CX0 1 t.f_27 t.e_27 ["self","rows","boxes","tell","said","stop"] (Cb t.C14):=by
 show T.d_27.F.ok Lv ∅ ?_;rintro cdv A outer s H vs Q E hr ⟨p,v1,v2,v3,v4,v5,rfl,dx,hp,q⟩;show {_,(XSs.h (af (cP (!0) (!1) rfl) (af (cP (!0) (!2) rfl) (af (cP (!0) (!3) rfl) (af (cP (!0) (!4) rfl) (aj (cP (!0) (!5) rfl))))))),?_}
 ac_rfl;erw [];show iu hp T.c14.cl T.n21 Oq (later ?_);rw [cB Os,tZ];erw [];show iu ae T.c14.cl T.n22 Oq (later ?_);rw [cB Om];erw [];show iu ae T.c14.cl T.n23 Oq (later ?_);rw [cB Om];erw [];show iu ae T.c14.cl T.n24 Oq (later ?_);rw [cB Om];erw [];show iu ae T.c14.cl T.n25 Oq ?_;rw [cB Om];show q _ (λc o e n=>?_) ae;rw [ak n,ak n,ak n,ak n,ak n];show e
def Jj(T:Txt K mg t):FnOk P w K mg base CX0 5 t.f_29 t.e_29 ["sheet","latches"] (FK w.params K t.C13):=by
 show T.d_29.F.ok Lw ∅ (λcdv A outer s H vs Q E hr h=>?_);obtain ⟨p,a,rfl,ls,ha,l0,l1,L,D,R,hS,hF,⟨na,hw⟩,hl,q⟩:=h;dsimp only at hl q;show {_,(XSs.h (aj (ao (ax eM (aR #[am T.c13.cl T.d_11 (mf T) hr.m (!0) #[aq aP (!1) ai]]) (bD cO (!1) (bE ai) cj))))),?_}
 ac_rfl;erw [];obtain ⟨dx,hp⟩:=hS.ob;obtain ⟨φ,hφ⟩:=hS.ext;let naD:a≠D:=aO ha hφ (λz=>nomatch z);obtain ⟨x0,hx0⟩:∃x,ls[0]?=some x:={_,bN l0}
 let ex:ls.getD 0 0=x0:=by rw [eK,hx0];rfl
 show aE hp rfl {_,_,Nh ha,bO (gT hx0),?_};rw [jc];let hx1:x0<R.length:=hw _ (bR hx0);unfold lmS at hl q;rw [ex] at hl q;show {L,D,R,hS,hx1,hl,λH1 s1 hS1=>?_};show qT (hS:=hS) hS1 s1 ha na naD l1 q
def Ji(T:Txt K mg t):FnOk P w K mg base CX0 4 t.f_30 t.e_30 ["sheet","coming"] (FJ w.params K t.C13):=by
 show T.d_30.F.ok Lx ∅ ?_;rintro cdv A outer s H vs Q E hr ⟨p,a,rfl,ls,ha,l1,L,D,R,hS,hF,na,hl,q⟩;dsimp only at hl q;show {_,(XSs.h (aj (ao (ax eM (aR #[am T.c13.cl T.d_9 (j7 T) hr.m (!0) #[ai]]) (bD cO (!1) (bE ai) cj))))),?_}
 ac_rfl;erw [];obtain ⟨dx,hp⟩:=hS.ob;obtain ⟨φ,hφ⟩:=hS.ext;let naD:a≠D:=aO ha hφ (λz=>nomatch z);show aE hp rfl ?_;rw [kx];unfold llS at hl q;show {L,D,R,hS,trivial,hl,λH1 s1 hS1=>?_};show qT (hS:=hS) hS1 s1 ha na naD l1 q
variable {wl:Addr}
def StL(K:N5)(H:Hp)(L:Addr)(x:V)(b:Nc):Prop:=∃q a e vs,x=.ref q/\SqT K H q [.ref a,.ref e]/\H a=some (.lst vs)/\a≠L/\Paired (DeedV1 K H) vs b.ds/\SqT K H e (fH b.ed)
def TbL(K:N5)(H:Hp)(L tb:Addr)(F:Nb):Prop:=∃xs,H tb=some (.lst xs)/\tb≠L/\Paired (StL K H L) xs F
structure WyV(N:Addr->Prop)(H:Hp)(wl:Addr)(W:List be):Prop where
 nw:N wl
 ex:∃ps:N2,H wl=some (.lst (ps.map V.ref))/\Paired (λq ws=>H q=some (.lst (aN ws))/\N q) ps W/\(wl::ps).Nodup
section
variable {pr:Params} {K:N5} {C p L D d:Addr} {H0 H H':Hp} {R:Rs}
def WyV.mv{N:Addr->Prop}{W:List be}(h:WyV N H wl W)(hN:∀q,N q->q≠L/\q≠D)(s:SameB L D H H'):WyV N H' wl W:=by obtain ⟨h0,ps,h1,h2,h3⟩:=h;obtain ⟨nL,nD⟩:=hN _ h0;show {h0,ps,s _ _ h1 nL nD,FL.Paired.imp h2 λq _ ws _ hhx=>?_,h3};obtain ⟨z1,z2⟩:=hhx;obtain ⟨mL,mD⟩:=hN _ z2;show {s _ _ z1 mL mD,z2}
def WyV.imp{N N':Addr->Prop}{W:List be}(h:WyV N H wl W)(hN:∀q o,N q->H q=some o->N' q):WyV N' H wl W:=by obtain ⟨h0,ps,h1,h2,h3⟩:=h;show {hN _ _ h0 h1,ps,h1,FL.Paired.imp h2 λq _ ws _ ⟨z1,z2⟩=>{z1,hN _ _ z2 z1},h3}
end
def zg{N:Addr->Prop}{H:Hp}{q:Addr}{ws':be}(nq:N q){ps:N2}{W':List be}(hp:Paired (λq ws=>H q=some (.lst (aN ws))/\N q) ps W'):∀{j:Nat},ps.Nodup->ps[j]?=some q->Paired (λq' ws=>upd H q (.lst (aN ws')) q'=some (.lst (aN ws))/\N q') ps (W'.set j ws'):=by
 induction hp with
 |nil=>intro _ _ _;show .nil
 | @cons a b la lb hd tl ih=>
  intro j hn hj;obtain ⟨n1,n2⟩:=zq42.mp hn
  cases j with
  |zero=>
   cases hj
   show .cons ⟨ae,nq⟩ (FL.Paired.imp tl λq' hq' ws _ ⟨y1,y2⟩=>{?_,y2});rw [ak (λz=>n1 (by rw [<- z];show hq'))];show y1
  |succ j=>have hj':=bR (show la[j]?=some q from hj);show .cons {?_,hd.2} (ih n2 hj);rw [ak (λz=>n1 (by rw [z];show hj'))];show hd.1
def WyV.get{K:N5}{N:Addr->Prop}{H:Hp}{W:List be}(h:WyV N H wl W){i:Nat}(hi:i<W.length):∃(zs:N7)(q:Addr),H wl=some (.lst zs)/\zs.length=W.length/\zs[i]?=some (.ref q)/\tyV K "list" (.ref q) H:=by obtain ⟨h0,ps,h1,h2,h3⟩:=h;obtain ⟨q,hq,z1,z2⟩:=L2.Paired.getR h2 (bN hi);show {_,q,h1,by rw [zq3];show h2.length,by rw [bP,hq];rfl,.inl {rfl,_,Nh z1}}
def wu:∀{W:List be} {i:Nat},(W.getD i []).length<=d8 W
 | [],i=>by simp
 |c::W,0=>by simp [d8]
 |c::W,i+1=>by let z:=wu (W:=W) (i:=i);simp only [d8,List.flatten_cons,List.length_append,List.getD_cons_succ] at z ⊢;omega
def i0{pr:Params}{K:N5}{C p L D:Addr}{H H1:Hp}{R:Rs}{N:Addr->Prop}{q:Addr}{W:List be}{i wi:Nat}{zs:N7}{Q:VK}(hN:∀q,N q->q≠L/\q≠D)(hN0:∀q,N q->H q=none)(sm:SameB L D H H1)(hS:ShV pr K C H1 p L D R)(hy:WyV N H1 wl W)(hi:i<W.length)(hm:d8 W<=20000)
 (hz:H1 wl=some (.lst zs)) (hq:zs[i]?=some (.ref q)) (z:∀H2,SameB L D H H2->ShV pr K C H2 p L D R->WyV N H2 wl (c7 W i wi)->(∀c o,¬N c->H1 c=some o->H2 c=some o)->Q .non H2):pY (.ref q) [.int (wi:Int)] H1 Q:=by
 obtain ⟨h0,ps,h1,h2,h3⟩:=hy;rw [h1] at hz
 cases hz
 rw [bP] at hq;obtain ⟨q',hq',e⟩:=zq30.mp hq
 cases e
 obtain ⟨ws,hws,z1,z2⟩:=L2.Paired.get h2 hq';let hg:W.getD i []=ws:=by rw [eK,hws];rfl
 let hmem:=bR hq';let nq:q≠wl:=λz=>by rw [z] at hmem;show (zq42.mp h3).1 hmem
 obtain ⟨nL,nD⟩:=hN _ z2;let ll:=wu (W:=W) (i:=i);rw [hg] at ll;show {q,_,_,rfl,rfl,z1,by rw [aW,bB];omega,?_};rw [<- natL_snoc];show z _ (NE sm (hN0 _ z2)) (hS.updL z1 nL nD) {h0,ps,by rw [ak nq.symm];show h1,?_,h3} λc o nc e=>by rw [ak (λy=>nc (by rw [y];show z2))];show e
 unfold c7;rw [hg];show zg z2 h2 (zq42.mp h3).2 hq'
def kG{α:Type}{xs:List α}{n:Nat}{x:α}(hl:xs.length=n+1)(h:xs[n]?=some x):atI xs (-1)=some x:=by
 rcases xP xs with z | ⟨l,b,z⟩
 ·rw [z] at hl;cases hl
 ·rw [ua] at z;subst z;rw [bW,dc] at hl;rw [tV Oo,show n-l.length=0 by omega] at h
  cases h
  show L2.iJ _ _
def oX{ins:N0}{wi:Nat}:∀{W:List be} {R:Rs},Fm ins wi R->WsW R W->Fm ins wi (aY dW R W).1/\Pre R (aY dW R W).1
 | [],R,h,_=>{h,.refl}
 |ws::W,R,h,hw=>by let g:=(any_gr (R:=R) (ws:=ws)).1;let z:=oX (W:=W) (fu h (hw ws (cS ..))).1 λx hx=>(hw x (zq8 _ hx)).up g;show {z.1,g.trans z.2}
def zH(pr:Params)(K:N5)(C p tb d m:Addr)(H:Hp)(Q:VK):Prop:=∃(F:Nb)(bx:Str->be)(ns:N0)(wd:Nat)(ms:be),H m=some (.lst (aN ms))/\ms.length=F.length+2/\F.length<=5000/\wd<=8/\(∀b∈F,∀j∈b.ed.tg,j<F.length)/\(∀b∈F,∀n i j,b.ed=.choose n i j->n∈ns)/\
 dE pr K C p H Q (λR=>J3 bx R ms F) (λR L=>TbL K H L tb F/\BxD H d L bx ns/\BxW R bx ns wd/\Ws R ms/\m≠L)
def C4(pr:Params)(K:N5)(C:Addr):Sp:=λvs H Q _=>∃(p tb d m:Addr),vs=[.ref p,.ref tb,.ref d,.ref m]/\zH pr K C p tb d m H Q
def JH{pr:Params}{K:N5}{C p tb d m:Addr}{H:Hp}{Q:VK}{E:XK}:C4 pr K C [.ref p,.ref tb,.ref d,.ref m] H Q E=zH pr K C p tb d m H Q:=∅
def GS(T:Txt K mg t):FnOk P w K mg base CX0 5 t.f_31 t.e_31 ["sheet","table","boxes","marks"] (C4 w.params K t.C13):=by
 show T.d_31.F.ok sc_31 ∅ (λcdv A outer s H vs Q E hr h=>?_);obtain ⟨p,tb,d,m,rfl,F,bx,ns,wd,ms,hm,lm,lF,w8,htg,hnm,L,D,R,hS,⟨ins,wi,hF⟩,⟨hT,hB,hW,hM,nm⟩,hl,q⟩:=h;let hu:=ii hr;dsimp only at hl q;show {_,(XSs.h (af (cK (i:=5) sc_31.nd rfl ll rfl Om (tns:=["mark"]) (cns:=[]) (ci:=[]) rfl (Np Om) (aX (!3)) (λ_=>(ay (i:=1) (show List.Nodup [(".0":Str),("mark":Str)] by decide +kernel) rfl ll (Or.inr Om))) (λ_=>bf) (λ_=>(aR ac))) (af (aT (bH Nk Ni Nj aS (aq aP (!5) ai) #[aq aP (!3) ai])) (af (aT (bH Nk Ni Nj aS (aq aP (!5) (fG eE ai)) #[aq aP (!3) (fG eE ai)])) (af (bv PassesOwn.never rfl (eD T.z25 #[!1,bD cO (!3) (bE ai) cj] gl) (cy rfl (aQ (ay (i:=6) sc_31.nd rfl ll) (aQ (ay (i:=4) sc_31.nd rfl ll) bV))) (af (aw (i:=7) sc_31.nd rfl ll (aq aD (!6) ai)) (aj (aM (aA bi (aq aD (!7) ai) aG (aH _)) (aj (aT (bH Nk Ni Nj aS (aq aP (!5) (ax bM (aq aD (!7) ai) ai)) #[!4]))) (aj (aM (aA bi (aq aD (!7) ai) aG (aH _)) (af (aw (i:=8) sc_31.nd rfl ll (am T.c13.cl T.d_15 (gG T) hr.m (yqv 0 vc) #[fR hu (!2) (aq aD (!7) ai) (λ_ _=>rfl)])) (af (aT (bH Nk Ni Nj aS (aq aP (!5) (ax bM (aq aD (!7) ai) ai)) #[am T.c13.cl T.d_12 (kM T) hr.m (yqv 0 vc) #[!4,!8]])) (aj (aT (bH Nk Ni Nj aS (aq aP (!5) (ax bM (aq aD (!7) ai) ai)) #[am T.c13.cl T.d_12 (kM T) hr.m (yqv 0 vc) #[!4,am T.c13.cl T.d_11 (mf T) hr.m (yqv 0 vc) #[!8]]]))))) (aj (aT (bH Nk Ni Nj aS (aq aP (!5) (fG eE ai)) #[!4]))))))))) (aj (ao (aU (tns:=["wires"]) (cns:=["sheet"]) (ci:=[0]) rfl (Np Om) (aX (!5)) (λ_=>(ay (i:=1) (show List.Nodup [(".0":Str),("wires":Str),("sheet":Str)] by decide +kernel) rfl ll (Or.inr Om))) (λ_=>bf) (λ_=>(am T.c13.cl T.d_15 (gG T) hr.m (yqv 2 vc) #[!1])))))))))),?_}
 ac_rfl;obtain ⟨φ,hφ⟩:=hS.ext;let nmD:m≠D:=aO hm hφ (λz=>nomatch z);erw [];show {{_,Nh hm},λacc hacc bk=>?_};let hN:∀q,H q=none->q≠L/\q≠D:=λq e=>hS.ne_new e;show cL (xs:=aN ms) (λi ys H'=>Same H H'/\WyV (λc=>H c=none) H' acc (List.replicate i [])/\H' acc=some (.lst ys)/\ys.length=i) {Ng hacc,{hacc,[],ae,.nil,Oq},ae,rfl} (λi ys H' _ h=>Nh (h.1 _ _ hm)) ?_ ?_
 ·rintro i x ys H1 os hx hos ⟨s1,⟨h0,ps,h1,h2,h3⟩,e1,ly⟩;let hi:i<ms.length:=by rw [<- aW];show (zq7.mp hx).1
  show kH hos ?_;rwa [];intro a0 ha0;let t1:=Ng (o:=.lst []) ha0;let na0:a0≠acc:=(au e1 ha0).symm;rw [e1] at h1
  cases h1
  let nps:a0∉ps:=λz=>by
   obtain ⟨ws,_,hw⟩:=FL.Paired.mem h2 a0 z;rw [ha0] at hw
   cases hw.1
  show {t1 _ _ e1,by rw [ly,bB];omega,(s1.trans t1).updM hacc,{h0,ps++[a0],by rw [ae,dN];rfl,?_,?_},ae,by rw [bW,ly];rfl}
  ·rw [List.replicate_succ',];show FL.Paired.snoc {by rw [ak na0,ae];rfl,s1.free ha0} (FL.Paired.imp h2 λc hc ws _ ⟨y1,y2⟩=>{?_,y2});rw [ak (λz=>(zq42.mp h3).1 (by rw [<- z];show hc))];show t1 _ _ y1
  ·rw [<- nK,zq92];show {h3,Oq,λx hx y hy=>?_};rw [zq15.mp hy];rintro rfl;rcases zq9.mp hx with z | z
   ·show na0 z
   ·show nps z
 ·rintro ys H1 ⟨s1,hy1,e1,ly⟩;rw [aW] at hy1;let m0:=sC (n:=ms.length);obtain ⟨x0,hx0⟩:∃x,ms[0]?=some x:={_,bN Oo}
  obtain ⟨x1,hx1⟩:∃x,ms[F.length+1]?=some x:={_,bN Oo}
  let g0:ms.getD 0 0=x0:=by rw [eK,hx0];rfl
  let g1:ms.getD (ms.length-1) 0=x1:=by rw [eK,lm];rw [show F.length+2-1=F.length+1 by omega,hx1];rfl
  obtain ⟨zs,q1,hz,lz,hq1,ty1⟩:=hy1.get (K:=K) (i:=1) (by rw [tW];omega);show later ?_;erw [];show {_,_,Nh hz,bO (j:=1) hq1,ty1,_,_,Nh (s1 _ _ hm),bO (gT hx0),i0 hN (λ_ z=>z) (Nn s1) (hS.mv s1) hy1 (by rw [tW];omega) Oo hz hq1 λH2 sm2 hS2 hy2 kp2=>?_};let m1:=de (W:=List.replicate ms.length []) (i:=1) (w:=x0);obtain ⟨zs2,q2,hz2,lz2,hq2,ty2⟩:=hy2.get (K:=K) (i:=ms.length-1) (by rw [addW_len,tW];omega);rw [addW_len,tW] at lz2;show later ?_;erw [];show {_,_,Nh hz2,kG (n:=ms.length-1) Oo hq2,ty2,_,_,Nh (sm2 _ _ hm nm nmD),kG (n:=F.length+1) (by rw [aW];omega) (gT hx1),i0 hN (λ_ z=>z) sm2 hS2 hy2 (by rw [addW_len,tW];omega) Oo hz2 hq2 λH3 sm3 hS3 hy3 kp3=>?_};let ew:c7 (c7 (List.replicate ms.length []) 1 x0) (ms.length-1) x1=eR ms:=by unfold eR;rw [g0,g1]
  rw [ew] at hy3;clear m0 m1 hy1 hy2 hz hz2 hq1 hq2 ty1 ty2 kp2 kp3 e1 ly s1 hS2 sm2 lz lz2 ew;show later ?_;erw [];show {_,Nh (sm3 _ _ hm nm nmD),λsl hsl=>?_};rw [jC];let t4:=Ng (o:=.lst (aN ms.tail)) hsl;let e4:upd H3 sl (.lst (aN ms.tail)) sl=some (.lst (aN ms.tail)):=ae;let hS4:=hS3.mv t4;let sm4:=sm3.trans (Nn t4);let hsl0:=hS3.free sm3 hsl;let hy4:WyV (λc=>H c=none/\c≠sl) (upd H3 sl (.lst (aN ms.tail))) acc (eR ms):=(hy3.imp λc o n e=>{n,(au e hsl)}).mv (λc z=>hN c z.1) (Nn t4);generalize upd H3 sl (.lst (aN ms.tail))=H4 at t4 e4 hS4 sm4 hy4;clear hS3 hy3 sm3 hsl t4;obtain ⟨xs,hxs,ntb,hst⟩:=hT;let ntD:tb≠D:=aO hxs hφ (λz=>nomatch z);let lxs:=hst.length;let lzip:((F.map (·.ed)).zip ms.tail).length=F.length:=by rw [jV,zq3,qu];omega
  let hm3:∀x∈(F.map (·.ed)).zip ms.tail,x.2<R.length/\∀nm i j,x.1=.choose nm i j->Ws R (bx nm)/\(bx nm).length<=wd:=λx hx=>by obtain ⟨z1,z2⟩:=fU hx;show {hM _ (qw z2),λnm i j e=>?_};obtain ⟨b,hb,eb⟩:=zq32.mp z1;let z:=hW nm (hnm b hb nm i j (eb.trans e));show {z.2,Dt z.1}
  let hy0:WyS ins wi ms.length (R,eR ms):={hF,tN hM Oo,oK}
  let lW:(fQ bx R ms F).1.length<=100000:=bF (cv (λR x=>any_gr.1)).len hl;show {tb,sl,rfl,{_,Nh (sm4 _ _ hxs ntb ntD)},{_,Nh e4},w6 (xs:=xs) (ys:=aN ms.tail) (by rw [aW,qu];omega) (λi σ H'=>SameB L D H H'/\ShV w.params K t.C13 H' p L D ((((F.map (·.ed)).zip ms.tail).take i).foldl (eQ bx ms.length) (R,eR ms)).1/\WyV (λc=>H c=none/\c≠sl) H' acc ((((F.map (·.ed)).zip ms.tail).take i).foldl (eQ bx ms.length) (R,eR ms)).2/\H' sl=some (.lst (aN ms.tail))/\∃o4 o6 o7 o8,σ=[some (.ref p),some (.ref tb),some (.ref d),some (.ref m),o4,some (.ref acc),o6,o7,o8]) {sm4,hS4,hy4,e4,_,_,_,_,rfl} ?_ ?_ ?_}
  ·rintro i σ H' _ ⟨sm,_,_,e,_⟩;show {Nh (sm _ _ hxs ntb ntD),Nh e}
  ·rintro i x y σ H5 pp hx hy hpp ⟨sm5,hS5,hy5,e5,o4,o6,o7,o8,rfl⟩;obtain ⟨b,hb,hbv⟩:=L2.Paired.get hst hx;obtain ⟨y,hy',rfl⟩:=zq30.mp (by unfold aN at hy;rw [bP] at hy;show hy);let hiF:i<F.length:=(zq7.mp hb).1;let hz:((F.map (·.ed)).zip ms.tail)[i]?=some (b.ed,y):=by rw [zq69,bP,hb];show ⟨rfl,hy'⟩
   let et:((F.map (·.ed)).zip ms.tail).take (i+1)=((F.map (·.ed)).zip ms.tail).take i++[(b.ed,y)]:=by rw [dH Oo,(zq7.mp hz).2]
   obtain ⟨k5,g5,m5⟩:=kL (bx:=bx) (k:=wd) (l:=((F.map (·.ed)).zip ms.tail).take i) hy0 λx hx=>hm3 x (i9 hx);let b5:=ju (f:=eQ bx ms.length) (λs x=>yZ) (l:=(F.map (·.ed)).zip ms.tail) (s:=(R,eR ms)) (i:=i+1);let w5:=iB (ms:=ms);rw [dz,lzip] at m5;rw [et,jU,iE,Dp] at b5 ⊢;let b5:=bF b5 lW;let hy1:y<R.length:=hM _ (qw (bR hy'));let pr5:=g5.1;generalize (((F.map (·.ed)).zip ms.tail).take i).foldl (eQ bx ms.length) (R,eR ms)=S at hS5 hy5 k5 pr5 m5 b5;obtain ⟨S1,S2⟩:=S;dsimp only at hS5 hy5 k5 pr5 m5 b5 ⊢;let t6:=Ng (o:=.tup [x,V.int (y:Int)]) hpp;let hS6:=hS5.mv t6;let sm6:=sm5.trans (Nn t6);let hy6:=hy5.mv (λc z=>hN c z.1) (Nn t6);let e6:=t6 _ _ e5;obtain ⟨q0,a0,ed0,vs0,rfl,v1,v2,v3,v4,u5⟩:=hbv;let v1:=(hS.ts sm6).seqT v1;let v5:=(hS.ts sm6).seqT u5;let ep:upd H5 pp (.tup [V.ref q0,V.int (y:Int)]) pp=some (.tup [V.ref q0,V.int (y:Int)]):=ae;generalize upd H5 pp (.tup [V.ref q0,V.int (y:Int)])=H6 at t6 hS6 sm6 hy6 e6 v1 v5 ep;show {pp,_,rfl,Nl ep,rfl,_,_,rfl,_,_,rfl,rfl,?_};dsimp only;erw [];show {_,_,v1,rfl,?_};let hN2:∀q,(H q=none/\q≠sl)->q≠L/\q≠D:=λq e=>hN q e.1;obtain ⟨nslL,nslD⟩:=hN sl hsl0;let b_ed:=htg b (bR hb);let b_nm:=hnm b (bR hb);let S2l:=k5.len;dsimp only at S2l
   cases hed:b.ed with
   |go j=>
    rw [hed] at v5 b5 b_ed;let hj:=b_ed j (zq15.mpr rfl);show later ?_;erw [];show {_,_,v5,rfl,rfl,_,rfl,aJ (λ_=>?_) (λz=>absurd rfl z)};show {_,_,v5,rfl,?_};erw [];obtain ⟨zs,q1,hz,lz,hq1,ty1⟩:=hy6.get (K:=K) (i:=j+1) Oo;show {_,_,Nh hz,bO (j:=j+1) hq1,ty1,i0 hN2 (λ_ z=>z.1) sm6 hS6 hy6 Oo Oo hz hq1 λH7 sm7 hS7 hy7 kp7=>?_};show {sm7,hS7,hy7,kp7 _ _ (λz=>z.2 rfl) e6,_,_,_,_,rfl}
   |stop=>
    rw [hed] at v5 b5 b_ed;show later ?_;erw [];show {_,_,v5,rfl,rfl,_,rfl,aJ (λz=>absurd z Ol) (λ_=>{_,_,v5,rfl,rfl,_,rfl,aJ (λz=>absurd z Ol) (λ_=>?_)})};obtain ⟨zs,q1,hz,lz,hq1,ty1⟩:=hy6.get (K:=K) (i:=ms.length-1) Oo;show {_,_,Nh hz,kG (n:=ms.length-1) Oo hq1,ty1,i0 hN2 (λ_ z=>z.1) sm6 hS6 hy6 Oo Oo hz hq1 λH7 sm7 hS7 hy7 kp7=>?_};show {sm7,hS7,hy7,kp7 _ _ (λz=>z.2 rfl) e6,_,_,_,_,rfl}
   |choose nn j1 j2=>rw [hed] at v5 b5 b_ed b_nm u5;let hj1:=b_ed j1 (cS ..);let hj2:=b_ed j2 (by simp [FZ.Ed.tg]);let hnn:=b_nm nn j1 j2 rfl;obtain ⟨p1,p2,p3,p4⟩:=qh (bx:=bx) (R:=S1) (nm:=nn) (m:=y);let l1:=p1.len;let l2:=p2.len;let l3:=p3.len;let l4:=p4.len;let hyS:y<S1.length:=bT hy1 pr5.len;let b6:(tK bx S1 nn y).1.length<=100000:=b5;obtain ⟨w1,w2⟩:=(hW.up pr5) nn hnn;let f1:Wf ins wi (lO bx S1 nn):=fu k5.fm w2;let f2:Wf ins wi (jm bx S1 nn y):=fq f1.1 Oo f1.2;let f3:Wf ins wi (tL bx S1 nn y):=dF f2.1 (bT f1.2 l2);let f12:=f1.2;let f22:=f2.2;let f32:=f3.2;obtain ⟨kvs,hd,hk⟩:=hB.mv hS sm6;obtain ⟨ab,hv,hab,nab⟩:=hk nn hnn;obtain ⟨dx6,hp6⟩:=hS6.ob;show later ?_;erw [];show {_,_,v5,rfl,rfl,_,rfl,aJ (λz=>absurd z Ol) (λ_=>{_,_,v5,rfl,rfl,_,rfl,aJ (λ_=>?_) (λz=>absurd rfl z)})};show aE hp6 rfl {_,_,v5,rfl,d,_,rfl,.inl {kvs,.inr nn,.inl hd,rfl,hv.symm},?_};rw [jH];show {L,D,S1,bx nn,hS6,hab,nab,w2,⟨ins,wi,k5.fm⟩,((show (lO bx S1 nn).1.length<=100000 by omega)),λH7 s7 hS7=>?_};let sm7:=sm6.trans s7;let hy7:=hy6.mv hN2 s7;let v7:=(hS6.ts s7).seqT v5;let e7:=s7 _ _ e6 nslL nslD;show later ?_;erw [];show {_,_,v7,rfl,?_};erw [];obtain ⟨dx7,hp7⟩:=hS7.ob;obtain ⟨naL,naD⟩:=hN2 _ hy7.nw;obtain ⟨zs,q1,hz,lz,hq1,ty1⟩:=hy7.get (K:=K) (i:=j1+1) Oo;show {_,_,Nh hz,bO (j:=j1+1) hq1,ty1,aE hp7 rfl ?_};rw [gf];show {L,D,(lO bx S1 nn).1,hS7,(⟨Oo,f12⟩),((show (jm bx S1 nn y).1.length<=100000 by omega)),λH8 s8 hS8=>?_};show i0 hN2 (λ_ z=>z.1) (sm7.trans s8) hS8 (hy7.mv hN2 s8) Oo Oo (s8 _ _ hz naL naD) hq1 λH9 sm9 hS9 hy9 kp9=>?_;let e9:=kp9 _ _ (λz=>z.2 rfl) (s8 _ _ e7 nslL nslD);let v9:=(hS.ts sm9).seqT u5;clear hz lz hq1 ty1 zs q1;let m9:=de (W:=S2) (i:=j1+1) (w:=(jm bx S1 nn y).2);obtain ⟨zs,q1,hz,lz,hq1,ty1⟩:=hy9.get (K:=K) (i:=j2+1) (by rw [addW_len];omega);obtain ⟨dx9,hp9⟩:=hS9.ob;show later ?_;erw [];show {_,_,v9,rfl,?_};erw [];show {_,_,Nh hz,bO (j:=j2+1) hq1,ty1,aE hp9 rfl (aE hp9 rfl ?_)};rw [jc];show {L,D,(jm bx S1 nn y).1,hS9,((show (lO bx S1 nn).2<_ by omega)),((show (tL bx S1 nn y).1.length<=100000 by omega)),λH10 s10 hS10=>?_};simp only [gf];show {L,D,(tL bx S1 nn y).1,hS10,(⟨Oo,f32⟩),b6,λH11 s11 hS11=>?_};let s12:=s10.trans s11;show i0 hN2 (λ_ z=>z.1) (sm9.trans s12) hS11 (hy9.mv hN2 s12) (by rw [addW_len];omega) (show d8 (c7 S2 (j1+1) (jm bx S1 nn y).2)<=20000 by omega) (s12 _ _ hz naL naD) hq1 λH12 sm12 hS12 hy12 kp12=>?_;show {sm12,hS12,hy12,kp12 _ _ (λz=>z.2 rfl) (s12 _ _ e9 nslL nslD),_,_,_,_,rfl}
  ·rintro σ H5 ⟨sm5,hS5,hy5,e5,o4,o6,o7,o8,rfl⟩;rw [lxs,<- lzip,eA] at hS5 hy5;dsimp only;show later ?_;erw [];obtain ⟨k5,g5,m5⟩:=kL (bx:=bx) (k:=wd) (l:=(F.map (·.ed)).zip ms.tail) hy0 hm3;let w5:=iB (ms:=ms);rw [lzip] at m5;let hl2:(aY dW (fQ bx R ms F).1 (fQ bx R ms F).2).1.length<=100000:=hl;let q2:∀(l:Addr)(H':Hp),SameB L D H H'->H l=none->H' l=some (HO.lst (aN (aY dW (fQ bx R ms F).1 (fQ bx R ms F).2).2))->ShV w.params K t.C13 H' p L D (aY dW (fQ bx R ms F).1 (fQ bx R ms F).2).1->Q (V.ref l) H':=q;obtain ⟨S,hSd⟩:∃S,S=fQ bx R ms F:={_,rfl}
   let hS5:ShV w.params K t.C13 H5 p L D S.1:=by rw [hSd];show hS5
   let hy5:WyV (λc=>H c=none/\c≠sl) H5 acc S.2:=by rw [hSd];show hy5
   let k5:WyS ins wi ms.length S:=by rw [hSd];show k5
   rw [<- hSd] at hl2 q2;obtain ⟨S1,S2⟩:=S;dsimp only at hS5 hy5 hl2 q2;let hN2:∀q,(H q=none/\q≠sl)->q≠L/\q≠D:=λq e=>hN q e.1;obtain ⟨h0,ps,h1,h2,h3⟩:=hy5;let lps:=h2.length;let k5l:=k5.len;dsimp only at k5l;show {{_,Nh h1},λacc2 hacc2 bk2=>?_};obtain ⟨naL,naD⟩:=hN2 _ h0;obtain ⟨n2L,n2D⟩:=hS5.ne_new hacc2;show cL (xs:=ps.map V.ref) (λj zs H'=>ShC w.params K t.C13 p L D acc2 H5 (aY dW S1 (S2.take j)) zs H') (NF hS5 hacc2) ?_ ?_ ?_
   ·rintro j zs H' _ ⟨s',_⟩;show Nh (s' _ _ h1 naL naD)
   ·rintro j x zs H6 os hx hos hC;rw [bP] at hx;obtain ⟨qq,hqq,rfl⟩:=zq30.mp hx;obtain ⟨ws,hws,z1,z2⟩:=L2.Paired.get h2 hqq;obtain ⟨nqL,nqD⟩:=hN2 _ z2;let hj:j<S2.length:=(zq7.mp hws).1;let et:S2.take (j+1)=S2.take j++[ws]:=by rw [dH hj,(zq7.mp hws).2]
    let hb:=eV (f:=dW) (λR x=>any_gr.1) (xs:=S2) (R:=S1) (i:=j+1);rw [et,bC] at hb;rw [et,bC];let lq:(aY dW S1 (S2.take j)).2.length<=100000:=by rw [dq,dz];omega
    obtain ⟨zz,gg⟩:Fm ins wi (aY dW S1 (S2.take j)).1/\Pre S1 (aY dW S1 (S2.take j)).1:=oX k5.fm (λws hw=>k5.ws ws (i9 hw));obtain ⟨dx6,hp6⟩:=hC.2.1.ob;show kH hos ?_;rwa [];show aE hp6 rfl ?_;rw [jH];show {L,D,_,ws,hC.2.1,hC.1 _ _ z1 nqL nqD,nqL,(k5.ws ws (bR hws)).up gg,⟨ins,wi,zz⟩,bF hb hl2,λH7 s7 hS7=>?_};show hC.next hacc2 n2L n2D s7 hS7 lq
   ·rintro zs H6 ⟨s6,hS6,rfl,ea⟩;rw [zq3,lps,eA] at hS6 ea;show q2 acc2 H6 (sm5.trans s6) (hS5.free sm5 hacc2) ea hS6
variable {xs:N7}
section
variable {ins ns:N0} {wi wd:Nat} {bx:Str->be} {R:Rs}
def wt{d:Na}(h:Fm ins wi R)(hW:BxW R bx ns wd)(hd:cX ns d)(w0:0<wd):Mk ins wi R (j5 R bx wd d) wd (9 * wd+2):=by
 let up:∀{p:Rs×be} {j:Nat},Mk ins wi R p wd j->j<=9 * wd+2->Mk ins wi R p wd (9 * wd+2):=λz hj=>{z.fm,z.ws,z.len,z.gr.mono hj}
 cases d with
 |tell o=>show up (jE h hW (hd o (by simp [dM]))) Oo
 |copy n o=>show up (jE h hW (hd o (by simp [dM]))) Oo
 |op k n o o2=>have a:=jE h hW (hd o (by simp [dM]));let b:=jE a.fm (hW.up a.gr.1) (hd o2 (by simp [dM]));let m:=wZ (k:=k) (a.len.trans b.len.symm) (by rw [a.len];show w0) b.fm (a.ws.up b.gr.1) b.ws;show {m.fm,m.ws,m.len.trans a.len,((a.gr.trans b.gr).trans m.gr).mono ?_};rw [a.len];omega
structure ChI(ins ns:N0)(wi wd:Nat)(bx:Str->be)(s:Rs×List (Nat×be)):Prop where
 fm:Fm ins wi s.1
 cw:ChW s.1 s.2 wd
 bw:BxW s.1 bx ns wd
def sq{m:Nat}{nm:Option Str}{s:Rs×List (Nat×be)}{d:Na}(h:ChI ins ns wi wd bx s)(hm:m<s.1.length)(hd:cX ns d)(w0:0<wd):ChI ins ns wi wd bx (cA bx wd m nm s d):=by
 unfold cA
 split
 ·let z:=wt h.fm h.bw hd w0;show {z.fm,λc hc=>?_,h.bw.up z.gr.1};rcases zq27.mp hc with y | y
  ·show h.cw.up z.gr.1 c y
  ·rw [zq15.mp y];show {bT hm z.gr.1.len,z.len,z.ws}
 ·show h
def jb{m:Nat}{nm:Option Str}(w0:0<wd):∀{ds:N9} {s:Rs×List (Nat×be)},ChI ins ns wi wd bx s->m<s.1.length->(∀d∈ds,cX ns d)->ChI ins ns wi wd bx (ds.foldl (cA bx wd m nm) s)
 | [],s,h,_,_=>h
 |d::ds,s,h,hm,hd=>by let z:=jb (nm:=nm) w0 (ds:=ds) (s:=cA bx wd m nm s d) (sq h hm (hd d (cS ..)) w0) (bT hm pickD_pre.len) λx hx=>hd x (zq8 _ hx);show z
def gX{nm:Option Str}(w0:0<wd):∀{l:List (N9×Nat)} {s:Rs×List (Nat×be)},ChI ins ns wi wd bx s->(∀x∈l,x.2<s.1.length/\∀d∈x.1,cX ns d)->ChI ins ns wi wd bx (l.foldl (du bx wd nm) s)
 | [],s,h,_=>h
 |x::l,s,h,hl=>by
  let z:=gX (nm:=nm) w0 (l:=l) (s:=du bx wd nm s x) (jb w0 h (hl x (cS ..)).1 (hl x (cS ..)).2) λy hy=>{bT (hl y (zq8 _ hy)).1 pickB_pre.len,(hl y (zq8 _ hy)).2}
  show z
end
def jv{α β:Type}{f:Rs×List β->α->Rs×List β}(hf:∀s x,s.2.length<=(f s x).2.length):∀{l:List α} {s:Rs×List β},s.2.length<=(l.foldl f s).2.length
 | [],s=>zq4 _
 |x::l,s=>bF (hf s x) (jv hf (l:=l))
def lP{α β:Type}{f:Rs×List β->α->Rs×List β}(hf:∀s x,s.2.length<=(f s x).2.length){l:List α}{s:Rs×List β}{i:Nat}:((l.take i).foldl f s).2.length<=(l.foldl f s).2.length:=by
 conv=>rhs;rw [<- kE i l,jU]
 show jv hf
def sk{bx:Str->be}{wd m:Nat}{nm:Option Str}{s:Rs×List (Nat×be)}{d:Na}:s.2.length<=(cA bx wd m nm s d).2.length:=by
 unfold cA
 split
 ·simp
 ·show zq4 _
def Bf{bx:Str->be}{wd:Nat}{nm:Option Str}{s:Rs×List (Nat×be)}{x:N9×Nat}:s.2.length<=(du bx wd nm s x).2.length:=jv λs d=>sk
def nmV:Option Str->V
 |none=>.non
 |some n=>.str n
def IN{d:Na}:wrV d=nmV (wrO d):=by cases d<;>rfl
def nmV_inj{a b:Option Str}:(nmV a=nmV b)↔a=b:=by cases a<;>cases b<;>simp [nmV]
def AL{a b:Option Str}:yV (nmV a) (nmV b)=true:=by cases a<;>cases b<;>rfl
def PgV(C:Addr)(H:Hp)(L pg:Addr)(wd:Nat)(ins:N0):Prop:=∃dx a b r,H pg=some (.ins C dx (uL (wd:Int) a b r))/\H a=some (.lst (ins.map V.str))/\a≠L
def ChN(K:N5)(H:Hp)(L c:Addr):N7->List (Nat×be)->Prop:=Paired λx ch=>∃q l,x=.ref q/\SqT K H q [.int (ch.1:Int),.ref l]/\H l=some (.lst (aN ch.2))/\l≠L/\l≠c
section
variable {pr:Params} {K:N5} {C CP p L D c pg:Addr} {H H':Hp} {R:Rs}
def PgV.mv{wd:Nat}{ins:N0}(h:PgV CP H L pg wd ins)(hS:ShV pr K C H p L D R)(s:SameB L D H H'):PgV CP H' L pg wd ins:=by obtain ⟨dx,a,b,r,h1,h2,h3⟩:=h;obtain ⟨xs,e1,_⟩:=hS.rows;obtain ⟨φ,e2⟩:=hS.ext;show {dx,a,b,r,s _ _ h1 (aO h1 e1 (λz=>nomatch z)) (aO h1 e2 (λz=>nomatch z)),s _ _ h2 h3 (aO h2 e2 (λz=>nomatch z)),h3}
def ChN.mv{cs:List (Nat×be)}(h:ChN K H L c xs cs)(hS:ShV pr K C H p L D R)(s:SameB L D H H'):ChN K H' L c xs cs:=by obtain ⟨φ,h4⟩:=hS.ext;show Paired.mono (λx ch ⟨q,l,e1,e2,e3,e4,e5⟩=>{q,l,e1,(hS.ts s).seqT e2,s _ _ e3 e4 (aO e3 h4 (λz=>nomatch z)),e4,e5}) h
def ChN.upd{ys zs:N7}{cs:List (Nat×be)}(h:ChN K H L c xs cs)(hc:H c=some (.lst ys)):ChN K (L2.upd H c (.lst zs)) L c xs cs:=
 Paired.mono (λx ch ⟨q,l,e1,e2,e3,e4,e5⟩=>{q,l,e1,(Nv hc).seqT e2,by rw [ak e5];show e3,e4,e5}) h
def ChN.chv{cs:List (Nat×be)}(h:ChN K H L c xs cs):ChV K H L xs cs:=Paired.mono (λx ch ⟨q,l,e1,e2,e3,e4,_⟩=>⟨q,l,e1,e2,e3,e4⟩) h
end
def zZ{pr:Params}{K:N5}{C p L D c l:Addr}{H H8:Hp}{R:Rs}{zs:N7}{cs:List (Nat×be)}{m:Nat}{ws:be}{Z:Hp->N7->Addr->Prop}(hc:H8 c=some (.lst zs))(hC:ChN K H8 L c zs cs)(hS:ShV pr K C H8 p L D R)(hl:H8 l=some (.lst (aN ws)))(nlL:l≠L)(nlc:l≠c)(sm:SameB L D H H8)(hc0:H c=none)(ncL:c≠L)(ncD:c≠D)(lz:zs.length<sizeLine)
 (z:∀p1 H',SameB L D H H'->ShV pr K C H' p L D R->H' c=some (.lst (zs++[.ref p1]))->ChN K H' L c (zs++[.ref p1]) (cs++[(m,ws)])->(∀a o,a≠c->H8 a=some o->H' a=some o)->H'=upd (upd H8 p1 (.tup [.int (m:Int),.ref l])) c (.lst (zs++[.ref p1]))->Z H' zs p1):∀p1,H8 p1=none->∃xs,upd H8 p1 (.tup [.int (m:Int),.ref l]) c=some (.lst xs)/\xs.length<sizeLine/\Z (upd (upd H8 p1 (.tup [.int (m:Int),.ref l])) c (.lst (xs++[.ref p1]))) xs p1:=by
 intro p1 hp1;let t1:=Ng (o:=.tup [V.int (m:Int),.ref l]) hp1;let e1:upd H8 p1 (.tup [V.int (m:Int),.ref l]) p1=some (.tup [V.int (m:Int),.ref l]):=ae;let hC1:=hC.mv hS (Nn t1);let hS1:=hS.mv t1;let hc1:=t1 _ _ hc;let hl1:=t1 _ _ hl;let sm1:=sm.trans (Nn t1);show {zs,hc1,lz,z p1 _ (NE sm1 hc0) (hS1.updL hc1 ncL ncD) ae (fM {p1,l,rfl,(Nv hc1).seqT (Nl e1),by rw [ak nlc];show hl1,nlL,nlc} (hC1.upd hc1)) (λa o n e=>by rw [ak n];show t1 _ _ e) rfl}
def zR(pr:Params)(K:N5)(C CP p pg tb d m:Addr)(v:V)(H:Hp)(Q:VK):Prop:=∃(F:Nb)(bx:Str->be)(ns pins:N0)(wd:Nat)(ms:be)(nm:Option Str)(L D:Addr)(R:Rs),v=nmV nm/\H m=some (.lst (aN ms))/\ms.length=F.length+2/\F.length<=5000/\0<wd/\wd<=8/\(∀b∈F,∀d∈b.ds,cX ns d)/\
 ShV pr K C H p L D R/\(∃ins wi,Fm ins wi R)/\TbL K H L tb F/\BxD H d L bx ns/\BxW R bx ns wd/\Ws R ms/\m≠L/\PgV CP H L pg wd pins/\(gB bx wd R ms F pins nm).1.length<=100000/\(gB bx wd R ms F pins nm).2.length<=10000/\
  ∀c xs H',SameB L D H H'->H c=none->H' c=some (.lst xs)->ChN K H' L c xs (gB bx wd R ms F pins nm).2->ShV pr K C H' p L D (gB bx wd R ms F pins nm).1->Q (.ref c) H'
def qc(pr:Params)(K:N5)(C CP:Addr):Sp:=λvs H Q _=>∃(p pg tb d m:Addr)(v:V),vs=[.ref p,.ref pg,.ref tb,.ref d,.ref m,v]/\zR pr K C CP p pg tb d m v H Q
def FC{pr:Params}{K:N5}{C CP p pg tb d m:Addr}{v:V}{H:Hp}{Q:VK}{E:XK}:qc pr K C CP [.ref p,.ref pg,.ref tb,.ref d,.ref m,v] H Q E=zR pr K C CP p pg tb d m v H Q:=∅
def Hi(T:Txt K mg t):FnOk P w K mg base CX0 8 t.f_32 t.e_32 ["sheet","program","table","boxes","marks","name"] (qc w.params K t.C13 t.C11):=by
 show T.d_32.F.ok sc_32 ∅ (λcdv A outer s H vs Q E hr h=>?_);obtain ⟨p,pg,tb,d,m,v,rfl,F,bx,ns,pins,wd,ms,nm,L,D,R,rfl,hm,lm,lF,w0,w8,hds,hS,⟨ins,wi,hF⟩,hT,hB,hW,hM,nmL,hP,hl,hl2,q⟩:=h;let hu:=ii hr;show {_,(XSs.h (af (aw (i:=6) sc_32.nd rfl ll (aR ac)) (af (bv PassesOwn.never rfl (eD T.z25 #[!2,bD cO (!4) (bE ai) cj] gl) (cy rfl (aQ (ay (i:=7) sc_32.nd rfl ll) (aQ (ay (i:=8) sc_32.nd rfl ll) bV))) (aj (bv PassesOwn.never rfl (aX (aq aD (!7) ai)) (ay (i:=9) sc_32.nd rfl ll) (aj (aM (aA bi (av T.d_5 (iz T) hr.m #[!9] gl) (yqv 5 vc) (aH _)) (aj (aT (bH Nk Ni Nj aS (!6) #[aK #[!8,av T.d_21 (Ea T) hr.m #[yqv 0 vc,!9,!3,aL (!1) rfl] gl]]))) aF))))) (af (aM (aA dZ (yqv 5 vc) (aL (!1) rfl) rfl) (aj (aT (bH Nk Ni Nj aS (!6) #[(aK #[aq aP (!4) ai,(aU (tns:=["bit"]) (cns:=["sheet","name"]) (ci:=[0,5]) rfl (Np Om) (bL gl T.z11 #[aL (!1) rfl]) (λ_=>(ay (i:=1) (show List.Nodup [(".0":Str),("bit":Str),("sheet":Str),("name":Str)] by decide +kernel) rfl ll (Or.inr Om))) (λ_=>bf) (λ_=>(am T.c13.cl T.d_10 (Jl T) hr.m (yqv 2 vc) #[yqv 3 vc,!1])))])]))) aF) (aj (ao (!6))))))),?_}
 ac_rfl;obtain ⟨φ,hφ⟩:=hS.ext;let nmD:m≠D:=aO hm hφ (λz=>nomatch z);erw [];intro c hc;let s0:=Ng (o:=.lst []) hc;obtain ⟨ncL,ncD⟩:=hS.ne_new hc;show later ?_;erw [];show {_,Nh (s0 _ _ hm),λsl hsl=>?_};rw [jC];let t1:=Ng (o:=.lst (aN ms.tail)) hsl;let e1:upd (upd H c (.lst [])) sl (.lst (aN ms.tail)) sl=some (.lst (aN ms.tail)):=ae;let ec1:=t1 _ _ (ae (H:=H) (a:=c) (o:=.lst []));let s1:=s0.trans t1;let hsl0:=s0.free hsl;let nslc:sl≠c:=λz=>by rw [z,ae] at hsl;cases hsl
 obtain ⟨nslL,nslD⟩:=hS.ne_new hsl0;generalize upd (upd H c (.lst [])) sl (.lst (aN ms.tail))=H1 at t1 e1 ec1 s1;obtain ⟨xs,hxs,ntb,hst⟩:=hT;let ntD:tb≠D:=aO hxs hφ (λz=>nomatch z);let ntc:tb≠c:=au hxs hc;let lxs:=hst.length;let lzip:((F.map (·.ds)).zip ms.tail).length=F.length:=by rw [jV,zq3,qu];omega
 let hm3:∀x∈(F.map (·.ds)).zip ms.tail,x.2<R.length/\∀d∈x.1,cX ns d:=λx hx=>by obtain ⟨z1,z2⟩:=fU hx;show {hM _ (qw z2),λd hd=>?_};obtain ⟨b,hb,eb⟩:=zq32.mp z1;show hds b hb d (by rw [eb];show hd)
 let hy0:ChI ins ns wi wd bx (R,[]):={hF,(λc hc=>by cases hc),hW}
 let lC:(chS bx wd R ms F nm).1.length<=100000/\(chS bx wd R ms F nm).2.length<=10000:=by
  unfold gB at hl hl2
  cases nm with
  |none=>show ⟨hl,hl2⟩
  |some n=>
   dsimp only at hl hl2
   by_cases hn:n∈pins
   ·rw [zq1 hn] at hl hl2;rw [bW,dc] at hl2;show {bF (cv λR x=>wr_gr.1).len hl,Oo}
   ·rw [zq0 hn] at hl hl2;show ⟨hl,hl2⟩
 show {tb,sl,rfl,{_,Nh (s1 _ _ hxs)},{_,Nh e1},w6 (xs:=xs) (ys:=aN ms.tail) (by rw [aW,qu];omega) (λi σ H'=>SameB L D H H'/\ShV w.params K t.C13 H' p L D ((((F.map (·.ds)).zip ms.tail).take i).foldl (du bx wd nm) (R,[])).1/\(∃zs,H' c=some (.lst zs)/\ChN K H' L c zs ((((F.map (·.ds)).zip ms.tail).take i).foldl (du bx wd nm) (R,[])).2)/\H' sl=some (.lst (aN ms.tail))/\∃o7 o8 o9,σ=[some (.ref p),some (.ref pg),some (.ref tb),some (.ref d),some (.ref m),some (nmV nm),some (.ref c),o7,o8,o9]) {Nn s1,hS.mv s1,{[],ec1,.nil},e1,_,_,_,rfl} ?_ ?_ ?_}
 ·rintro i σ H' _ ⟨sm,_,_,e,_⟩;show {Nh (sm _ _ hxs ntb ntD),Nh e}
 ·rintro i x y σ H5 pp hx hy hpp ⟨sm5,hS5,⟨zs,hc5,hC5⟩,e5,o7,o8,o9,rfl⟩;obtain ⟨b,hb,hbv⟩:=L2.Paired.get hst hx;obtain ⟨y,hy',rfl⟩:=zq30.mp (by unfold aN at hy;rw [bP] at hy;show hy);let hiF:i<F.length:=(zq7.mp hb).1;let hz:((F.map (·.ds)).zip ms.tail)[i]?=some (b.ds,y):=by rw [zq69,bP,hb];show ⟨rfl,hy'⟩
  let et:((F.map (·.ds)).zip ms.tail).take (i+1)=((F.map (·.ds)).zip ms.tail).take i++[(b.ds,y)]:=by rw [dH Oo,(zq7.mp hz).2]
  let k5:=gX (nm:=nm) w0 (l:=((F.map (·.ds)).zip ms.tail).take i) hy0 λx hx=>hm3 x (i9 hx);let p5:=eG (f:=du bx wd nm) (λs x=>pickB_pre) (l:=((F.map (·.ds)).zip ms.tail).take i) (s:=(R,[]));let b5:=ju (f:=du bx wd nm) (λs x=>pickB_pre) (l:=(F.map (·.ds)).zip ms.tail) (s:=(R,[])) (i:=i+1);let d5:=lP (f:=du bx wd nm) (λs x=>Bf) (l:=(F.map (·.ds)).zip ms.tail) (s:=(R,[])) (i:=i+1);rw [et,jU,iE,Dp] at b5 d5 ⊢;let b5:=bF b5 lC.1;let d5:=bF d5 lC.2;let hy1:y<R.length:=hM _ (qw (bR hy'));generalize (((F.map (·.ds)).zip ms.tail).take i).foldl (du bx wd nm) (R,[])=S at hS5 hC5 k5 p5 b5 d5;let hyS:y<S.1.length:=bT hy1 p5.len;let t6:=Ng (o:=.tup [x,V.int (y:Int)]) hpp;let hS6:=hS5.mv t6;let sm6:=sm5.trans (Nn t6);let hC6:=hC5.mv hS5 (Nn t6);let e6:=t6 _ _ e5;let hc6:=t6 _ _ hc5;obtain ⟨q0,a0,ed0,vs0,rfl,v1,v2,v3,v4,_⟩:=hbv;let a0D:a0≠D:=aO v2 hφ (λz=>nomatch z);let v1:=(hS.ts sm6).seqT v1;let ep:upd H5 pp (.tup [V.ref q0,V.int (y:Int)]) pp=some (.tup [V.ref q0,V.int (y:Int)]):=ae;generalize upd H5 pp (.tup [V.ref q0,V.int (y:Int)])=H6 at t6 hS6 sm6 hC6 e6 hc6 v1 ep;show {pp,_,rfl,Nl ep,rfl,_,_,rfl,_,_,rfl,rfl,?_};dsimp only;erw [];show {_,_,v1,rfl,?_};show {a0,rfl,{_,Nh (sm6 _ _ v2 v3 a0D)},eC (xs:=vs0) (λk σ H'=>SameB L D H H'/\ShV w.params K t.C13 H' p L D ((b.ds.take k).foldl (cA bx wd y nm) S).1/\(∃zs,H' c=some (.lst zs)/\ChN K H' L c zs ((b.ds.take k).foldl (cA bx wd y nm) S).2)/\H' sl=some (.lst (aN ms.tail))/\∃o9,σ=[some (.ref p),some (.ref pg),some (.ref tb),some (.ref d),some (.ref m),some (nmV nm),some (.ref c),some (.ref q0),some (.int (y:Int)),o9]) {sm6,hS6,⟨zs,hc6,hC6⟩,e6,_,rfl} (λk σ H' _ h=>Nh (h.1 _ _ v2 v3 a0D)) ?_ ?_}
  ·rintro k x σ H7 hxk ⟨sm7,hS7,⟨zs7,hc7,hC7⟩,e7,o9,rfl⟩;obtain ⟨dd,hdd,qd,rfl,u1,u2⟩:=L2.Paired.get v4 hxk;let hk:k<b.ds.length:=(zq7.mp hdd).1;let ek:b.ds.take (k+1)=b.ds.take k++[dd]:=by rw [dH hk,(zq7.mp hdd).2]
   let hbd:=hds b (bR hb);let k7:=jb (nm:=nm) w0 (ds:=b.ds.take k) k5 hyS λx hx=>hbd x (i9 hx);let p7:=eG (f:=cA bx wd y nm) (λs x=>pickD_pre) (l:=b.ds.take k) (s:=S);let b7:=ju (f:=cA bx wd y nm) (λs x=>pickD_pre) (l:=b.ds) (s:=S) (i:=k+1);let d7:=lP (f:=cA bx wd y nm) (λs x=>sk) (l:=b.ds) (s:=S) (i:=k+1);rw [ek,jU,iE,Dp] at b7 d7 ⊢;let b7:=bF b7 b5;let d7:=bF d7 d5;generalize (b.ds.take k).foldl (cA bx wd y nm) S=S7 at hS7 hC7 k7 p7 b7 d7;let hy7:y<S7.1.length:=bT hyS p7.len;let lz7:=hC7.length;let hP7:=hP.mv hS sm7;obtain ⟨dxp,ap,bp,rp,hpg,hap,nap⟩:=hP7;erw [fN];show {dd,(hS.ts sm7).seqT u1,u2,?_};rw [IN];show {AL,_,rfl,aJ (λz=>?_) (λz=>?_)}
   ·let z:=nmV_inj.mp z;unfold cA at b7 d7 ⊢;rw [zq1 z] at b7 d7 ⊢;show {.inl {rfl,_,Nh hc7},bS hpg T.c11.cl T.n11 rfl ?_};rw [Ij];show {dd,bx,ns,wd,(hS.ts sm7).seqT u1,u2,rfl,w0,w8,hbd dd (bR hdd),{L,D,S7.1,hS7,⟨ins,wi,k7.fm⟩,{hB.mv hS sm7,k7.bw},b7,λl H8 s8 hl8 e8 hS8=>?_}};obtain ⟨nlL,nlD⟩:=hS7.ne_new hl8;let nlc:l≠c:=λz=>by rw [z,hc7] at hl8;cases hl8
    rw [bW,dc] at d7;show zZ (Z:=λH' zs p1=>SameB L D H H'/\ShV w.params K t.C13 H' p L D (j5 S7.1 bx wd dd).1/\(∃zs,H' c=some (.lst zs)/\ChN K H' L c zs (S7.2++[(y,(j5 S7.1 bx wd dd).2)]))/\H' sl=some (.lst (aN ms.tail))/\∃o9,[some (V.ref p),some (V.ref pg),some (V.ref tb),some (V.ref d),some (V.ref m),some (nmV nm),some (V.ref c),some (V.ref q0),some (V.int (y:Int)),some (V.ref qd)]=[some (V.ref p),some (V.ref pg),some (V.ref tb),some (V.ref d),some (V.ref m),some (nmV nm),some (V.ref c),some (V.ref q0),some (V.int (y:Int)),o9]) (s8 _ _ hc7 ncL ncD) (hC7.mv hS7 s8) hS8 e8 nlL nlc (sm7.trans s8) hc ncL ncD (by rw [lz7,bB];omega) λp1 H9 sm9 hS9 hc9 hC9 kp _=>{sm9,hS9,{_,hc9,hC9},kp _ _ nslc (s8 _ _ e7 nslL nslD),_,rfl}
   ·let z:¬wrO dd=nm:=λy=>z (nmV_inj.mpr y);unfold cA;rw [zq0 z];show {sm7,hS7,⟨zs7,hc7,hC7⟩,e7,_,rfl}
  ·rintro σ H7 ⟨sm7,hS7,hC7,e7,o9,rfl⟩;let l4:=v4.length;rw [l4,eA] at hS7 hC7;show {sm7,hS7,hC7,e7,_,_,_,rfl}
 ·rintro σ H5 ⟨sm5,hS5,⟨zs,hc5,hC5⟩,e5,o7,o8,o9,rfl⟩;rw [lxs,<- lzip,eA] at hS5 hC5;dsimp only;show later ?_;erw [];let k5:=gX (nm:=nm) w0 hy0 hm3;let p5:=eG (f:=du bx wd nm) (λs x=>pickB_pre) (l:=(F.map (·.ds)).zip ms.tail) (s:=(R,[]));let hS5:ShV w.params K t.C13 H5 p L D (chS bx wd R ms F nm).1:=hS5;let hC5:ChN K H5 L c zs (chS bx wd R ms F nm).2:=hC5;let k5:ChI ins ns wi wd bx (chS bx wd R ms F nm):=k5;let p5:Pre R (chS bx wd R ms F nm).1:=p5;let lz5:=hC5.length;obtain ⟨dxp,ap,bp,rp,hpg,hap,nap⟩:=hP.mv hS sm5;show bS hpg T.c11.cl T.n12 rfl {ap,_,rfl,.inl (Nh hap),(by cases nm<;>rfl),(by simp [cf]),_,rfl,?_}
  cases nm with
  |none=>
   rw [show (if false=true then ! inV (nmV none) (pins.map V.str) else inV (nmV none) (pins.map V.str))=false by rw [zq0 On];simp [inV,nmV,eqV]];show Jd (later ?_);erw [];show q c zs H5 sm5 hc hc5 hC5 hS5
  |some n=>
   let ein:inV (nmV (some n)) (pins.map V.str)=decide (n∈pins):=by simp only [inV,nmV,List.any_map];rw [jT,zq89,qo];show {λ⟨x,hx,e⟩=>by let e:(x==n)=true:=e;rw [<- eq_of_beq e];show hx,λh=>{n,h,show (n==n)=true from beq_self_eq_true n}}
   rw [show (if false=true then ! inV (nmV (some n)) (pins.map V.str) else inV (nmV (some n)) (pins.map V.str))=decide (n∈pins) by rw [zq0 On];show ein];unfold gB at hl hl2 q;dsimp only at hl hl2 q;show aJ (λhn=>?_) (λhn=>later ?_)
   ·rw [zq1 hn] at hl hl2 q;obtain ⟨x0,hx0⟩:∃x,ms[0]?=some x:={_,bN Oo}
    let g0:ms.getD 0 0=x0:=by rw [eK,hx0];rfl
    rw [g0] at q;show {.inl {rfl,_,Nh hc5},_,_,Nh (sm5 _ _ hm nmL nmD),bO (gT hx0),bS hpg T.c11.cl T.n11 rfl {_,rfl,Oo,Oo,λacc hacc bk=>?_}};rw [eh];rw [bW,dc] at hl2;show iM (f:=λR (b:Nat)=>inS R n b) hS5 hacc (λR x=>wr_gr.1) hl Oo (λj H' Q' hj sm hS' hl' q'=>?_) (λH6 s6 hS6 ea=>?_)
    ·rwa [];obtain ⟨dx',hp'⟩:=hS'.ob;show aE hp' rfl ?_;change Cj _ _ _ [V.ref p,V.str n,V.int (j:Int)] _ _ _;rw [Mz];show {L,D,_,hS',trivial,hl',q'}
    ·obtain ⟨naL,naD⟩:=hS5.ne_new hacc;let nac:acc≠c:=λz=>by rw [z,hc5] at hacc;cases hacc
     show zZ (Z:=λH' zs p1=>ic _ _ _ H') (s6 _ _ hc5 ncL ncD) (hC5.mv hS5 s6) hS6 ea naL nac (sm5.trans s6) hc ncL ncD (by rw [lz5,bB];omega) λp1 H9 sm9 hS9 hc9 hC9 kp _=>later ?_;erw [];show q c _ H9 sm9 hc hc9 hC9 hS9
   ·rw [zq0 hn] at hl hl2 q;erw [];show q c zs H5 sm5 hc hc5 hC5 hS5
variable {H:Hp} {p:Addr}
def Lat(R:Rs)(ws:be):Prop:=∀l∈ws,∃x,R[l]?=some (.latch x)
def Lat.up{R R':Rs}{ws:be}(h:Lat R ws)(p:Pre R R'):Lat R' ws:=λl hl=>let ⟨x,e⟩:=h l hl;{x,p.get e}
def Lat.lead{R:Rs}{ws:be}{l wi:Nat}(h:Lat R ws):Lat (f9 R l wi) ws:=λk hk=>by
 obtain ⟨x,e⟩:=h k hk;unfold f9
 by_cases z:l=k
 ·subst z;show {wi,by rw [xE (zq7.mp e).1]}
 ·show {x,by rw [Ds z];show e}
def Lat.leads{ws:be}:∀{ps:List (Nat×Nat)} {R:Rs},Lat R ws->Lat (dQ R ps) ws
 | [],R,h=>h
 |p::ps,R,h=>Lat.leads (ps:=ps) h.lead
def leads_len:∀{ps:List (Nat×Nat)} {R:Rs},(dQ R ps).length=R.length
 | [],R=>rfl
 |p::ps,R=>(leads_len (ps:=ps)).trans (by unfold f9;rw [kA])
def rN{ins:N0}{wi:Nat}:∀{ps:List (Nat×Nat)} {R:Rs},Fm ins wi R->(∀p∈ps,p.2<R.length)->Fm ins wi (dQ R ps)
 | [],R,h,_=>h
 |p::ps,R,h,hp=>rN (ps:=ps) (DY h (hp p (cS ..))) λx hx=>by unfold f9;rw [kA];show hp x (zq8 _ hx)
def uv{ps:List (Nat×Nat)}{R:Rs}{p:Nat×Nat}:dQ R (ps++[p])=f9 (dQ R ps) p.1 p.2:=by unfold dQ;rw [jU];rfl
def rA{pr:Params}{K:N5}{C L D a b:Addr}{R:Rs}{ls ws:be}{g:TG}{tb:TS}{Dn:dJ}{σ0:L2.St}(Sh:L2.St->Prop)(hlen:ls.length=ws.length)(hS:ShV pr K C H p L D R)(ha:H a=some (.lst (aN ls)))(hb:H b=some (.lst (aN ws)))(na:a≠L)(nb:b≠L)(hL:Lat R ls)(h0:Sh σ0)
 (hs:∀(i l wi:Nat)(σ:L2.St)(H1:Hp)(pp:Addr)(N:L2.St->Hp->Prop),Sh σ->H1 pp=some (.tup [.int (l:Int),.int (wi:Int)])->ShV pr K C H1 p L D (dQ R ((ls.zip ws).take i))->(∃x,(dQ R ((ls.zip ws).take i))[l]?=some (.latch x))->(∀σ' H',Sh σ'->SameB L D H1 H'->ShV pr K C H' p L D (f9 (dQ R ((ls.zip ws).take i)) l wi)->N σ' H')->g (.ref pp) σ H1 λσ2 H2=>tb {Dn with nx:=N,ct:=N,bk:=Dn.nx} σ2 H2)
 (q:∀σ H',Sh σ->SameB L D H H'->ShV pr K C H' p L D (dQ R (ls.zip ws))->Dn.nx σ H'):kj (Itz K a b) g tb Dn σ0 H:=by
 obtain ⟨φ,hφ⟩:=hS.ext;let naD:a≠D:=aO ha hφ (λz=>nomatch z);let nbD:b≠D:=aO hb hφ (λz=>nomatch z);let lz:(ls.zip ws).length=ls.length:=by rw [jV];omega
 show uq (xs:=aN ls) (ys:=aN ws) (by rw [aW,aW,hlen]) (λi σ H'=>SameB L D H H'/\ShV pr K C H' p L D (dQ R ((ls.zip ws).take i))/\Sh σ) {.refl,hS,h0} ?_ ?_ ?_
 ·rintro i σ H' _ ⟨sm,_⟩;show {Nh (sm _ _ ha na naD),Nh (sm _ _ hb nb nbD)}
 ·rintro i x y σ H1 pp hx hy hpp ⟨sm,hS1,sh⟩;obtain ⟨x,hx',rfl⟩:=zq30.mp (by unfold aN at hx;rw [bP] at hx;show hx);obtain ⟨y,hy',rfl⟩:=zq30.mp (by unfold aN at hy;rw [bP] at hy;show hy);let hi:i<(ls.zip ws).length:=by rw [lz];show (zq7.mp hx').1
  let hz:(ls.zip ws)[i]?=some (x,y):=by rw [zq69];show ⟨hx',hy'⟩
  let et:(ls.zip ws).take (i+1)=(ls.zip ws).take i++[(x,y)]:=by rw [dH hi,(zq7.mp hz).2]
  let s2:=Ng (o:=.tup [V.int (x:Int),V.int (y:Int)]) hpp;rw [et,uv];show hs i x y σ _ pp _ sh ae (hS1.mv s2) (hL.leads x (bR hx')) λσ' H' sh' s3 hS3=>{(sm.trans (Nn s2)).trans s3,hS3,sh'}
 ·rintro σ H1 ⟨sm,hS1,sh⟩;rw [aW,<- lz,eA] at hS1;show q σ H1 sh sm hS1
def qV{pr:Params}{K:N5}{C L D c acc:Addr}{R:Rs}{xs:N7}{cs:List (Nat×be)}{n:Nat}{ci:be}{σ:L2.St}{Q:Hp->Prop}(hn:2=n)(hS:ShV pr K C H p L D R)(hc:H c=some (.lst xs))(hV:ChV K H L xs cs)(hacc:H acc=none)(lc:cs.length<=20000)
 (q:∀H',Same H H'->H' acc=some (.lst (aN (cs.map (·.1))))->Q H'):c5 (Itl K c) (Ah K n (jZ (bI 1) (jZ (bI 2) Ag))) ff (fk 1) 2 ci σ acc Q (upd H acc (.lst [])):=by
 let lx:=hV.length;show cL (xs:=xs) (λi zs H'=>Same H H'/\H' acc=some (.lst zs)/\zs=aN ((cs.take i).map (·.1))) {Ng hacc,ae,rfl} (λi zs H' _ h=>Nh (h.1 _ _ hc)) ?_ ?_
 ·rintro i x zs H1 os hxi hos ⟨s1,e1,rfl⟩;obtain ⟨ch,hch,q0,l,rfl,h1,h2,h3⟩:=L2.Paired.get hV hxi;let hi:i<cs.length:=(zq7.mp hch).1;show LU hn os q0 _ _ H1 _ hos (s1.seqT h1) λe=>{e,?_}
  unfold ff;dsimp only;rw [zq1 rfl];change H1 acc=_/\_/\_;show {e1,by rw [aW,zq3,dz,bB];omega,s1.updM hacc,ae,?_};rw [dH hi,(zq7.mp hch).2,dN,cH,D2,natL_snoc]
 ·rintro zs H1 ⟨s1,e1,rfl⟩;rw [lx,eA] at e1;show q H1 s1 e1
def zJ(pr:Params)(K:N5)(C CP p pg:Addr)(n:Str)(d c:Addr)(H:Hp)(Q:VK):Prop:=∃(bx:Str->be)(ns pins:N0)(wd:Nat)(cs:List (Nat×be)) (xs:N7) (L D:Addr) (R:Rs),H c=some (.lst xs)/\c≠L/\ChV K H L xs cs/\cs.length<=9000/\0<wd/\wd<=8/\n∈ns/\
 ShV pr K C H p L D R/\(∃ins wi,Fm ins wi R)/\ChW R cs wd/\BxD H d L bx ns/\BxW R bx ns wd/\PgV CP H L pg wd pins/\Lat R (bx n)/\(ldW bx wd R cs n).1.length<=100000/\∀H',SameB L D H H'->ShV pr K C H' p L D (ldS bx wd R cs n)->Q .non H'
def C8(pr:Params)(K:N5)(C CP:Addr):Sp:=λvs H Q _=>∃(p pg:Addr)(n:Str)(d c:Addr),vs=[.ref p,.ref pg,.str n,.ref d,.ref c]/\zJ pr K C CP p pg n d c H Q
def JX{pr:Params}{K:N5}{C CP pg d c:Addr}{n:Str}{Q:VK}{E:XK}:C8 pr K C CP [.ref p,.ref pg,.str n,.ref d,.ref c] H Q E=zJ pr K C CP p pg n d c H Q:=∅
def GX(T:Txt K mg t):FnOk P w K mg base CX0 6 t.f_33 t.e_33 ["sheet","program","name","boxes","choices"] (C8 w.params K t.C13 t.C11):=by
 show T.d_33.F.ok sc_33 ∅ (λcdv A outer s H vs Q E hr h=>?_);obtain ⟨p,pg,n,d,c,rfl,bx,ns,pins,wd,cs,xs,L,D,R,hc,ncL,hV,lcs,w0,w8,hn,hS,⟨ins,wi,hF⟩,hCW,hB,hW,hP,hLt,hl,q⟩:=h;let hu:=ii hr;show {_,(XSs.h (af (aw (i:=5) sc_33.nd rfl ll (am T.c13.cl T.d_11 (mf T) hr.m (!0) #[(am T.c13.cl T.d_15 (gG T) hr.m (!0) #[(aU (tns:=["mark","word"]) (cns:=[]) (ci:=[]) rfl (Np Om) (aX (!4)) (λ_=>(cy rfl (aQ (ay (i:=1) (show List.Nodup [(".0":Str),("mark":Str),("word":Str)] by decide +kernel) rfl ll (Or.inr Om)) (aQ (ay (i:=2) (show List.Nodup [(".0":Str),("mark":Str),("word":Str)] by decide +kernel) rfl ll (Or.inr Om)) bV)))) (λ_=>bf) (λ_=>(!1)))])])) (af (aw (i:=6) sc_33.nd rfl ll (av T.d_26 (AQ T) hr.m #[!0,ax eM (!4) (aR #[aK #[!5,fR hu (!3) (!2) (λ_ _=>rfl)]]),aL (!1) rfl] gl)) (aj (bv PassesOwn.never rfl (eD T.z25 #[fR hu (!3) (!2) (λ_ _=>rfl),!6] gl) (cy rfl (aQ (ay (i:=7) sc_33.nd rfl ll) (aQ (ay (i:=8) sc_33.nd rfl ll) bV))) (aj (aT (am T.c13.cl T.d_20 (wF T) hr.m (!0) #[!7,!8])))))))),?_}
 ac_rfl;obtain ⟨φ,hφ⟩:=hS.ext;let ncD:c≠D:=aO hc hφ (λz=>nomatch z);obtain ⟨dx,hp⟩:=hS.ob;erw [];show aE hp rfl (aE hp rfl {{_,Nh hc},λacc hacc bk=>?_});show qV rfl hS hc hV hacc Oo λH1 s1 e1=>?_;obtain ⟨naL,naD⟩:=hS.ne_new hacc;let hS1:=hS.mv s1;let hM:∀x∈cs.map (·.1),x<R.length:=λx hx=>by obtain ⟨ch,hch,rfl⟩:=zq32.mp hx;show (hCW ch hch).1
 let gA:Gr _ R (kX R cs).1:=any_gr;let gI:Gr 1 (kX R cs).1 (dm R cs).1:=inv_gr;let fA:Wf ins wi (kX R cs):=fu hF hM;let fI:Wf ins wi (dm R cs):=dF fA.1 fA.2;let gP:Pre R (dm R cs).1:=gA.1.trans gI.1;let lI:(dm R cs).1.length<=100000:=bF (cv (λR x=>iN)).len hl;let lA:=bF gI.1.len lI;rw [jH];show {L,D,R,((cs.map λ(x:Nat×be)=>x.1)),hS1,e1,naL,hM,⟨ins,wi,hF⟩,lA,λH2 s2 hS2=>?_};simp only [jc];show {L,D,(kX R cs).1,hS2,fA.2,lI,λH3 s3 hS3=>?_};let sm3:=((Nn s1).trans s2).trans s3;clear s1 s2 s3 hS1 hS2 e1;let hc3:=sm3 _ _ hc ncL ncD;let hV3:=hV.mv hS sm3;let hB3:=hB.mv hS sm3;let hP3:=hP.mv hS sm3;obtain ⟨kvs,hd,hk⟩:=hB3;obtain ⟨ab,hv,hab,nab⟩:=hk n hn;obtain ⟨dxp,ap,bp,rp,hpg,hap,nap⟩:=hP3;show later ?_;erw [];rw [show (fj (kX R cs).1 (dW R (cs.map λx=>x.1)).2).2=(dm R cs).2 from rfl];show {d,_,rfl,.inl {kvs,.inr n,.inl hd,rfl,hv.symm},λp1 hp1 p2 hp2=>?_};let t4:=Ng (o:=.tup [V.int ((dm R cs).2:Nat),.ref ab]) hp1;let e4:upd H3 p1 (.tup [V.int ((dm R cs).2:Nat),.ref ab]) p1=some (.tup [V.int ((dm R cs).2:Nat),.ref ab]):=ae;let t5:=Ng (o:=.lst [V.ref p1]) hp2;let e5:upd (upd H3 p1 (.tup [V.int ((dm R cs).2:Nat),.ref ab])) p2 (.lst [V.ref p1]) p2=some (.lst [V.ref p1]):=ae;let lx:=hV.length;show {xs,[V.ref p1],(t4.trans t5) _ _ hc3,e5,by rw [bB];simp;omega,λp3 hp3=>?_};let t6:=Ng (o:=.lst (xs++[V.ref p1])) hp3;let e6:upd (upd (upd H3 p1 (.tup [V.int ((dm R cs).2:Nat),.ref ab])) p2 (.lst [V.ref p1])) p3 (.lst (xs++[V.ref p1])) p3=some (.lst (xs++[V.ref p1])):=ae;let e46:=(t5.trans t6) _ _ e4;let tt:=(t4.trans t5).trans t6;let hp3':=(t4.trans t5).free hp3;change uc K (V.ref pg) (Str.ofString "width") (upd (upd (upd H3 p1 (.tup [V.int ((dm R cs).2:Nat),.ref ab])) p2 (.lst [V.ref p1])) p3 (.lst (xs++[V.ref p1]))) _;generalize upd (upd (upd H3 p1 (.tup [V.int ((dm R cs).2:Nat),.ref ab])) p2 (.lst [V.ref p1])) p3 (.lst (xs++[V.ref p1]))=H4 at e6 e46 tt;let hS4:=hS3.mv tt;let hV4:=hV3.mv hS3 (Nn tt);let sm4:=sm3.trans (Nn tt);obtain ⟨n3L,n3D⟩:=hS3.ne_new hp3';let hW3:=hW.up gP;show bS (tt _ _ hpg) T.c11.cl T.n11 rfl ?_;rw [Fv];show {xs++[V.ref p1],cs++[((dm R cs).2,bx n)],e6,w8,by simp;omega,{L,D,(dm R cs).1,hS4,⟨ins,wi,fI.1⟩,({n3L,fM {p1,ab,rfl,Nl e46,tt _ _ hab,nab} hV4,λch hch=>?_}),hl,λl5 H5 s5 hl5 e5 hS5=>later ?_}}
 ·rcases zq27.mp hch with z | z
  ·show hCW.up gP ch z
  ·rw [zq15.mp z];show {fI.2,(hW3 n hn).1,(hW3 n hn).2}
 let sm5:=sm4.trans s5;obtain ⟨kvs5,hd5,hk5⟩:=hB.mv hS sm5;obtain ⟨ab5,hv5,hab5,nab5⟩:=hk5 n hn;obtain ⟨n5L,n5D⟩:=hS4.ne_new hl5;let cm:=pw (cs:=cs++[((dm R cs).2,bx n)]) (wd:=wd) fI.1 (λch hch=>by
  rcases zq27.mp hch with z | z
  ·show hCW.up gP ch z
  ·rw [zq15.mp z];show {fI.2,(hW3 n hn).1,(hW3 n hn).2}) (zq4 wd)
 let gL:Pre R (ldW bx wd R cs n).1:=gP.trans cm.gr.1;erw [];show {d,_,rfl,.inl {kvs5,.inr n,.inl hd5,rfl,hv5.symm},ab5,l5,rfl,{_,Nh hab5},{_,Nh e5},?_};show rA (R:=(ldW bx wd R cs n).1) (ls:=bx n) (ws:=(ldW bx wd R cs n).2) (λσ=>∃o7 o8,σ=[some (.ref p),some (.ref pg),some (.str n),some (.ref d),some (.ref c),some (.int ((dm R cs).2:Nat)),some (.ref l5),o7,o8]) ((hW n hn).1.trans cm.len.symm) hS5 hab5 e5 nab5 n5L (hLt.up gL) {_,_,rfl} ?_ ?_
 ·rintro i l wi2 σ H6 pp N ⟨o7,o8,rfl⟩ hpp hS6 hx hN;show {pp,_,rfl,Nl hpp,rfl,_,_,rfl,_,_,rfl,rfl,?_};obtain ⟨dx6,hp6⟩:=hS6.ob;dsimp only;erw [];show aE hp6 rfl ?_;rw [Bw];show {L,D,_,hS6,hx,λH7 s7 hS7=>hN _ _ {_,_,rfl} s7 hS7}
 ·rintro σ H6 _ s6 hS6;show q H6 (sm5.trans s6) hS6
variable {n:Str}
def iY(R:Rs)(k:Nat):Rs×be:=aY (λR (_:Nat)=>d6 R) R (List.range k)
def i4(wd:Nat)(R:Rs)(ns:N0):Rs×List (Str×be):=aY (λR n=>((iY R wd).1,(n,(iY R wd).2))) R ns
def qO(bs:List (Str×be))(n:Str):be:=(bs.lookup n).getD []
section
variable (wd:Nat) (ns pins:N0) (F:Nb)
def nA:Rs×List (Str×be):=i4 wd [] ns
def nbx:Str->be:=qO (nA wd ns).2
def nL:Rs×be:=iY (nA wd ns).1 (F.length+2)
def nM:Rs×be:=lmS (nL wd ns F).1 (nL wd ns F).2
def nC:Rs×be:=J3 (nbx wd ns) (nM wd ns F).1 (nM wd ns F).2 F
def nD:Rs×be:=llS (nC wd ns F).1 (nC wd ns F).2
def nE:Rs:=dQ (nD wd ns F).1 ((nL wd ns F).2.zip (nD wd ns F).2)
def nW(R:Rs)(nm:Option Str):Rs×List (Nat×be):=gB (nbx wd ns) wd R (nM wd ns F).2 F pins nm
def nBx(R:Rs)(n:Str):Rs:=ldS (nbx wd ns) wd (nW wd ns pins F R (some n)).1 (nW wd ns pins F R (some n)).2 n
def nG(l:N0):Rs:=l.foldl (nBx wd ns pins F) (nE wd ns F)
def nT:Rs×List (Nat×be):=nW wd ns pins F (nG wd ns pins F ns) none
def nU:Rs×Nat:=kX (nT wd ns pins F).1 (nT wd ns pins F).2
def nS:Rs×be:=iO (nU wd ns pins F).1 (nT wd ns pins F).2 wd
def nZ:Nat:=(nM wd ns F).2.getD (F.length+1) 0
end
def cI(F:Nb):Nat:=(F.map λb=>b.ds.length).sum
section
variable {bx:Str->be} {wd:Nat}
def oA{m:Nat}{nm:Option Str}:∀{ds:N9} {s:Rs×List (Nat×be)},(ds.foldl (cA bx wd m nm) s).2.length<=s.2.length+ds.length
 | [],s=>zq4 _
 |d::ds,s=>by
  let z:=oA (m:=m) (nm:=nm) (ds:=ds) (s:=cA bx wd m nm s d);let y:(cA bx wd m nm s d).2.length<=s.2.length+1:=by
   unfold cA
   split
   ·simp
   ·omega
  rw [iE,cG];omega
def mr{nm:Option Str}:∀{l:List (N9×Nat)} {s:Rs×List (Nat×be)},(l.foldl (du bx wd nm) s).2.length<=s.2.length+(l.map λx=>x.1.length).sum
 | [],s=>zq4 _
 |x::l,s=>by let z:=mr (nm:=nm) (l:=l) (s:=du bx wd nm s x);let y:(du bx wd nm s x).2.length<=s.2.length+x.1.length:=oA;rw [iE,cH,u9];omega
def xC:∀{F:Nb} {ms:be},(((F.map (·.ds)).zip ms).map λx=>x.1.length).sum<=cI F
 | [],ms=>by simp [cI]
 |b::F,[]=>by simp
 |b::F,m::ms=>by let z:=xC (F:=F) (ms:=ms);simp only [List.map_cons,List.zip_cons_cons,List.sum_cons,cI] at z ⊢;omega
def xy{R:Rs}{ms:be}{F:Nb}{pins:N0}{nm:Option Str}:(gB bx wd R ms F pins nm).2.length<=cI F+1:=by
 let z:∀nm,(chS bx wd R ms F nm).2.length<=cI F:=λnm=>by let a:=mr (bx:=bx) (wd:=wd) (nm:=nm) (l:=(F.map (·.ds)).zip ms.tail) (s:=(R,[]));let b:=xC (F:=F) (ms:=ms.tail);let c:(chS bx wd R ms F nm).2.length<=([]:List (Nat×be)).length+_:=a;rw [Dv] at c;omega
 unfold gB
 cases nm with
 |none=>show bF (z none) Oo
 |some n=>
  dsimp only
  split
  ·rw [bW,dc];let this:=z (some n);omega
  ·show bF (z _) Oo
def wch_pre{R:Rs}{ms:be}{F:Nb}{pins:N0}{nm:Option Str}:Pre R (gB bx wd R ms F pins nm).1:=by
 let z:∀nm,Pre R (chS bx wd R ms F nm).1:=λnm=>eG (f:=du bx wd nm) (λs x=>pickB_pre) (s:=(R,[]));unfold gB
 cases nm with
 |none=>show z none
 |some n=>
  dsimp only
  split
  ·show (z _).trans (cv λR x=>wr_gr.1)
  ·show z _
def ldW_pre{R:Rs}{cs:List (Nat×be)}:Pre R (ldW bx wd R cs n).1:=(any_gr.1.trans inv_gr.1).trans (cv λR x=>iN)
def IK{ins ns pins:N0}{wi:Nat}{R:Rs}{ms:be}{F:Nb}{nm:Option Str}(hF:Fm ins wi R)(hW:BxW R bx ns wd)(hM:Ws R ms)(h2:0<ms.length)(w0:0<wd)(hd:∀b∈F,∀d∈b.ds,cX ns d)(hi:∀n∈pins,n∈ins)(hw:wd<=wi):ChI ins ns wi wd bx (gB bx wd R ms F pins nm):=by
 let z:∀nm,ChI ins ns wi wd bx (chS bx wd R ms F nm):=λnm=>gX w0 {hF,(λc hc=>by cases hc),hW} λx hx=>by obtain ⟨z1,z2⟩:=fU hx;show {hM _ (qw z2),λd hd'=>?_};obtain ⟨b,hb,eb⟩:=zq32.mp z1;show hd b hb d (by rw [eb];show hd')
 unfold gB
 cases nm with
 |none=>show z none
 |some n=>
  dsimp only
  split
  ·next hn=>
   let y:=z (some n);let p:Pre R (chS bx wd R ms F (some n)).1:=eG (f:=du bx wd (some n)) (λs x=>pickB_pre) (s:=(R,[]));let m:=g7 (ins:=ins) (wd:=wi) (f:=λR (b:Nat)=>inS R n b) 1 (xs:=List.range wd) y.fm λR' p h' x hx=>{Ja h' (hi n hn) (by let this:=zq43.mp hx;omega),wr_gr}
   show {m.fm,λc hc=>?_,y.bw.up m.gr.1};rcases zq27.mp hc with q | q
   ·show y.cw.up m.gr.1 c q
   ·rw [zq15.mp q];show {bT (iT hM h2) (p.trans m.gr.1).len,?_,m.ws};let ml:=m.len;rw [fi] at ml;show ml
  ·show z _
end
def pN{ins:N0}{wi:Nat}{R:Rs}{k:Nat}(h:Fm ins wi R):Mk ins wi R (iY R k) k k/\Lat (iY R k).1 (iY R k).2:=by
 let m:=g7 (ins:=ins) (wd:=wi) (f:=λR (_:Nat)=>d6 R) 1 (xs:=List.range k) h λR' p h' x hx=>{Av h',latch_gr}
 rw [fi,tU] at m;show {m,?_};let key:∀(xs:be)(R:Rs),Lat (aY (λR (_:Nat)=>d6 R) R xs).1 (aY (λR (_:Nat)=>d6 R) R xs).2:=by
  intro xs
  induction xs with
  |nil=>intro R l hl;cases hl
  |cons x xs ih=>
   intro R l hl;rw [aY] at hl ⊢;rcases zq9.mp hl with rfl | hl
   ·let p:Pre (d6 R).1 (aY (λR (_:Nat)=>d6 R) (d6 R).1 xs).1:=cv λR x=>latch_gr.1;show {R.length,p.get (by unfold d6;simp)}
   ·show ih _ l hl
 show key _ R
structure BsI(ins:N0)(wi wd:Nat)(s:Rs×List (Str×be)):Prop where
 fm:Fm ins wi s.1
 bs:∀b∈s.2,b.2.length=wd/\Ws s.1 b.2/\Lat s.1 b.2
def ug{ins:N0}{wi wd:Nat}:∀{ns:N0} {R:Rs},Fm ins wi R->BsI ins wi wd (i4 wd R ns)/\Gr (wd * ns.length) R (i4 wd R ns).1/\(i4 wd R ns).2.map (·.1)=ns
 | [],R,h=>{{h,(λb hb=>by cases hb)},.refl,rfl}
 |n::ns,R,h=>by
  obtain ⟨m,hl⟩:=pN (k:=wd) h;obtain ⟨z,g,e⟩:=ug (wd:=wd) (ns:=ns) m.fm;let g':Gr (wd * ns.length) (iY R wd).1 (i4 wd (iY R wd).1 ns).1:=g;show {{z.fm,λb hb=>?_},(m.gr.trans g').mono (by rw [cG,zu];omega),?_}
  ·let hb:b∈(n,(iY R wd).2)::(i4 wd (iY R wd).1 ns).2:=hb;rcases zq9.mp hb with rfl | hb
   ·show {m.len,m.ws.up g'.1,hl.up g'.1}
   ·show z.bs b hb
  ·change n::(i4 wd (iY R wd).1 ns).2.map (·.1)=n::ns;show congrArg (n::·) e
def fZ{n:Str}:∀{bs:List (Str×be)},n∈bs.map (·.1)->∃b∈bs,qO bs n=b.2/\b.1=n
 | [],h=>by cases h
 | (m,ws)::bs,h=>by
  by_cases e:n=m
  ·subst e;show {_,cS ..,by unfold qO;rw [mT,beq_self_eq_true];rfl,rfl}
  ·let h':n∈bs.map (·.1):=(zq9.mp h).resolve_left e;obtain ⟨b,hb,h1,h2⟩:=fZ h';show {b,zq8 _ hb,?_,h2};unfold qO at h1 ⊢;rw [mT,beq_eq_false_iff_ne.mpr e];show h1
structure NI(ins:N0)(wi wd:Nat)(ns:N0)(F:Nb)(R:Rs):Prop where
 fm:Fm ins wi R
 bw:BxW R (nbx wd ns) ns wd
 ms:Ws R (nM wd ns F).2
 lat:∀n∈ns,Lat R (nbx wd ns n)
def NI.up{ins:N0}{wi wd:Nat}{ns:N0}{F:Nb}{R R':Rs}(h:NI ins wi wd ns F R)(p:Pre R R')(f:Fm ins wi R'):NI ins wi wd ns F R':={f,h.bw.up p,h.ms.up p,λn hn=>(h.lat n hn).up p}
def CM{R R':Rs}{ws:be}(h:Ws R ws)(e:R'.length=R.length):Ws R' ws:=λx hx=>by rw [e];show h x hx
def NI.leads{ins:N0}{wi wd:Nat}{ns:N0}{F:Nb}{R:Rs}{ps:List (Nat×Nat)}(h:NI ins wi wd ns F R)(hp:∀p∈ps,p.2<R.length):NI ins wi wd ns F (dQ R ps):=
 {rN h.fm hp,λn hn=>{(h.bw n hn).1,CM (h.bw n hn).2 leads_len},CM h.ms leads_len,λn hn=>(h.lat n hn).leads}
section
variable {ins:N0} {wi wd:Nat} {ns pins:N0} {F:Nb}
def nA_ok:BsI ins wi wd (nA wd ns)/\Gr (wd * ns.length) [] (nA wd ns).1/\(nA wd ns).2.map (·.1)=ns:=ug λi r e=>by cases e
def wA:Mk ins wi (nA wd ns).1 (nL wd ns F) (F.length+2) (F.length+2)/\Lat (nL wd ns F).1 (nL wd ns F).2:=pN nA_ok.1.fm
def kf:NI ins wi wd ns F (nM wd ns F).1/\Gr 1 (nL wd ns F).1 (nM wd ns F).1/\(nM wd ns F).2.length=F.length+2:=by
 obtain ⟨a1,a2,a3⟩:=nA_ok (ins:=ins) (wi:=wi) (wd:=wd) (ns:=ns);obtain ⟨m,hl⟩:=wA (ins:=ins) (wi:=wi) (wd:=wd) (ns:=ns) (F:=F);let h0:(nL wd ns F).2.getD 0 0<(nL wd ns F).1.length:=iT m.ws (by rw [m.len];omega);let v:Wf ins wi (fj (nL wd ns F).1 ((nL wd ns F).2.getD 0 0)):=dF m.fm h0;let g:Gr 1 (nL wd ns F).1 (nM wd ns F).1:=inv_gr;show {{v.1,λn hn=>?_,λx hx=>?_,λn hn=>?_},g,?_}
 ·obtain ⟨b,hb,e,_⟩:=fZ (bs:=(nA wd ns).2) (n:=n) (by rw [a3];show hn);unfold nbx;rw [e];show {(a1.bs b hb).1,(a1.bs b hb).2.1.up (m.gr.1.trans g.1)}
 ·let hx:x∈(fj (nL wd ns F).1 ((nL wd ns F).2.getD 0 0)).2::(nL wd ns F).2.tail:=hx;rcases zq9.mp hx with rfl | hx
  ·show v.2
  ·show (m.ws.up g.1) x (qw hx)
 ·obtain ⟨b,hb,e,_⟩:=fZ (bs:=(nA wd ns).2) (n:=n) (by rw [a3];show hn);unfold nbx;rw [e];show (a1.bs b hb).2.2.up (m.gr.1.trans g.1)
 ·change ((fj (nL wd ns F).1 ((nL wd ns F).2.getD 0 0)).2::(nL wd ns F).2.tail).length=_;rw [cG,qu,m.len];omega
def DB{W:List be}{R:Rs}(h:Fm ins wi R)(hw:WsW R W):Mk ins wi R (aY dW R W) W.length (d8 W+W.length):=by
 show {(oX h hw).1,?_,dq,?_}
 ·let key:∀(W:List be) (R:Rs),Fm ins wi R->WsW R W->Ws (aY dW R W).1 (aY dW R W).2:=by
   intro W
   induction W with
   |nil=>intro R _ _ x hx;cases hx
   |cons ws W ih=>
    intro R h hw x hx;let f:=fu h (hw ws (cS ..));let g:=(any_gr (R:=R) (ws:=ws)).1;rw [aY] at hx ⊢;rcases zq9.mp hx with rfl | hx
    ·show bT f.2 (cv (λR x=>any_gr.1)).len
    ·show ih _ f.1 (λy hy=>(hw y (zq8 _ hy)).up g) x hx
  show key W R h hw
 ·let key:∀(W:List be) (R:Rs),Gr (d8 W+W.length) R (aY dW R W).1:=by
   intro W
   induction W with
   |nil=>intro R;show .refl
   |cons ws W ih=>intro R;rw [aY];show (any_gr.trans (ih _)).mono ?_;simp only [d8,List.flatten_cons,List.length_append,List.length_cons];omega
  show key W R
structure NP(wd:Nat)(ns:N0)(F:Nb):Prop where
 w0:0<wd
 ds:∀b∈F,∀d∈b.ds,cX ns d
 nm:∀b∈F,∀n i j,b.ed=.choose n i j->n∈ns
def gh(hp:NP wd ns F){R:Rs}(h:NI ins wi wd ns F R):WyS ins wi (F.length+2) (fQ (nbx wd ns) R (nM wd ns F).2 F)/\Gr ((wd+4) * F.length) R (fQ (nbx wd ns) R (nM wd ns F).2 F).1/\d8 (fQ (nbx wd ns) R (nM wd ns F).2 F).2<=2+2 * F.length:=by
 let lm:=(kf (ins:=ins) (wi:=wi) (wd:=wd) (ns:=ns) (F:=F)).2.2;let lz:((F.map (·.ed)).zip (nM wd ns F).2.tail).length=F.length:=by rw [jV,zq3,qu];omega
 let z:=kL (bx:=nbx wd ns) (k:=wd) (ins:=ins) (wi:=wi) (n:=(nM wd ns F).2.length) (l:=(F.map (·.ed)).zip (nM wd ns F).2.tail) (s:=(R,eR (nM wd ns F).2)) {h.fm,tN h.ms Oo,oK} λx hx=>by obtain ⟨z1,z2⟩:=fU hx;show {h.ms _ (qw z2),λnm i j e=>?_};obtain ⟨b,hb,eb⟩:=zq32.mp z1;let y:=h.bw nm (hp.nm b hb nm i j (eb.trans e));show {y.2,Dt y.1}
 let w0:=iB (ms:=(nM wd ns F).2);rw [lz] at z;show {lm ▸ z.1,z.2.1,bF z.2.2 ?_};change d8 (eR (nM wd ns F).2)+_<=_;omega
def ww(hp:NP wd ns F):Mk ins wi (nM wd ns F).1 (nC wd ns F) (F.length+2) ((wd+8) * F.length+4)/\NI ins wi wd ns F (nC wd ns F).1:=by
 let n0:=(kf (ins:=ins) (wi:=wi) (wd:=wd) (ns:=ns) (F:=F)).1;obtain ⟨y,g,m⟩:=gh hp n0;let a:=DB y.fm y.ws;let gg:Gr ((wd+8) * F.length+4) (nM wd ns F).1 (nC wd ns F).1:=(g.trans a.gr).mono (by
  rw [y.len];let e1:(wd+8) * F.length=(wd+4) * F.length+4 * F.length:=by rw [<- Nat.add_mul]
  omega)
 show {{a.fm,a.ws,a.len.trans y.len,gg},n0.up gg.1 a.fm}
def wx(hp:NP wd ns F):Mk ins wi (nC wd ns F).1 (nD wd ns F) (F.length+2) 1/\NI ins wi wd ns F (nD wd ns F).1:=by
 obtain ⟨c,n⟩:=ww (ins:=ins) (wi:=wi) hp;let f:Wf ins wi (cr (nC wd ns F).1 1):=dO c.fm (.inr rfl);let g:Gr 1 (nC wd ns F).1 (nD wd ns F).1:=wr_gr;show {{f.1,λx hx=>?_,?_,g},n.up g.1 f.1}
 ·let hx:x∈(cr (nC wd ns F).1 1).2::(nC wd ns F).2.tail:=hx;rcases zq9.mp hx with rfl | hx
  ·show f.2
  ·show (c.ws.up g.1) x (qw hx)
 ·change ((cr (nC wd ns F).1 1).2::(nC wd ns F).2.tail).length=_;rw [cG,qu,c.len];omega
def wy(hp:NP wd ns F):NI ins wi wd ns F (nE wd ns F)/\(nE wd ns F).length=(nD wd ns F).1.length:=by obtain ⟨d,n⟩:=wx (ins:=ins) (wi:=wi) hp;show {n.leads λp hp=>d.ws _ (fU hp).2,leads_len}
def rX(hp:NP wd ns F)(hi:∀n∈pins,n∈ins)(hw:wd<=wi){R:Rs}(h:NI ins wi wd ns F R){nm:Option Str}:ChI ins ns wi wd (nbx wd ns) (nW wd ns pins F R nm)/\NI ins wi wd ns F (nW wd ns pins F R nm).1:=by let z:=IK (pins:=pins) (nm:=nm) h.fm h.bw h.ms (by let this:=(kf (ins:=ins) (wi:=wi) (wd:=wd) (ns:=ns) (F:=F)).2.2;omega) hp.w0 hp.ds hi hw;show {z,h.up wch_pre z.fm}
def Ax{R:Rs}{cs:List (Nat×be)}(h:NI ins wi wd ns F R)(hc:ChW R cs wd)(hn:n∈ns):Mk ins wi R (ldW (nbx wd ns) wd R cs n) wd ((cs.length+2)+(2 * cs.length+3) * wd)/\NI ins wi wd ns F (ldS (nbx wd ns) wd R cs n):=by
 let hM:∀x∈cs.map (·.1),x<R.length:=λx hx=>by obtain ⟨ch,hch,rfl⟩:=zq32.mp hx;show (hc ch hch).1
 let gA:Gr _ R (kX R cs).1:=any_gr;rw [zq3] at gA;let gI:Gr 1 (kX R cs).1 (dm R cs).1:=inv_gr;let fA:Wf ins wi (kX R cs):=fu h.fm hM;let fI:Wf ins wi (dm R cs):=dF fA.1 fA.2;let gP:=gA.trans gI;let hW:=h.bw.up gP.1;let m:=pw (cs:=cs++[((dm R cs).2,nbx wd ns n)]) (wd:=wd) fI.1 (λch hch=>by
  rcases zq27.mp hch with z | z
  ·show hc.up gP.1 ch z
  ·rw [zq15.mp z];show {fI.2,(hW n hn).1,(hW n hn).2}) (zq4 wd)
 let g:Gr ((cs.length+2)+(2 * cs.length+3) * wd) R (ldW (nbx wd ns) wd R cs n).1:=(gP.trans m.gr).mono (by
  rw [bW,dc];let e:(2 * (cs.length+1)+1) * wd=(2 * cs.length+3) * wd:=by congr 1
  omega)
 show {⟨m.fm,m.ws,m.len,g⟩,(h.up g.1 m.fm).leads λp hp=>m.ws _ (fU hp).2}
def AF(hp:NP wd ns F)(hi:∀n∈pins,n∈ins)(hw:wd<=wi):∀{l:N0} {R:Rs},NI ins wi wd ns F R->(∀n∈l,n∈ns)->NI ins wi wd ns F (l.foldl (nBx wd ns pins F) R)
 | [],R,h,_=>h
 |n::l,R,h,hl=>by obtain ⟨c,k⟩:=rX (pins:=pins) hp hi hw h (nm:=some n);let z:=(Ax k c.cw (hl n (cS ..))).2;show AF hp hi hw (l:=l) (R:=nBx wd ns pins F R n) z λx hx=>hl x (zq8 _ hx)
def uA{R:Rs}:R.length<=(ldW (nbx wd ns) wd (nW wd ns pins F R (some n)).1 (nW wd ns pins F R (some n)).2 n).1.length/\(ldW (nbx wd ns) wd (nW wd ns pins F R (some n)).1 (nW wd ns pins F R (some n)).2 n).1.length=(nBx wd ns pins F R n).length:=
 {bF wch_pre.len ldW_pre.len,leads_len.symm}
def wz:∀{l:N0} {R:Rs},R.length<=(l.foldl (nBx wd ns pins F) R).length
 | [],R=>zq4 _
 |n::l,R=>by let z:=wz (l:=l) (R:=nBx wd ns pins F R n);let y:=uA (wd:=wd) (ns:=ns) (pins:=pins) (F:=F) (R:=R) (n:=n);rw [iE];omega
def E3{i:Nat}{l:N0}{R:Rs}:((l.take i).foldl (nBx wd ns pins F) R).length<=(l.foldl (nBx wd ns pins F) R).length:=by
 conv=>rhs;rw [<- kE i l,jU]
 show wz
def AG:(nG wd ns pins F ns).length<=(nT wd ns pins F).1.length/\(nT wd ns pins F).1.length<=(nU wd ns pins F).1.length/\(nU wd ns pins F).1.length<=(nS wd ns pins F).1.length:={wch_pre.len,any_gr.1.len,(cv λR x=>iN).len}
def AH(hp:NP wd ns F)(hi:∀n∈pins,n∈ins)(hw:wd<=wi):NI ins wi wd ns F (nG wd ns pins F ns)/\ChI ins ns wi wd (nbx wd ns) (nT wd ns pins F)/\Wf ins wi (nU wd ns pins F)/\Mk ins wi (nU wd ns pins F).1 (nS wd ns pins F) wd ((2 * (nT wd ns pins F).2.length+1) * wd)/\NI ins wi wd ns F (nS wd ns pins F).1:=by
 let g:NI ins wi wd ns F (nG wd ns pins F ns):=AF hp hi hw (wy hp).1 λn hn=>hn;obtain ⟨c,k⟩:=rX (pins:=pins) hp hi hw g (nm:=none);let hM:∀x∈(nT wd ns pins F).2.map (·.1),x<(nT wd ns pins F).1.length:=λx hx=>by obtain ⟨ch,hch,rfl⟩:=zq32.mp hx;show (c.cw ch hch).1
 let u:Wf ins wi (nU wd ns pins F):=fu c.fm hM;let pu:Pre (nT wd ns pins F).1 (nU wd ns pins F).1:=any_gr.1;let m:Mk ins wi (nU wd ns pins F).1 (nS wd ns pins F) wd _:=pw u.1 (c.cw.up pu) (zq4 wd);show {g,c,u,m,(k.up pu u.1).up m.gr.1 m.fm}
end
def BxK(N:Addr->Prop)(H:Hp)(d L:Addr)(bs:List (Str×be)):Prop:=∃kvs,H d=some (.dK kvs)/\Paired (λ(kv:Key×V) (b:Str×be)=>∃a,kv=(.inr b.1,.ref a)/\H a=some (.lst (aN b.2))/\a≠L/\N a) kvs bs
def oZ{N:Addr->Prop}{H:Hp}{L:Addr}{n:Str}:∀{kvs:List (Key×V)} {bs:List (Str×be)},Paired (λ(kv:Key×V) (b:Str×be)=>∃a,kv=(.inr b.1,.ref a)/\H a=some (.lst (aN b.2))/\a≠L/\N a) kvs bs->n∈bs.map (·.1)->∃a,cn kvs (.inr n:Key)=some (.ref a)/\H a=some (.lst (aN (qO bs n)))/\a≠L
 |_,_,.nil,h=>by cases h
 |_,(m,ws)::bs,.cons ⟨a,e,h1,h2,_⟩ t,h=>by
  subst e
  by_cases z:n=m
  ·subst z;show {a,dU rfl,by unfold qO;rw [mT,beq_self_eq_true];show h1,h2}
  ·obtain ⟨a',e1,e2,e3⟩:=oZ t ((zq9.mp h).resolve_left z);show {a',?_,?_,e3}
   ·rw [dw (λy=>z (by injection y with y;show y.symm))];show e1
   ·unfold qO at e2 ⊢;rw [mT,beq_eq_false_iff_ne.mpr z];show e2
section
variable {pr:Params} {K:N5} {C p L D d:Addr} {N:Addr->Prop} {H H':Hp} {R:Rs} {bs:List (Str×be)}
def BxK.bxd(h:BxK N H d L bs):BxD H d L (qO bs) (bs.map (·.1)):=by obtain ⟨kvs,h1,h2⟩:=h;show {kvs,h1,λn hn=>oZ h2 hn}
def BxK.mv(h:BxK N H d L bs)(hS:ShV pr K C H p L D R)(s:SameB L D H H'):BxK N H' d L bs:=by obtain ⟨kvs,h1,h2⟩:=h;obtain ⟨xs,h3,_⟩:=hS.rows;obtain ⟨φ,h4⟩:=hS.ext;show {kvs,s _ _ h1 (aO h1 h3 (λz=>nomatch z)) (aO h1 h4 (λz=>nomatch z)),FL.Paired.imp h2 λkv _ b _ ⟨a,e1,e2,e3,e4⟩=>{a,e1,s _ _ e2 e3 (aO e2 h4 (λz=>nomatch z)),e3,e4}}
def ShV.updD{kvs kvs':List (Key×V)}(h:ShV pr K C H p L D R)(e2:H d=some (.dK kvs)):ShV pr K C (upd H d (.dK kvs')) p L D R:=by
 let tt:TSame H (upd H d (.dK kvs')):={λc ys e=>by rw [ak (aO e e2 (λz=>nomatch z))];show e,λc o u e=>by rw [ak (aO e e2 (λz=>nomatch z))];show e}
 obtain ⟨φ,hφ⟩:=h.ext;obtain ⟨⟨dx,e⟩,⟨xs,h1,h2⟩,kvs0,h3,h4⟩:=h;show {{dx,by rw [ak (aO e e2 (λz=>nomatch z))];show e},{xs,by rw [ak (aO h1 e2 (λz=>nomatch z))];show h1,h2.ts tt},kvs0,oi h3 tt (ak (aO hφ e2 (λz=>nomatch z))),h4}
def Bj{k:Key}{v:V}:∀{kvs:List (Key×V)},(∀kv∈kvs,kv.1≠k)->i6 kvs k v=kvs++[(k,v)]:=λ{kvs} h=>by unfold i6;rw [zq0];intro z;obtain ⟨kv,h1,h2⟩:=zq89.mp z;show h kv h1 (of_decide_eq_true h2)
def BxK.put{n:Str}{ws:be}{a:Addr}{kvs:List (Key×V)}(hd:H d=some (.dK kvs))(hP:Paired (λ(kv:Key×V) (b:Str×be)=>∃a,kv=(.inr b.1,.ref a)/\H a=some (.lst (aN b.2))/\a≠L/\N a) kvs bs)(hn:n∉bs.map (·.1))(ha:H a=some (.lst (aN ws)))(na:a≠L)(nN:N a):
  BxK N (upd H d (.dK (i6 kvs (.inr n) (.ref a)))) d L (bs++[(n,ws)]):=by
 rw [Bj λkv hkv z=>by obtain ⟨b,hb,a',e,_⟩:=FL.Paired.mem hP kv hkv;rw [e] at z;injection z with z;show hn (zq32.mpr ⟨b,hb,z⟩)]
 show {_,ae,FL.Paired.snoc {a,rfl,by rw [ak (aO ha hd (λz=>nomatch z))];show ha,na,nN} (FL.Paired.imp hP λkv _ b _ ⟨a',e1,e2,e3,e4⟩=>{a',e1,by rw [ak (aO e2 hd (λz=>nomatch z))];show e2,e3,e4})}
def dS{H1:Hp}(s:Same H H1)(hL:H L=none)(hD:H D=none)(b:SameB L D H1 H'):Same H H':=λc o e=>b c o (s c o e) (λz=>by rw [z,hL] at e;cases e) (λz=>by rw [z,hD] at e;cases e)
end
def LT{K:N5}{H H':Hp}{L tb:Addr}{F:Nb}(h:Dy K H tb F)(hL:H L=none)(s:Same H H'):TbL K H' L tb F:=by obtain ⟨xs,h1,h2⟩:=h;show {xs,s _ _ h1,au h1 hL,FL.Paired.imp h2 λx _ b _ ⟨q,a,e,vs,e1,e2,e3,e4,e5⟩=>{q,a,e,vs,e1,s.seqT e2,s _ _ e3,au e3 hL,FL.Paired.imp e4 λ_ _ _ _ z=>z.ts s.ts,s.seqT e5}}
structure Gi(K:N5)(CN:Addr)(N:Addr->Prop)(H:Hp)(x L d l:Addr)(R:Rs)(bs:List (Str×be))(tell stop:Nat)(said:be):Prop where
 ob:∃dx,H x=some (.ins CN dx (AJ (.ref L) (.ref d) (.int (tell:Int)) (.ref l) (.int (stop:Int))))
 rows:∃xs,H L=some (.lst xs)/\RowsV K H xs R
 bx:BxK N H d L bs
 sd:H l=some (.lst (aN said))/\l≠L
 nw:N x/\N L/\N d/\N l
def zL(pr:Params)(K:N5)(CP CN pg tb:Addr)(H:Hp)(Q:VK):Prop:=∃(F:Nb)(ns pins:N0)(wd:Nat),Dy K H tb F/\(∃dx a b r,H pg=some (.ins CP dx (uL (wd:Int) a b r))/\H a=some (.lst (pins.map V.str))/\H b=some (.lst (ns.map V.str)))/\NP wd ns F/\wd<=8/\ns.Nodup/\ns.length<=100/\(∀n∈pins,n∈ns)/\(∀b∈F,∀j∈b.ed.tg,j<F.length)/\F.length<=5000/\cI F<=8000/\(nS wd ns pins F).1.length<=100000/\
 ∀x L d l H',Same H H'->Gi K CN (λc=>H c=none) H' x L d l (nS wd ns pins F).1 (nA wd ns).2 (nU wd ns pins F).2 (nZ wd ns F) (nS wd ns pins F).2->Q (.ref x) H'
def Ca(pr:Params)(K:N5)(CP CN:Addr):Sp:=λvs H Q _=>∃(pg tb:Addr),vs=[.ref pg,.ref tb,.bl false]/\zL pr K CP CN pg tb H Q
def Fy{pr:Params}{K:N5}{CP CN pg tb:Addr}{H:Hp}{Q:VK}{E:XK}:Ca pr K CP CN [.ref pg,.ref tb,.bl false] H Q E=zL pr K CP CN pg tb H Q:=∅
def GZ(T:Txt K mg t):FnOk P w K mg base CX0 9 t.f_28 t.e_28 ["program","table","coded"] (Ca w.params K t.C11 t.C14):=by
 show T.d_28.F.ok sc_28 ∅ (λcdv A outer s H vs Q E hr h=>?_);obtain ⟨pg,tb,rfl,F,ns,pins,wd,hT,⟨dxg,ag,bg,rg,hpg,hag,hbg⟩,hp,w8,nd,lns,hin,htg,lF,lD,hl,q⟩:=h;let hu:=ii hr;show {_,(XSs.h (af (aw (i:=3) sc_28.nd rfl lc (mQ T.c13 T.d_7 (Hg T) hr.m gl)) (af (aw (i:=4) sc_28.nd rfl ll zl) (af (bv PassesOwn.never rfl (aX (aL (!0) rfl)) (ay (i:=5) sc_28.nd rfl ll) (aj (CT hu (!4) (!5) (aU (tns:=["bit"]) (cns:=["sheet"]) (ci:=[3]) rfl (Np Om) (bL gl T.z11 #[aL (!0) rfl]) (λ_=>(ay (i:=1) (show List.Nodup [(".0":Str),("bit":Str),("sheet":Str)] by decide +kernel) rfl ll (Or.inr Om))) (λ_=>bf) (λ_=>(gk T.c13.cl T.d_19 (GU T) hr.m (yqv 2 vc)))) rfl))) (af (aw (i:=6) sc_28.nd rfl ll (ax bM (az aC gl T.z15 Nm #[!1]) ai)) (af (cK (i:=7) sc_28.nd rfl ll rfl Om (tns:=["k"]) (cns:=["sheet"]) (ci:=[3]) rfl (Np Om) (bL gl T.z11 #[f6 (aV (!2)) vb (!6)]) (λ_=>(ay (i:=1) (show List.Nodup [(".0":Str),("k":Str),("sheet":Str)] by decide +kernel) rfl ll (Or.inr Om))) (λ_=>bf) (λ_=>(gk T.c13.cl T.d_19 (GU T) hr.m (yqv 2 vc)))) (af (aw (i:=8) sc_28.nd rfl ll (f6 (aV (!2)) vb (av T.d_29 (Jj T) hr.m #[yqv 3 vc,!7] gl))) (af (aw (i:=9) sc_28.nd rfl ll (av T.d_31 (GS T) hr.m #[yqv 3 vc,!1,!4,!8] gl)) (af (aw (i:=10) sc_28.nd rfl ll (f6 (aV (!2)) vb (av T.d_30 (Ji T) hr.m #[yqv 3 vc,!9] gl))) (af (bv PassesOwn.never rfl (eD T.z25 #[!7,!10] gl) (cy rfl (aQ (ay (i:=11) sc_28.nd rfl ll) (aQ (ay (i:=12) sc_28.nd rfl ll) bV))) (aj (aT (am T.c13.cl T.d_20 (wF T) hr.m (yqv 3 vc) #[!11,!12])))) (af (bv PassesOwn.never rfl (aX (aL (!0) rfl)) (ay (i:=5) sc_28.nd rfl ll) (aj (aT (av T.d_33 (GX T) hr.m #[yqv 3 vc,!0,!5,!4,av T.d_32 (Hi T) hr.m #[yqv 3 vc,!0,!1,!4,!8,!5] gl] gl)))) (af (aw (i:=13) sc_28.nd rfl ll (av T.d_32 (Hi T) hr.m #[yqv 3 vc,!0,!1,!4,!8,gi] gl)) (af (aw (i:=14) sc_28.nd rfl ll (am T.c13.cl T.d_15 (gG T) hr.m (yqv 3 vc) #[(aU (tns:=["mark","word"]) (cns:=[]) (ci:=[]) rfl (Np Om) (aX (!13)) (λ_=>(cy rfl (aQ (ay (i:=1) (show List.Nodup [(".0":Str),("mark":Str),("word":Str)] by decide +kernel) rfl ll (Or.inr Om)) (aQ (ay (i:=2) (show List.Nodup [(".0":Str),("mark":Str),("word":Str)] by decide +kernel) rfl ll (Or.inr Om)) bV)))) (λ_=>bf) (λ_=>(!1)))])) (aj (ao (jR T.c14 T.d_27 (Ha T) hr.m #[aL (yqv 3 vc) rfl,!4,!14,av T.d_26 (AQ T) hr.m #[yqv 3 vc,!13,aL (!0) rfl] gl,aq aP (!8) (fG eE ai)] gl)))))))))))))))),?_}
 ac_rfl;erw [];intro p dxp hp0 hdx0 ndx;let t1:Same H (upd (upd H dxp (.own p)) p (.ins t.C13 dxp [])):=(Ng hdx0).trans (Ng (by rw [ak ndx.symm];show hp0));let e1:upd (upd H dxp (.own p)) p (.ins t.C13 dxp []) p=some (.ins t.C13 dxp []):=ae;generalize upd (upd H dxp (.own p)) p (.ins t.C13 dxp [])=H1 at t1 e1;rw [K8];show {dxp,e1,λL D H2 s2 hL2 hD2 hS2=>{rfl,later ?_}};let t2:Same H H2:=λc o e=>s2 c o (t1 c o e) (λz=>by rw [z,hp0] at e;cases e);let hL0:=t1.free hL2;let hD0:=t1.free hD2;clear t1 e1 s2 hL2 hD2;erw [];intro d hd2;let t3:=Ng (o:=.dK []) hd2;let e3:upd H2 d (.dK []) d=some (.dK []):=ae;let hS3:=hS2.mv t3;let s3:=t2.trans t3;let hd0:=t2.free hd2;generalize upd H2 d (.dK [])=H3 at t3 e3 hS3 s3;clear hS2 hd2 t3 t2;show later ?_;erw [];show bS (s3 _ _ hpg) T.c11.cl T.n13 rfl {bg,rfl,{_,Nh (s3 _ _ hbg)},?_};show eC (xs:=ns.map V.str) (λi σ H'=>Same H H'/\ShV w.params K t.C13 H' p L D (i4 wd [] (ns.take i)).1/\BxK (λc=>H c=none) H' d L (i4 wd [] (ns.take i)).2/\∃o5,σ=[some (.ref pg),some (.ref tb),some (.bl false),some (.ref p),some (.ref d),o5,none,none,none,none,none,none,none,none,none]) {s3,hS3,{[],e3,.nil},_,rfl} (λi σ H' _ h=>Nh (h.1 _ _ hbg)) ?_ ?_
 ·rintro i x σ H4 hx ⟨s4,hS4,hB4,o5,rfl⟩;rw [bP] at hx;obtain ⟨n,hn,rfl⟩:=zq30.mp hx;let hi:i<ns.length:=(zq7.mp hn).1;let et:ns.take (i+1)=ns.take i++[n]:=by rw [dH hi,(zq7.mp hn).2]
  obtain ⟨z1,z2,z3⟩:=ug (ins:=[]) (wi:=0) (wd:=wd) (ns:=ns.take i) (R:=[]) λi r e=>by cases e
  let z2l:=z2.2;rw [dz,Dv] at z2l;let hmul:wd * min i ns.length<=8 * 100:=Dr w8 Oo;let hnn:n∉(i4 wd [] (ns.take i)).2.map (·.1):=by rw [z3];intro hm;let this:=(zq92.mp ((et ▸ List.Sublist.nodup (CZ (i+1) ns) nd:(ns.take i++[n]).Nodup))).2.2 n hm n Oq;show this rfl
  let es:i4 wd [] (ns.take i++[n])=((iY (i4 wd [] (ns.take i)).1 wd).1,(i4 wd [] (ns.take i)).2++[(n,(iY (i4 wd [] (ns.take i)).1 wd).2)]):=by unfold i4;rw [bC]
  rw [et,es];generalize i4 wd [] (ns.take i)=S at hS4 hB4 z1 z2l z3 hnn;let ml:=(pN (k:=wd) z1.fm).1;let mg2:=ml.gr.2;erw [];show bS (s4 _ _ hpg) T.c11.cl T.n11 rfl {_,rfl,Oo,Oo,λacc hacc bk=>?_};rw [eh];show iM (f:=λR (_:Nat)=>d6 R) hS4 hacc (λR x=>latch_gr.1) (show (iY S.1 wd).1.length<=100000 by omega) Oo (λj H' Q' hj sm hS' hl' q'=>?_) (λH5 s5 hS5 ea=>?_)
  ·rwa [];obtain ⟨dx',hp'⟩:=hS'.ob;show aE hp' rfl ?_;rw [Fx];show {L,D,_,hS',trivial,hl',q'}
  ·let s5':=dS s4 hL0 hD0 s5;obtain ⟨naL,naD⟩:=hS4.ne_new hacc;obtain ⟨kvs,hk,hP⟩:=hB4.mv hS4 s5;let lk:=hP.length;let lS:S.2.length<=100:=by let z3l:=congrArg List.length z3;rw [zq3,dz] at z3l;omega
   show {_,DPut.k (k:=.inr n) hk (by rw [lk,bB];omega),s5'.updM hd0,hS5.updD hk,BxK.put hk hP hnn ea naL (s4.free hacc),_,rfl}
 ·rintro σ H4 ⟨s4,hS4,hB4,o5,rfl⟩;rw [zq3,eA] at hS4 hB4;let hS4:ShV w.params K t.C13 H4 p L D (nA wd ns).1:=hS4;let hB4:BxK (λc=>H c=none) H4 d L (nA wd ns).2:=hB4;clear e3 hS3 s3;dsimp only;show later ?_;let hTb:∀H',Same H H'->TbL K H' L tb F:=λH' s=>LT hT hL0 s;let hPg:∀H',Same H H'->PgV t.C11 H' L pg wd pins:=λH' s=>{_,_,_,_,s _ _ hpg,s _ _ hag,au hag hL0}
  obtain ⟨xs,hxs,hst⟩:=hT;let lxs:=hst.length;erw [];show {_,.inl (Nh (s4 _ _ hxs)),later ?_};erw [];show {Oo,Oo,λla hla bk=>?_};rw [show ((xs.length:Int)+2).toNat=F.length+2 by omega];obtain ⟨a1,a2,a3⟩:=nA_ok (ins:=ns) (wi:=wd) (wd:=wd) (ns:=ns);obtain ⟨m1,lt1⟩:=wA (ins:=ns) (wi:=wd) (wd:=wd) (ns:=ns) (F:=F);obtain ⟨n2,g2,l2⟩:=kf (ins:=ns) (wi:=wd) (wd:=wd) (ns:=ns) (F:=F);obtain ⟨m3,n3⟩:=ww (ins:=ns) (wi:=wd) hp;obtain ⟨m4,n4⟩:=wx (ins:=ns) (wi:=wd) hp;obtain ⟨n5,l5⟩:=wy (ins:=ns) (wi:=wd) hp;obtain ⟨k1,k2,k3,k4,k5⟩:=AH (ins:=ns) (wi:=wd) (pins:=pins) hp hin (zq4 wd);obtain ⟨j1,j2,j3⟩:=AG (wd:=wd) (ns:=ns) (pins:=pins) (F:=F);let lG:(nE wd ns F).length<=(nG wd ns pins F ns).length:=wz;let lD4:=m4.gr.1.len;let lC3:=m3.gr.1.len;let lM2:=g2.1.len;let lL1:=m1.gr.1.len;show iM (f:=λR (_:Nat)=>d6 R) hS4 hla (λR x=>latch_gr.1) (show (nL wd ns F).1.length<=100000 by omega) Oo (λj H' Q' hj sm hS' hl' q'=>?_) (λH5 s5 hS5 e5=>?_)
  ·rwa [];obtain ⟨dx',hp'⟩:=hS'.ob;show aE hp' rfl ?_;rw [Fx];show {L,D,_,hS',trivial,hl',q'}
  let hS5:ShV w.params K t.C13 H5 p L D (nL wd ns F).1:=hS5;let e5:H5 la=some (.lst (aN (nL wd ns F).2)):=e5;let hB5:=hB4.mv hS4 s5;let t5:=dS s4 hL0 hD0 s5;let hla0:=s4.free hla;obtain ⟨nlaL,nlaD⟩:=hS4.ne_new hla;clear hS4 hB4 s5 s4 hla;show later ?_;erw [];rw [Ms];show {_,e5,by rw [m1.len];omega,by rw [m1.len];omega,{L,D,_,hS5,{_,_,m1.fm},⟨nlaL,m1.ws⟩,((show (nM wd ns F).1.length<=100000 by omega)),λma H6 s6 hma e6 hS6=>later ?_}};let hS6:ShV w.params K t.C13 H6 p L D (nM wd ns F).1:=hS6;let e6:H6 ma=some (.lst (aN (nM wd ns F).2)):=e6;let hB6:=hB5.mv hS5 s6;let t6:=dS t5 hL0 hD0 s6;let la6:=s6 _ _ e5 nlaL nlaD;obtain ⟨nmaL,nmaD⟩:=hS5.ne_new hma;clear hS5 hB5 s6 t5 e5 hma;let bxd:∀{H'},BxK (λc=>H c=none) H' d L (nA wd ns).2->BxD H' d L (nbx wd ns) ns:=λh=>by let z:=h.bxd;rw [a3] at z;show z
  erw [];rw [JH];show {F,nbx wd ns,ns,wd,(nM wd ns F).2,e6,l2,lF,w8,htg,hp.nm,{L,D,_,hS6,{_,_,n2.fm},{hTb _ t6,bxd hB6,n2.bw,n2.ms,nmaL},((show (nC wd ns F).1.length<=100000 by omega)),λca H7 s7 hca e7 hS7=>later ?_}};let hS7:ShV w.params K t.C13 H7 p L D (nC wd ns F).1:=hS7;let e7:H7 ca=some (.lst (aN (nC wd ns F).2)):=e7;let hB7:=hB6.mv hS6 s7;let t7:=dS t6 hL0 hD0 s7;let la7:=s7 _ _ la6 nlaL nlaD;let ma7:=s7 _ _ e6 nmaL nmaD;obtain ⟨ncaL,ncaD⟩:=hS6.ne_new hca;clear hS6 hB6 s7 t6 la6 e6 hca;erw [];rw [Mr];show {_,e7,by rw [m3.len];omega,{L,D,_,hS7,{_,_,n3.fm},ncaL,((show (nD wd ns F).1.length<=100000 by omega)),λle H8 s8 hle e8 hS8=>later ?_}};let hS8:ShV w.params K t.C13 H8 p L D (nD wd ns F).1:=hS8;let e8:H8 le=some (.lst (aN (nD wd ns F).2)):=e8;let hB8:=hB7.mv hS7 s8;let t8:=dS t7 hL0 hD0 s8;let la8:=s8 _ _ la7 nlaL nlaD;let ma8:=s8 _ _ ma7 nmaL nmaD;obtain ⟨nleL,nleD⟩:=hS7.ne_new hle;clear hS7 hB7 s8 t7 la7 ma7 hle e7;erw [];show {la,le,rfl,{_,Nh la8},{_,Nh e8},?_};show rA (R:=(nD wd ns F).1) (ls:=(nL wd ns F).2) (ws:=(nD wd ns F).2) (λσ=>∃o11 o12,σ=[some (.ref pg),some (.ref tb),some (.bl false),some (.ref p),some (.ref d),o5,some (.int ((xs.length:Int)+2)),some (.ref la),some (.ref ma),some (.ref ca),some (.ref le),o11,o12,none,none]) (m1.len.trans m4.len.symm) hS8 la8 e8 nlaL nleL (lt1.up ((g2.1.trans m3.gr.1).trans m4.gr.1)) {_,_,rfl} ?_ ?_
  ·rintro i l wi2 σ H9 pp N ⟨o11,o12,rfl⟩ hpp hS9 hx hN;show {pp,_,rfl,Nl hpp,rfl,_,_,rfl,_,_,rfl,rfl,?_};obtain ⟨dx9,hp9⟩:=hS9.ob;dsimp only;erw [];show aE hp9 rfl ?_;rw [Bw];show {L,D,_,hS9,hx,λH10 s10 hS10=>hN _ _ {_,_,rfl} s10 hS10}
  rintro σ H9 ⟨o11,o12,rfl⟩ s9 hS9;let hS9:ShV w.params K t.C13 H9 p L D (nE wd ns F):=hS9;let hB9:=hB8.mv hS8 s9;let t9:=dS t8 hL0 hD0 s9;let ma9:=s9 _ _ ma8 nmaL nmaD;clear hS8 hB8 s9 t8 la8 ma8 e8;dsimp only;show later ?_;erw [];show bS (t9 _ _ hpg) T.c11.cl T.n13 rfl {bg,rfl,{_,Nh (t9 _ _ hbg)},?_};show eC (xs:=ns.map V.str) (λi σ H'=>Same H H'/\ShV w.params K t.C13 H' p L D (nG wd ns pins F (ns.take i))/\BxK (λc=>H c=none) H' d L (nA wd ns).2/\H' ma=some (.lst (aN (nM wd ns F).2))/\∃o5,σ=[some (.ref pg),some (.ref tb),some (.bl false),some (.ref p),some (.ref d),o5,some (.int ((xs.length:Int)+2)),some (.ref la),some (.ref ma),some (.ref ca),some (.ref le),o11,o12,none,none]) {t9,hS9,hB9,ma9,_,rfl} (λi σ H' _ h=>Nh (h.1 _ _ hbg)) ?_ ?_
  ·rintro i x σ H10 hx ⟨t10,hS10,hB10,ma10,o5,rfl⟩;rw [bP] at hx;obtain ⟨n,hn,rfl⟩:=zq30.mp hx;let hi:i<ns.length:=(zq7.mp hn).1;let hnn:n∈ns:=bR hn;let et:ns.take (i+1)=ns.take i++[n]:=by rw [dH hi,(zq7.mp hn).2]
   let es:nG wd ns pins F (ns.take i++[n])=nBx wd ns pins F (nG wd ns pins F (ns.take i)) n:=by unfold nG;rw [jU];rfl
   let ni:NI ns wd wd ns F (nG wd ns pins F (ns.take i)):=AF hp hin (zq4 wd) n5 λx hx=>i9 hx;let lm:=E3 (wd:=wd) (ns:=ns) (pins:=pins) (F:=F) (l:=ns) (R:=nE wd ns F) (i:=i+1);rw [et] at lm ⊢;let lm:(nG wd ns pins F (ns.take i++[n])).length<=(nG wd ns pins F ns).length:=lm;rw [es] at lm ⊢;obtain ⟨y1,y2⟩:=uA (wd:=wd) (ns:=ns) (pins:=pins) (F:=F) (R:=nG wd ns pins F (ns.take i)) (n:=n);generalize nG wd ns pins F (ns.take i)=S at hS10 ni lm y1 y2;obtain ⟨c1,c2⟩:=rX (pins:=pins) hp hin (zq4 wd) ni (nm:=some n);let c3:(nW wd ns pins F S (some n)).2.length<=cI F+1:=xy;let c4:=(ldW_pre (bx:=nbx wd ns) (wd:=wd) (R:=(nW wd ns pins F S (some n)).1) (cs:=(nW wd ns pins F S (some n)).2) (n:=n)).len;erw [];change qc _ _ _ _ [V.ref p,V.ref pg,V.ref tb,V.ref d,V.ref ma,V.str n] H10 _ _;rw [FC];show {F,nbx wd ns,ns,pins,wd,(nM wd ns F).2,some n,L,D,S,rfl,ma10,l2,lF,hp.w0,w8,hp.ds,hS10,{_,_,ni.fm},hTb _ t10,bxd hB10,ni.bw,ni.ms,nmaL,hPg _ t10,((show (nW wd ns pins F S (some n)).1.length<=100000 by omega)),((show (nW wd ns pins F S (some n)).2.length<=10000 by omega)),λc zs H11 s11 hc hc11 hC11 hS11=>?_};let hS11:ShV w.params K t.C13 H11 p L D (nW wd ns pins F S (some n)).1:=hS11;let hB11:=hB10.mv hS10 s11;let t11:=dS t10 hL0 hD0 s11;let ma11:=s11 _ _ ma10 nmaL nmaD;obtain ⟨ncL,ncD⟩:=hS10.ne_new hc;simp only [JX];show {nbx wd ns,ns,pins,wd,(nW wd ns pins F S (some n)).2,zs,L,D,(nW wd ns pins F S (some n)).1,hc11,ncL,hC11.chv,Oo,hp.w0,w8,hnn,hS11,{_,_,c1.fm},c1.cw,bxd hB11,c1.bw,hPg _ t11,c2.lat n hnn,Oo,λH12 s12 hS12=>?_};show {dS t11 hL0 hD0 s12,hS12,hB11.mv hS11 s12,s12 _ _ ma11 nmaL nmaD,_,rfl}
  rintro σ H10 ⟨t10,hS10,hB10,ma10,o5,rfl⟩;rw [zq3,eA] at hS10;clear hS9 hB9 t9 ma9;dsimp only;show later ?_;erw [];change qc _ _ _ _ [V.ref p,V.ref pg,V.ref tb,V.ref d,V.ref ma,V.non] H10 _ _;rw [FC];let c3:(nT wd ns pins F).2.length<=cI F+1:=xy;show {F,nbx wd ns,ns,pins,wd,(nM wd ns F).2,none,L,D,nG wd ns pins F ns,rfl,ma10,l2,lF,hp.w0,w8,hp.ds,hS10,{_,_,k1.fm},hTb _ t10,bxd hB10,k1.bw,k1.ms,nmaL,hPg _ t10,((show (nT wd ns pins F).1.length<=100000 by omega)),((show (nT wd ns pins F).2.length<=10000 by omega)),λc zs H11 s11 hc hc11 hC11 hS11=>later ?_};let hS11:ShV w.params K t.C13 H11 p L D (nT wd ns pins F).1:=hS11;let hC11:ChN K H11 L c zs (nT wd ns pins F).2:=hC11;let hB11:=hB10.mv hS10 s11;let t11:=dS t10 hL0 hD0 s11;let ma11:=s11 _ _ ma10 nmaL nmaD;obtain ⟨ncL,ncD⟩:=hS10.ne_new hc;let hc0:=t10.free hc;clear hS10 hB10 t10 ma10 s11 hc;obtain ⟨dx11,hp11⟩:=hS11.ob;erw [];show aE hp11 rfl {{_,Nh hc11},λacc hacc bk=>?_};show qV rfl hS11 hc11 hC11.chv hacc Oo λH12 s12 e12=>?_;obtain ⟨naL,naD⟩:=hS11.ne_new hacc;rw [jH];let hMk:∀x∈(nT wd ns pins F).2.map (λ(x:Nat×be)=>x.1),x<(nT wd ns pins F).1.length:=λx hx=>by obtain ⟨ch,hch,rfl⟩:=zq32.mp hx;show (k2.cw ch hch).1
  show {L,D,(nT wd ns pins F).1,(((nT wd ns pins F).2.map λ(x:Nat×be)=>x.1)),hS11.mv s12,e12,naL,hMk,{_,_,k2.fm},((show (nU wd ns pins F).1.length<=100000 by omega)),λH13 s13 hS13=>later ?_};let hS13:ShV w.params K t.C13 H13 p L D (nU wd ns pins F).1:=hS13;let s13':=(Nn s12).trans s13;let hB13:=hB11.mv hS11 s13';let t13:=dS t11 hL0 hD0 s13';let ma13:=s13' _ _ ma11 nmaL nmaD;let hc13:=s13' _ _ hc11 ncL ncD;let hC13:=hC11.mv hS11 s13';clear hS11 hB11 t11 ma11 hc11 hC11 s12 s13 e12 hp11;obtain ⟨dx13,hp13⟩:=hS13.ob;erw [];show bS hp13 T.c13.cl T.n19 rfl (bS (t13 _ _ hpg) T.c11.cl T.n11 rfl ?_);rw [Fv];let pu:Pre (nT wd ns pins F).1 (nU wd ns pins F).1:=any_gr.1;show {zs,(nT wd ns pins F).2,hc13,w8,Oo,{L,D,(nU wd ns pins F).1,hS13,{_,_,k3.1},{ncL,hC13.chv,k2.cw.up pu},((show (nS wd ns pins F).1.length<=100000 by omega)),λl H14 s14 hl14 e14 hS14=>?_}};let hS14:ShV w.params K t.C13 H14 p L D (nS wd ns pins F).1:=hS14;let e14:H14 l=some (.lst (aN (nS wd ns pins F).2)):=e14;let hB14:=hB13.mv hS13 s14;let t14:=dS t13 hL0 hD0 s14;let ma14:=s14 _ _ ma13 nmaL nmaD;obtain ⟨nlL,nlD⟩:=hS13.ne_new hl14;let hl0:=t13.free hl14;obtain ⟨x1,hx1⟩:∃x,(nM wd ns F).2[F.length+1]?=some x:={_,bN Oo}
  let ez:nZ wd ns F=x1:=by unfold nZ;rw [eK,hx1];rfl
  show {_,_,Nh ma14,kG (n:=F.length+1) (by rw [aW];omega) (gT hx1),λx dx hx hdx ndx=>?_};rw [K2];let t15:Same H14 (upd (upd H14 dx (.own x)) x (.ins t.C14 dx [])):=(Ng hdx).trans (Ng (by rw [ak ndx.symm];show hx));let e15:upd (upd H14 dx (.own x)) x (.ins t.C14 dx []) x=some (.ins t.C14 dx []):=ae;generalize upd (upd H14 dx (.own x)) x (.ins t.C14 dx [])=H15 at t15 e15;show {dx,e15,λH16 s16 e16=>{rfl,?_}};let t16:Same H14 H16:=λc o e=>s16 c o (t15 c o e) (λz=>by rw [z,hx] at e;cases e);obtain ⟨rs,r1,r2⟩:=hS14.rows;rw [<- ez] at e16;show q x L d l H16 (t14.trans t16) {⟨dx,e16⟩,{rs,t16 _ _ r1,r2.ts t16.ts},hB14.mv hS14 (Nn t16),{t16 _ _ e14,nlL},t14.free hx,hL0,hd0,hl0}
def ck(nm:Option Str)(l:N9):Nat:=l.countP λd=>decide (wrO d=nm)
def iG(F:Nb):N9:=(F.map (·.ds)).flatten
section
variable {ins ns:N0} {wi wd:Nat} {bx:Str->be}
def yJ{m:Nat}{nm:Option Str}{s:Rs×List (Nat×be)}{d:Na}(h:ChI ins ns wi wd bx s)(hd:cX ns d)(w0:0<wd):Gr ((9 * wd+2) * ck nm [d]) s.1 (cA bx wd m nm s d).1/\(cA bx wd m nm s d).2.length=s.2.length+ck nm [d]:=by
 unfold cA ck
 by_cases e:wrO d=nm
 ·rw [zq1 e,Gg,zq1 (bX e),Nat.mul_one];show {(wt h.fm h.bw hd w0).gr,Oq}
 ·rw [zq0 e,Gg,zq0 (by simpa using e)];show {.refl,rfl}
def lJ{nm:Option Str}{d:Na}{l:N9}:ck nm (d::l)=ck nm [d]+ck nm l:=by unfold ck;rw [show d::l=[d]++l from rfl,xM]
def DI{nm:Option Str}{a l:N9}:ck nm (a++l)=ck nm a+ck nm l:=xM
def oz{m:Nat}{nm:Option Str}(w0:0<wd):∀{ds:N9} {s:Rs×List (Nat×be)},ChI ins ns wi wd bx s->m<s.1.length->(∀d∈ds,cX ns d)->Gr ((9 * wd+2) * ck nm ds) s.1 (ds.foldl (cA bx wd m nm) s).1/\(ds.foldl (cA bx wd m nm) s).2.length=s.2.length+ck nm ds
 | [],s,h,_,_=>{.refl,rfl}
 |d::ds,s,h,hm,hd=>by obtain ⟨g,l⟩:=yJ (m:=m) (nm:=nm) h (hd d (cS ..)) w0;obtain ⟨g2,l2⟩:=oz (m:=m) (nm:=nm) w0 (ds:=ds) (s:=cA bx wd m nm s d) (sq h hm (hd d (cS ..)) w0) (bT hm pickD_pre.len) λx hx=>hd x (zq8 _ hx);rw [lJ,Nat.mul_add,iE];show {g.trans g2,Oo}
def mq{nm:Option Str}(w0:0<wd):∀{l:List (N9×Nat)} {s:Rs×List (Nat×be)},ChI ins ns wi wd bx s->(∀x∈l,x.2<s.1.length/\∀d∈x.1,cX ns d)->Gr ((9 * wd+2) * ck nm (l.map (·.1)).flatten) s.1 (l.foldl (du bx wd nm) s).1/\(l.foldl (du bx wd nm) s).2.length=s.2.length+ck nm (l.map (·.1)).flatten
 | [],s,h,_=>{.refl,rfl}
 |x::l,s,h,hl=>by
  obtain ⟨g,e⟩:=oz (nm:=nm) w0 h (hl x (cS ..)).1 (hl x (cS ..)).2;obtain ⟨g2,e2⟩:=mq (nm:=nm) w0 (l:=l) (s:=du bx wd nm s x) (jb w0 h (hl x (cS ..)).1 (hl x (cS ..)).2) λy hy=>{bT (hl y (zq8 _ hy)).1 pickB_pre.len,(hl y (zq8 _ hy)).2}
  rw [cH,List.flatten_cons,DI,Nat.mul_add,iE];let e:(du bx wd nm s x).2.length=_:=e;show {g.trans g2,Oo}
def xx{pins:N0}{R:Rs}{ms:be}{F:Nb}{nm:Option Str}(hF:Fm ins wi R)(hW:BxW R bx ns wd)(hM:Ws R ms)(h2:F.length<ms.length)(w0:0<wd)(hd:∀b∈F,∀d∈b.ds,cX ns d):
  Gr ((9 * wd+2) * ck nm (iG F)+wd) R (gB bx wd R ms F pins nm).1/\(gB bx wd R ms F pins nm).2.length<=ck nm (iG F)+1/\(nm=none->(gB bx wd R ms F pins nm).2.length<=ck nm (iG F)/\Gr ((9 * wd+2) * ck nm (iG F)) R (gB bx wd R ms F pins nm).1):=by
 let z:∀nm,Gr ((9 * wd+2) * ck nm (iG F)) R (chS bx wd R ms F nm).1/\(chS bx wd R ms F nm).2.length=ck nm (iG F):=λnm=>by
  let y:=mq (nm:=nm) w0 (l:=(F.map (·.ds)).zip ms.tail) (s:=(R,[])) (ins:=ins) (ns:=ns) (wi:=wi) (bx:=bx) {hF,(λc hc=>by cases hc),hW} λx hx=>by obtain ⟨z1,z2⟩:=fU hx;show {hM _ (qw z2),λd hd'=>?_};obtain ⟨b,hb,eb⟩:=zq32.mp z1;show hd b hb d (by rw [eb];show hd')
  rw [List.map_fst_zip (by rw [zq3,qu];omega)] at y;show {y.1,?_};let y2:(chS bx wd R ms F nm).2.length=([]:List (Nat×be)).length+_:=y.2;rw [Dv,Nat.zero_add] at y2;show y2
 unfold gB
 cases nm with
 |none=>show {(z none).1.mono Oo,by let this:=(z none).2;dsimp only;omega,λ_=>{Dt (z none).2,(z none).1}}
 |some n=>
  dsimp only;show {?_,?_,λh=>by cases h}
  ·split
   ·let g:Gr (1 * (List.range wd).length) (chS bx wd R ms F (some n)).1 (II wd (chS bx wd R ms F (some n)).1 n).1:=pO λR x _=>wr_gr;rw [fi,tU] at g;show (z _).1.trans g
   ·show (z _).1.mono Oo
  ·split
   ·rw [bW,dc,(z _).2];show zq4 _
   ·rw [(z _).2];omega
end
section
variable {ins:N0} {wi wd:Nat} {ns pins:N0} {F:Nb}
def E2(hp:NP wd ns F)(hi:∀n∈pins,n∈ins)(hw:wd<=wi)(w8:wd<=8){R:Rs}(h:NI ins wi wd ns F R){n:Str}(hn:n∈ns):(nBx wd ns pins F R n).length<=R.length+91 * ck (some n) (iG F)+51:=by obtain ⟨c,k⟩:=rX (pins:=pins) hp hi hw h (nm:=some n);let lm:=(kf (ins:=ins) (wi:=wi) (wd:=wd) (ns:=ns) (F:=F)).2.2;obtain ⟨g,l,_⟩:=xx (pins:=pins) (nm:=some n) h.fm h.bw h.ms Oo hp.w0 hp.ds;let g2:=(Ax k c.cw hn).1.gr.2;let g1:(nW wd ns pins F R (some n)).1.length<=_:=g.2;let l1:(nW wd ns pins F R (some n)).2.length<=_:=l;let e:=(uA (wd:=wd) (ns:=ns) (pins:=pins) (F:=F) (R:=R) (n:=n)).2;rw [<- e];generalize ck (some n) (iG F)=x at g1 l1 ⊢;generalize (nW wd ns pins F R (some n)).2.length=y at g2 l1;let a1:(9 * wd+2) * x<=(9 * 8+2) * x:=xS _ Oo;let a2:(2 * y+3) * wd<=(2 * (x+1)+3) * 8:=Dr Oo w8;omega
def AE(hp:NP wd ns F)(hi:∀n∈pins,n∈ins)(hw:wd<=wi)(w8:wd<=8):∀{l:N0} {R:Rs},NI ins wi wd ns F R->(∀n∈l,n∈ns)->(l.foldl (nBx wd ns pins F) R).length<=R.length+91 * (l.map λn=>ck (some n) (iG F)).sum+51 * l.length
 | [],R,h,_=>by simp
 |n::l,R,h,hl=>by obtain ⟨c,k⟩:=rX (pins:=pins) hp hi hw h (nm:=some n);let z:=(Ax k c.cw (hl n (cS ..))).2;let y:=AE hp hi hw w8 (l:=l) (R:=nBx wd ns pins F R n) z λx hx=>hl x (zq8 _ hx);let x:=E2 (pins:=pins) hp hi hw w8 h (hl n (cS ..));rw [iE,cH,u9,cG];omega
def vO:∀{l:N9} {ns:N0},ns.Nodup->(ns.map λn=>ck (some n) l).sum+ck none l<=l.length
 | [],ns,_=>by
  let z:∀ns:N0,(ns.map λn=>ck (some n) []).sum=0:=by
   intro ns
   induction ns with
   |nil=>rfl
   |cons n ns ih=>rw [cH,u9,ih];rfl
  rw [z ns];show zq4 _
 |d::l,ns,hn=>by
  let ih:=vO (l:=l) hn;let e:(ns.map λn=>ck (some n) (d::l)).sum=(ns.map λn=>ck (some n) [d]).sum+(ns.map λn=>ck (some n) l).sum:=by
   clear hn ih
   induction ns with
   |nil=>rfl
   |cons n ns ih=>simp only [List.map_cons,List.sum_cons];rw [ih,lJ];omega
  let one:(ns.map λn=>ck (some n) [d]).sum+ck none [d]<=1:=by
   clear e ih
   cases hd:wrO d with
   |none=>
    let z:(ns.map λn=>ck (some n) [d]).sum=0:=by
     clear hn
     induction ns with
     |nil=>rfl
     |cons n ns ih=>rw [cH,u9,ih];simp [ck,hd]
    rw [z];simp [ck,hd]
   |some m=>
    let z0:ck none [d]=0:=by simp [ck,hd]
    rw [z0];clear z0
    induction ns with
    |nil=>simp
    |cons n ns ih=>
     obtain ⟨h1,h2⟩:=zq42.mp hn;rw [cH,u9]
     by_cases e:m=n
     ·subst e;let z:(ns.map λn=>ck (some n) [d]).sum=0:=by
       clear ih hn h2
       induction ns with
       |nil=>rfl
       |cons k ns ih=>rw [cH,u9,ih (λhm=>h1 (zq8 _ hm))];let this:¬m=k:=λz=>h1 (by rw [z];show cS ..);simp [ck,hd,this]
      rw [z];simp [ck,hd]
     ·let z:ck (some n) [d]=0:=by simp [ck,hd,e]
      let this:=ih h2;omega
  rw [e,lJ (nm:=none),cG];omega
def AB{F:Nb}:(iG F).length=cI F:=by unfold iG cI;rw [xT,gm];rfl
def GP(hp:NP wd ns F)(hi:∀n∈pins,n∈ins)(hw:wd<=wi)(w8:wd<=8)(nd:ns.Nodup):(nS wd ns pins F).1.length<=59 * ns.length+17 * F.length+17+91 * cI F:=by obtain ⟨a1,a2,a3⟩:=nA_ok (ins:=ins) (wi:=wi) (wd:=wd) (ns:=ns);obtain ⟨m1,lt1⟩:=wA (ins:=ins) (wi:=wi) (wd:=wd) (ns:=ns) (F:=F);obtain ⟨n2,g2,l2⟩:=kf (ins:=ins) (wi:=wi) (wd:=wd) (ns:=ns) (F:=F);obtain ⟨m3,n3⟩:=ww (ins:=ins) (wi:=wi) hp;obtain ⟨m4,n4⟩:=wx (ins:=ins) (wi:=wi) hp;obtain ⟨n5,l5⟩:=wy (ins:=ins) (wi:=wi) hp;obtain ⟨k1,k2,k3,k4,k5⟩:=AH (ins:=ins) (wi:=wi) (pins:=pins) hp hi hw;let b1:=a2.2;let b2:=m1.gr.2;let b3:=g2.2;let b4:=m3.gr.2;let b5:=m4.gr.2;let b6:(nG wd ns pins F ns).length<=_:=AE (pins:=pins) hp hi hw w8 (l:=ns) n5 λn hn=>hn;obtain ⟨_,_,b7⟩:=xx (pins:=pins) (nm:=none) k1.fm k1.bw k1.ms Oo hp.w0 hp.ds;obtain ⟨b7,b8⟩:=b7 rfl;let b7:(nT wd ns pins F).2.length<=_:=b7;let b8:(nT wd ns pins F).1.length<=_:=b8.2;let b9:=(any_gr (R:=(nT wd ns pins F).1) (ws:=(nT wd ns pins F).2.map (·.1))).2;rw [zq3] at b9;let b9:(nU wd ns pins F).1.length<=(nT wd ns pins F).1.length+((nT wd ns pins F).2.length+1):=b9;let b10:=k4.gr.2;let cs:=vO (l:=iG F) nd;rw [AB] at cs;generalize ck none (iG F)=x at b7 b8 cs;generalize (ns.map λn=>ck (some n) (iG F)).sum=y at b6 cs;generalize (nT wd ns pins F).2.length=z at b7 b9 b10;let c1:wd * ns.length<=8 * ns.length:=xS _ w8;let c2:(wd+8) * F.length<=16 * F.length:=xS _ Oo;let c3:(9 * wd+2) * x<=74 * x:=xS _ Oo;let c4:(2 * z+1) * wd<=(2 * x+1) * 8:=Dr Oo w8;rw [Dv] at b1;omega
end
variable {E:XK} {H:Hp} {Q:VK}
def sR:Sp:=λvs H Q _=>∃(a:Int)(m:Int),vs=[.int a,.int m]/\Q (.bl (decide (0<=a)&&decide (a<m))) H
def eT{a m:Int}:sR [.int a,.int m] H Q E=Q (.bl (decide (0<=a)&&decide (a<m))) H:=∅
def mh(T:Txt K mg t):FnOk P w K mg base CX0 2 t.f_64 t.e_64 ["_law_found","_law_most"] sR:=by
 show T.d_64.F.ok LK ∅ ?_;rintro cdv A outer s H vs Q E hr ⟨a,m,rfl,q⟩;show {_,(XSs.h (aj (ao (cx (av T.d_54 (B2 T) hr.m #[!0] gl) (cx (bu IQ ai (!0) (aH _)) (dB (bu jS (!0) (!1) (aH _)))))))),?_}
 ac_rfl;rwa [yO];rw [zq1 trivial]
 by_cases z:0<=a
 ·rw [zq1 (bX z)];rw [bX z,Dh] at q;show q
 ·rw [zq0 (by simpa using z)];rw [cR z,CW] at q;show q
def nP(a:Addr)(m wd:Int)(H:Hp)(Q:VK):Prop:=∃(ws:be),H a=some (.lst (aN ws))/\(ws.length:Int)=wd/\ws.length<=1000/\(∀x∈ws,(x:Int)<m)/\∀H',Same H H'->Q (.bl true) H'
def oG:Sp:=λvs H Q _=>∃(a:Addr)(m wd:Int),vs=[.ref a,.int m,.int wd]/\nP a m wd H Q
def sv{a:Addr}{m wd:Int}:oG [.ref a,.int m,.int wd] H Q E=nP a m wd H Q:=∅
def vC(K:N5)(q:Addr)(i m:Int)(dr:Addr)(H:Hp)(Q:VK):Prop:=∃(r:Row)(ins:N0)(wd ia ma:Nat)(pi po pr:Addr),SqT K H q r.vs/\i=(ia:Int)/\m=(ma:Int)/\okR ins wd ia ma r/\H dr=some (.tup [.int (wd:Int),.ref pi,.ref po,.ref pr])/\H pi=some (.lst (ins.map V.str))/\∀H',Same H H'->Q (.bl true) H'
def xh(K:N5):Sp:=λvs H Q _=>∃(q:Addr)(i m:Int)(dr:Addr),vs=[.ref q,.int i,.int m,.ref dr]/\vC K q i m dr H Q
def Ii{K:N5}{q dr:Addr}{i m:Int}:xh K [.ref q,.int i,.int m,.ref dr] H Q E=vC K q i m dr H Q:=∅
def yA(T:Txt K mg t):FnOk P w K mg base CX0 3 t.f_66 t.e_66 ["_law_found","_law_many","_law_width"] oG:=by
 show T.d_66.F.ok LM ∅ ?_;rintro cdv A outer s H vs Q E hr ⟨a,m,wd,rfl,ws,ha,hl,h1,hw,q⟩;show {_,(XSs.h (af (aM (cq (cD (cZ (aV (az dk gl T.z12 boot_isinstance #[!0,(dy (v:=.ty "list") gl T.z19 boot_list rfl)]))) (cQ (aA Jr (az aC gl T.z15 Nm #[!0]) (!2) (aH _))))) (aj (ao fh)) aF) (aj (ao (bu bi (az aC gl T.z15 Nm #[(aU (tns:=["_law_wire_here"]) (cns:=["_law_many"]) (ci:=[1]) rfl (Np Om) (aX (!0)) (λ_=>(ay (i:=1) (show List.Nodup [(".0":Str),("_law_wire_here":Str),("_law_many":Str)] by decide +kernel) rfl ll (Or.inr Om))) (λ_=>(kS (cZ (aV (av T.d_64 (mh T) hr.m #[!1,yqv 2 vc] gl))))) (λ_=>(!1)))]) ai (aH _)))))),?_}
 ac_rfl;erw [];show wj (Nh ha) {_,rfl,?_};rw [zq0 On];show {_,.inl (Nh ha),?_};rw [aW];show rH (λz=>absurd hl z) (λ_=>later ?_);erw [];show {{_,Nh ha},λacc hacc bk=>?_};show cL (xs:=aN ws) (λi zs H'=>Same H H'/\H' acc=some (.lst zs)/\zs=[]) {Ng hacc,ae,rfl} (λi zs H' _ h=>Nh (h.1 _ _ ha)) ?_ ?_
 ·rintro i x zs H1 os hx hos ⟨s1,e1,rfl⟩;obtain ⟨x,hx',rfl⟩:=zq30.mp (by unfold aN at hx;rw [bP] at hx;show hx);let hlt:=hw x (bR hx')
  match os,hos with
  | [o],_=>rwa [eT];show {{[some (.int (x:Int))],rfl,rfl},?_};rw [bX (show (0:Int)<=(x:Int) by omega),bX hlt];rw [zq0 On];show ⟨s1,e1⟩
 ·rintro zs H1 ⟨s1,e1,rfl⟩;show {_,.inl (Nh e1),q H1 s1}
def E9(T:Txt K mg t):FnOk P w K mg base CX0 3 t.f_65 t.e_65 ["_law_row","_law_at_here","_law_many","_law_drawn_here"] (xh K):=by
 show T.d_65.F.ok LL ∅ ?_;rintro cdv A outer s H vs Q E hr ⟨qr,i,m,dr,rfl,r,ins,wd,ia,ma,pi,po,pr,hq,rfl,rfl,ok,hdr,hpi,q⟩;show {_,(XSs.h (af (aM (cq (cD (cZ (aV (az dk gl T.z12 boot_isinstance #[!0,(dy (v:=.ty "tuple") gl T.z17 boot_tuple rfl)]))) (cD (aA jS (az aC gl T.z15 Nm #[!0]) ai (aH _)) (cQ (cZ (aV (az dk gl T.z12 boot_isinstance #[aq aD (!0) ai,(dy (v:=.ty "str") gl T.z16 boot_str rfl)]))))))) (aj (ao fh)) aF) (af (aM (aA bi (aq aD (!0) ai) aG (aH _)) (aj (ao (cx (bu bi (az aC gl T.z15 Nm #[!0]) ai (aH _)) (dB (av T.d_64 (mh T) hr.m #[aq aD (!0) ai,ai] gl))))) aF) (af (aM (aA bi (aq aD (!0) ai) aG (aH _)) (aj (ao (cx (bu bi (az aC gl T.z15 Nm #[!0]) ai (aH _)) (cx (az dk gl T.z12 boot_isinstance #[aq aD (!0) ai,(dy (v:=.ty "str") gl T.z16 boot_str rfl)]) (cx (bu dZ (aq aD (!0) ai) (aq aD (!3) ai) rfl) (dB (av T.d_64 (mh T) hr.m #[aq aD (!0) ai,aq aD (!3) ai] gl))))))) aF) (af (aM (cq (cD (aA bi (aq aD (!0) ai) aG (aH _)) (cQ (aA bi (aq aD (!0) ai) aG (aH _))))) (aj (ao (cx (bu bi (az aC gl T.z15 Nm #[!0]) ai (aH _)) (dB (av T.d_64 (mh T) hr.m #[aq aD (!0) ai,aq aP (aR #[!1,!2]) (c6 oe gl T.z13 boot_int #[bu bi (aq aD (!0) ai) aG (aH _)])] gl))))) aF) (aj (ao (cx (bu dZ (aq aD (!0) ai) (aR (eZ Os)) rfl) (cx (bu bi (az aC gl T.z15 Nm #[!0]) ai (aH _)) (cx (av T.d_64 (mh T) hr.m #[aq aD (!0) ai,!1] gl) (dB (av T.d_64 (mh T) hr.m #[aq aD (!0) ai,!1] gl)))))))))))),?_}
 ac_rfl;let hdT:SqT K H dr [.int (wd:Int),.ref pi,.ref po,.ref pr]:=Nl hdr
 cases r with
 |fix b=>
  erw [];show iV hq {_,rfl,?_};rw [zq0 On];show {_,.inr hq,aJ (λz=>absurd z (show ¬((2:Nat):Int)<2 by decide)) (λ_=>{_,_,hq,rfl,gS {_,rfl,?_}})};rw [zq0 On];show later ?_;erw [];show {_,_,hq,rfl,rfl,_,rfl,aJ (λ_=>?_) (λz=>absurd rfl z)};show {_,.inr hq,aJ (λ_=>{_,_,hq,rfl,?_}) (λz=>absurd (show ((2:Nat):Int)=2 from rfl) z)};rw [eT];let hb:b=0\/b=1:=ok;rw [bX (show 0<=b by omega),bX (show b<2 by omega)];show q H (Nq H)
 |inp n k=>
  erw [];show iV hq {_,rfl,?_};rw [zq0 On];show {_,.inr hq,aJ (λz=>absurd z (show ¬((3:Nat):Int)<2 by decide)) (λ_=>{_,_,hq,rfl,gS {_,rfl,?_}})};rw [zq0 On];show later ?_;erw [];show {_,_,hq,rfl,rfl,_,rfl,aJ (λz=>absurd z Ol) (λ_=>later ?_)};erw [];show {_,_,hq,rfl,rfl,_,rfl,aJ (λ_=>?_) (λz=>absurd rfl z)};show {_,.inr hq,aJ (λ_=>?_) (λz=>absurd (show ((3:Nat):Int)=3 from rfl) z)};let hk:n∈ins/\k<wd:=ok;show {_,_,hq,rfl,gS {_,rfl,?_}};rw [zq1 rfl];show {_,_,hq,rfl,_,_,hdT,rfl,pi,_,rfl,.inl (Nh hpi),rfl,(by simp [cf]),_,rfl,?_};rw [show (if false=true then ! inV (V.str n) (ins.map V.str) else inV (V.str n) (ins.map V.str))=true by rw [zq0 On];show rG hk.1,zq1 rfl];show {_,_,hq,rfl,_,_,hdT,rfl,?_};rw [eT];rw [bX (show (0:Int)<=(k:Int) by omega),bX (show (k:Int)<(wd:Int) by omega)];show q H (Nq H)
 |nt a=>
  erw [];show iV hq {_,rfl,?_};rw [zq0 On];show {_,.inr hq,aJ (λz=>absurd z (show ¬((2:Nat):Int)<2 by decide)) (λ_=>{_,_,hq,rfl,gS {_,rfl,?_}})};rw [zq0 On];show later ?_;erw [];show {_,_,hq,rfl,rfl,_,rfl,aJ (λz=>absurd z Ol) (λ_=>later ?_)};erw [];show {_,_,hq,rfl,rfl,_,rfl,aJ (λz=>absurd z Ol) (λ_=>later ?_)};erw [];show {_,_,hq,rfl,rfl,_,rfl,?_};rw [zq1 (bX rfl),zq1 trivial];show {_,.inr hq,aJ (λ_=>{_,_,hq,rfl,λp0 hp0=>?_}) (λz=>absurd (show ((2:Nat):Int)=2 from rfl) z)};let s0:=Ng (o:=.lst [V.int (ia:Int),.int (ma:Int)]) hp0;show {_,_,s0.seqT hq,rfl,rfl,.inr {_,rfl,_,_,Nh ae,(show atI [V.int (ia:Int),.int (ma:Int)] 0=some (.int (ia:Int)) from rfl),?_}};rw [eT];let ha:a<ia:=ok;rw [bX (show (0:Int)<=(a:Int) by omega),bX (show (a:Int)<(ia:Int) by omega)];show q _ s0
 |bin o a b=>
  let ho:o.str="and"\/o.str="or"\/o.str="xor":=by cases o<;>simp [Bop.str]
  let n1:∀s:Str,s="fix"\/s="in"\/s="not"\/s="latch"->¬V.str o.str=V.str s:=λs hs z=>by injection z with z;rw [z] at ho;rcases hs with rfl | rfl | rfl | rfl<;>revert ho<;>decide +kernel
  erw [];show iV hq {_,rfl,?_};rw [zq0 On];show {_,.inr hq,aJ (λz=>absurd z (show ¬((3:Nat):Int)<2 by decide)) (λ_=>{_,_,hq,rfl,gS {_,rfl,?_}})};rw [zq0 On];show later ?_;erw [];show {_,_,hq,rfl,rfl,_,rfl,aJ (λz=>absurd z (n1 _ (.inl rfl))) (λ_=>later ?_)};erw [];show {_,_,hq,rfl,rfl,_,rfl,aJ (λz=>absurd z (n1 _ (.inr (.inl rfl)))) (λ_=>later ?_)};erw [];show {_,_,hq,rfl,rfl,_,rfl,aJ (λz=>absurd z (n1 _ (.inr (.inr (.inl rfl))))) (λ_=>{_,_,hq,rfl,rfl,_,rfl,aJ (λz=>absurd z (n1 _ (.inr (.inr (.inr rfl))))) (λ_=>later ?_)})};erw [];show {_,_,hq,rfl,λp0 hp0=>?_};let s0:=Ng (o:=.lst [V.str "and",.str "or",.str "xor"]) hp0;let hq0:=s0.seqT hq;show {_,.inl (Nh ae),rfl,rfl,?_};rw [zq1 (show inV (V.str o.str) [V.str "and",.str "or",.str "xor"]=true from rG (ns:=["and","or","xor"]) (by simpa using ho))];show {_,.inr hq0,aJ (λ_=>?_) (λz=>absurd (show ((3:Nat):Int)=3 from rfl) z)};let hab:a<ia/\b<ia:=ok;show {_,_,hq0,rfl,?_};rw [eT];rw [bX (show (0:Int)<=(a:Int) by omega),bX (show (a:Int)<(ia:Int) by omega)];show {_,rfl,?_};rw [zq1 On];show {_,_,hq0,rfl,?_};rw [eT];rw [bX (show (0:Int)<=(b:Int) by omega),bX (show (b:Int)<(ia:Int) by omega)];show q _ s0
 |latch a=>erw [];show iV hq {_,rfl,?_};rw [zq0 On];show {_,.inr hq,aJ (λz=>absurd z (show ¬((2:Nat):Int)<2 by decide)) (λ_=>{_,_,hq,rfl,gS {_,rfl,?_}})};rw [zq0 On];show later ?_;erw [];show {_,_,hq,rfl,rfl,_,rfl,aJ (λz=>absurd z Ol) (λ_=>later ?_)};erw [];show {_,_,hq,rfl,rfl,_,rfl,aJ (λz=>absurd z Ol) (λ_=>later ?_)};erw [];show {_,_,hq,rfl,rfl,_,rfl,?_};rw [zq0 Ol];show {_,_,hq,rfl,rfl,_,rfl,?_};rw [zq1 (bX rfl)];show {_,.inr hq,aJ (λ_=>{_,_,hq,rfl,λp0 hp0=>?_}) (λz=>absurd (show ((2:Nat):Int)=2 from rfl) z)};let s0:=Ng (o:=.lst [V.int (ia:Int),.int (ma:Int)]) hp0;show {_,_,s0.seqT hq,rfl,rfl,.inr {_,rfl,_,_,Nh ae,(show atI [V.int (ia:Int),.int (ma:Int)] 1=some (.int (ma:Int)) from rfl),?_}};rw [eT];let ha:a<ma:=ok;rw [bX (show (0:Int)<=(a:Int) by omega),bX (show (a:Int)<(ma:Int) by omega)];show q _ s0
def qP{N:Addr->Prop}{H:Hp}{L:Addr}:∀{kvs:List (Key×V)} {bs:List (Str×be)},Paired (λ(kv:Key×V) (b:Str×be)=>∃a,kv=(.inr b.1,.ref a)/\H a=some (.lst (aN b.2))/\a≠L/\N a) kvs bs->kvs.map (·.1)=bs.map λb=>(Sum.inr b.1:Key)
 |_,_,.nil=>rfl
 |_,_,.cons ⟨a,e,_⟩ t=>by rw [cH,cH,qP t,e]
structure NfH(K:N5)(CN:Addr)(N:Addr->Prop)(H:Hp)(x dr L d l:Addr)(R:Rs)(bs:List (Str×be))(tell stop:Nat)(said:be)(wd:Nat)(ins oth:N0)(pi po pr:Addr):Prop where
 net:Gi K CN N H x L d l R bs tell stop said
 fm:Fm ins wd R
 few:R.length<=60000
 nm:bs.map (·.1)=ins++oth
 lns:bs.length<=60
 bw:∀b∈bs,b.2.length=wd/\Ws R b.2
 te:tell<R.length
 st:stop<R.length
 sl:said.length=wd
 sw:Ws R said
 w8:wd<=8
 dr:H dr=some (.tup [.int (wd:Int),.ref pi,.ref po,.ref pr])
 ia:H pi=some (.lst (ins.map V.str))
 oa:H po=some (.lst (oth.map V.str))
def Fe(K:N5)(CN x dr:Addr)(H:Hp)(Q:VK):Prop:=∃(N:Addr->Prop)(L d l:Addr)(R:Rs)(bs:List (Str×be)) (tell stop:Nat) (said:be) (wd:Nat) (ins oth:N0) (pi po pr:Addr),NfH K CN N H x dr L d l R bs tell stop said wd ins oth pi po pr/\∀H',SameX d H H'->Q (.bl true) H'
def FM(K:N5)(CN:Addr):Sp:=λvs H Q _=>∃(x dr:Addr),vs=[.ref x,.ref dr]/\Fe K CN x dr H Q
def K0{K:N5}{CN x dr:Addr}{H:Hp}{Q:VK}{E:XK}:FM K CN [.ref x,.ref dr] H Q E=Fe K CN x dr H Q:=∅
def Jk(T:Txt K mg t):FnOk P w K mg base CX0 4 t.f_67 t.e_67 ["_law_net","_law_drawn_here"] (FM K t.C14):=by
 show T.d_67.F.ok sc_67 ∅ ?_;rintro cdv A outer s H vs Q E hr ⟨x,dr,rfl,N,L,d,l,R,bs,tell,stop,said,wd,ins,oth,pi,po,pr,h,q⟩;let hu:=ii hr;show {_,(XSs.h (da (aM (cq (cD (cZ (aV (az xV gl T.z12 boot_isinstance #[!0,(tP (v:=.ref t.C14) gl T.c14.M rfl)]))) (cD (cZ (aV (az dk gl T.z12 boot_isinstance #[aL (!0) rfl,(dy (v:=.ty "list") gl T.z19 boot_list rfl)]))) (cQ (aA qj (az aC gl T.z15 Nm #[aL (!0) rfl]) ai (aH _)))))) (aj (ao fh)) aF) (af (aw (i:=2) sc_67.nd rfl ll (az aC gl T.z15 Nm #[aL (!0) rfl])) (da (bv PassesOwn.never rfl (bL gl T.z11 #[!2]) (ay (i:=3) sc_67.nd rfl ll) (aj (aM (cZ (aV (av T.d_65 (E9 T) hr.m #[aq aP (aL (!0) rfl) (!3),!3,!2,!1] gl))) (aj (ao fh)) aF))) (da (aM (cq (cD (cZ (aV (az dk gl T.z12 boot_isinstance #[aL (!0) rfl,(dy (v:=.ty "dict") gl T.z28 boot_dict rfl)]))) (cQ (aA (B4 (n:=0) (kl On hr)) (az (pb rfl) gl T.z23 boot_sorted #[aL (!0) rfl]) (az pe gl T.z23 boot_sorted #[ax eM (aq aD (!1) ai) (aq aD (!1) ai)]) (aH _))))) (aj (ao fh)) aF) (da (bv PassesOwn.never rfl (CS (aL (!0) rfl)) (ay (i:=4) sc_67.nd rfl ll) (aj (aM (cZ (aV (av T.d_66 (yA T) hr.m #[fR hu (aL (!0) rfl) (!4) (λ_ _=>rfl),!2,aq aD (!1) ai] gl))) (aj (ao fh)) aF))) (aj (ao (cx (av T.d_64 (mh T) hr.m #[aL (!0) rfl,!2] gl) (cx (av T.d_64 (mh T) hr.m #[aL (!0) rfl,!2] gl) (dB (av T.d_66 (yA T) hr.m #[aL (!0) rfl,!2,aq aD (!1) ai] gl)))))))))))),?_}
 ac_rfl;obtain ⟨⟨⟨dx,ob⟩,⟨rs,hrs,hrv⟩,⟨kvs,hkv,hbp⟩,⟨hsd,_⟩,_⟩,fm,few,nmS,lns,bw,te,st,sl,sw,w8,hdr,hpi,hpo⟩:=h;let lrs:=hrv.length;let hdT:SqT K H dr [.int (wd:Int),.ref pi,.ref po,.ref pr]:=Nl hdr;erw [];show {λσ H'=>H'=H/\σ=[some (.ref x),some (.ref dr),none,none,none],?_,?_}
 ·show {x,_,dx,_,rfl,ob,_,rfl,?_};rw [zq0 On];show bS ob T.c14.cl T.n21 rfl (wj (Nh hrs) {_,rfl,?_});rw [zq0 On];show bS ob T.c14.cl T.n21 rfl {L,_,rfl,.inl (Nh hrs),aJ (λz=>absurd z Oo) (λ_=>⟨rfl,rfl⟩)}
 rintro σ H0 ⟨rfl,rfl⟩;show later ?_;erw [];show bS ob T.c14.cl T.n21 rfl {L,_,rfl,.inl (Nh hrs),later ?_};rw [lrs];erw [];show {λσ H'=>Same H0 H'/\∃o3,σ=[some (.ref x),some (.ref dr),some (.int (R.length:Int)),o3,none],?_,?_}
 ·show {Oo,Oo,?_};rw [eh];show jx (n:=R.length) (λi σ H'=>Same H0 H'/\∃o3,σ=[some (.ref x),some (.ref dr),some (.int (R.length:Int)),o3,none]) {Nq H0,_,rfl} ?_ ?_
  ·rintro i σ H1 hi ⟨s1,o3,rfl⟩;obtain ⟨r,hr1⟩:∃r,R[i]?=some r:={_,bN hi}
   obtain ⟨v,hv,q0,rfl,hq0⟩:=L2.Paired.getR hrv hr1;erw [];show bS (s1 _ _ ob) T.c14.cl T.n21 rfl (ixM (s1 _ _ hrs) hv ?_);rw [Ii];show {r,ins,wd,i,R.length,pi,po,pr,s1.seqT hq0,rfl,rfl,fm i r hr1,s1 _ _ hdr,s1 _ _ hpi,λH2 s2=>{_,rfl,?_}};rw [zq0 On];show {s1.trans s2,_,rfl}
  ·rintro σ H1 h1;show h1
 rintro σ H1 ⟨s1,o3,rfl⟩;show later ?_;erw [];show {λσ H'=>Same H0 H'/\∃o3,σ=[some (.ref x),some (.ref dr),some (.int (R.length:Int)),o3,none],?_,?_}
 ·show bS (s1 _ _ ob) T.c14.cl T.n22 rfl {_,_,_,rfl,Ol,.dic (.inl {kvs,.inl (s1 _ _ hkv)}),_,rfl,?_};rw [zq0 On];show bS (s1 _ _ ob) T.c14.cl T.n22 rfl ?_;rw [oB];let lno:(ins++oth).length<=60:=by rw [<- nmS,zq3];show lns
  show {kvs,ins++oth,s1 _ _ hkv,?_,Oo,λl1 hl1=>?_}
  ·rw [<- nmS,gm];show qP hbp
  let t1:=Ng (o:=.lst ((FX.srt (ins++oth)).map V.str)) hl1;let s2:=s1.trans t1;show {_,_,s2.seqT hdT,rfl,_,_,s2.seqT hdT,rfl,?_};show {pi,po,_,_,rfl,rfl,s2 _ _ hpi,s2 _ _ hpo,by rw [zq3,zq3,bB];rw [bW] at lno;omega,λl2 hl2=>?_};let t2:=Ng (o:=.lst (ins.map V.str++oth.map V.str)) hl2;let e2:upd (upd H1 l1 (.lst ((FX.srt (ins++oth)).map V.str))) l2 (.lst (ins.map V.str++oth.map V.str)) l2=some (.lst ((ins++oth).map V.str)):=by rw [ae,dN]
  let e1:upd (upd H1 l1 (.lst ((FX.srt (ins++oth)).map V.str))) l2 (.lst (ins.map V.str++oth.map V.str)) l1=some (.lst ((FX.srt (ins++oth)).map V.str)):=t2 _ _ ae;let s3:=s2.trans t2;generalize upd (upd H1 l1 (.lst ((FX.srt (ins++oth)).map V.str))) l2 (.lst (ins.map V.str++oth.map V.str))=H3 at e1 e2 s3;change mx K [V.ref l2] H3 _;rw [oC];show {ins++oth,Nh e2,Oo,λl3 hl3=>?_};let t3:=Ng (o:=.lst ((FX.srt (ins++oth)).map V.str)) hl3;show {_,.lists (λ_=>true) (Nh (t3 _ _ e1)) (Nh ae) rfl (λj x y hx hy=>?_),_,rfl,?_}
  ·rw [hx] at hy
   cases hy
   rw [bP] at hx;obtain ⟨n,_,rfl⟩:=zq30.mp hx;let z:=Dq.flat (K:=K) (H:=upd H3 l3 (.lst ((FX.srt (ins++oth)).map V.str))) (n:=0) (x:=.str n) (y:=.str n) rfl rfl;rw [show eqV (.str n) (.str n)=true from beq_self_eq_true n] at z;show z
  ·rw [show ((List.range ((FX.srt (ins++oth)).map V.str).length).all λ_=>true)=true by simp];show {s3.trans t3,_,rfl}
 rintro σ H2 ⟨s2,o3,rfl⟩;show later ?_;erw [];show {λσ H'=>SameX d H0 H'/\∃o3 o4,σ=[some (.ref x),some (.ref dr),some (.int (R.length:Int)),o3,o4],?_,?_}
 ·show bS (s2 _ _ ob) T.c14.cl T.n22 rfl {d,kvs,rfl,s2 _ _ hkv,λo=>?_};let nxd:x≠d:=aO ob hkv (λz=>nomatch z);let ndd:dr≠d:=aO hdr hkv (λz=>nomatch z);show DQ (λi σ H'=>SameX d H0 H'/\H' d=some (.frz o (.dK kvs))/\∃o3 o4,σ=[some (.ref x),some (.ref dr),some (.int (R.length:Int)),o3,o4]) {λc u e n=>by rw [ak n];show s2 _ _ e,ae,_,_,rfl} (λi σ H' _ h=>h.2.1) ?_ ?_
  ·rintro i k v σ H3 hk ⟨s3,e3,o3,o4,rfl⟩;obtain ⟨b,hb,a0,e,_⟩:=L2.Paired.get hbp hk
   cases e
   let hbn:b.1∈bs.map (·.1):=zq32.mpr {b,bR hb,rfl};obtain ⟨a,hv,ha,_⟩:=oZ hbp hbn;obtain ⟨b',hb',eb,_⟩:=fZ hbn;rw [eb] at ha;let nad:a≠d:=aO ha hkv (λz=>nomatch z);obtain ⟨b1,b2⟩:=bw b' hb';erw [];let hdT3:SqT K H3 dr [.int (wd:Int),.ref pi,.ref po,.ref pr]:=Nl (s3 _ _ hdr ndd);show bS (s3 _ _ ob nxd) T.c14.cl T.n22 rfl {d,_,rfl,.inl {kvs,.inr b.1,.inr ⟨o,e3⟩,rfl,hv.symm},_,_,hdT3,rfl,?_};rw [sv];show {b'.2,s3 _ _ ha nad,Oo,Oo,(λy hy=>by let this:=b2 y hy;omega),λH4 s4=>{_,rfl,?_}};rw [zq0 On];show {λc u e n=>s4 _ _ (s3 _ _ e n),s4 _ _ e3,_,_,rfl}
  ·rintro σ H3 ⟨s3,_,h3⟩;show ⟨s3,h3⟩
 rintro σ H3 ⟨s3,o3,o4,rfl⟩;show later ?_;erw [];let nxd:x≠d:=aO ob hkv (λz=>nomatch z);let ndd:dr≠d:=aO hdr hkv (λz=>nomatch z);let nld:l≠d:=aO hsd hkv (λz=>nomatch z);let ob3:=s3 _ _ ob nxd;let hdT3:SqT K H3 dr [.int (wd:Int),.ref pi,.ref po,.ref pr]:=Nl (s3 _ _ hdr ndd);show bS ob3 T.c14.cl T.n23 rfl ?_;rw [eT];rw [bX (show (0:Int)<=(tell:Int) by omega),bX (show (tell:Int)<(R.length:Int) by omega)];show {_,rfl,?_};rw [zq1 On];show bS ob3 T.c14.cl T.n25 rfl ?_;rw [eT];rw [bX (show (0:Int)<=(stop:Int) by omega),bX (show (stop:Int)<(R.length:Int) by omega)];show {_,rfl,?_};rw [zq1 On];show bS ob3 T.c14.cl T.n24 rfl {_,_,hdT3,rfl,?_};rw [sv];show {said,s3 _ _ hsd nld,Oo,Oo,(λy hy=>by let this:=sw y hy;omega),λH4 s4=>q H4 λc u e n=>s4 _ _ (s3 _ _ e n)}
def oq{F G:Nb}:cI (F++G)=cI F+cI G:=by unfold cI;rw [dN,Dm]
def uf{us:N3}{b:Nc}{bs:List N9}(h:gn us b bs):bs.flatten.length=b.ds.length:=by
 obtain ⟨bss,hg,rfl⟩:=h;let z:=hg.perm.length_eq;rw [fi] at z;let e:(bz b.ds bss).flatten.length=bss.flatten.length:=by unfold bz;rw [xT,xT,gm];congr 1;show List.map_congr_left λx _=>by simp
 unfold fv
 split
 ·rw [Dj,bW,e,z];rfl
 ·rw [e,z]
def yT{m:Nat}{bs:List N9}{ed:FZ.Ed}(h:bs≠[]):cI (ij m bs ed)=bs.flatten.length:=by
 obtain ⟨l,x,e⟩:∃l x,bs=l++[x]:=by
  rcases xP bs with z | ⟨l,b,z⟩
  ·show absurd z h
  ·show {l,b,by rw [z,ua]}
 subst e;unfold ij;rw [oq];let e1:gE (l++[x])=x:=by unfold gE;simp
 let e2:cI ((l++[x]).dropLast.mapIdx λj d=>({d,.go (m+j+1)}:Nc))=l.flatten.length:=by
  rw [List.dropLast_concat];unfold cI;rw [xT];congr 1;apply Dd;intro i;rw [bP,List.getElem?_mapIdx,bP]
  cases l[i]?<;>rfl
 rw [e1,e2,Dj,bW];simp [cI]
def tF{us:N3}{n:Nat}:∀{fs:be} {l:List (Nc×List N9)} {acc:Nb},(∀p∈l,gn us p.1 p.2/\p.1.ds.length<=n)->cI (l.foldl (mV fs) acc)<=cI acc+n * l.length
 |fs,[],acc,_=>by simp
 |fs,p::l,acc,h=>by
  obtain ⟨h1,h2⟩:=h p (cS ..);let z:=tF (us:=us) (n:=n) (fs:=fs) (l:=l) (acc:=mV fs acc p) λx hx=>h x (zq8 _ hx);let e:cI (mV fs acc p)=cI acc+p.1.ds.length:=by unfold mV;rw [oq,yT (by obtain ⟨bss,_,e⟩:=h1;rw [e];show nQ),uf h1]
  rw [iE,cG,zu];omega
def zb{us:N3}{B:Nb}{bbs:List (List N9)}(hL:Paired (gn us) B bbs)(h8:∀b∈B,b.ds.length<=8):cI (nz B bbs)<=8 * B.length:=by
 let z:=tF (us:=us) (n:=8) (fs:=bY bbs) (l:=B.zip bbs) (acc:=[]) λp hp=>by
  obtain ⟨i,hi⟩:=zq149.mp hp;obtain ⟨h1,h2⟩:=zq69.mp hi;obtain ⟨bs,h3,h4⟩:=L2.Paired.get hL h1;rw [h2] at h3
  cases h3
  show {h4,h8 _ (bR h1)}
 let lz:(B.zip bbs).length<=B.length:=by rw [jV];omega
 let e:cI ([]:Nb)=0:=rfl;rw [e,Nat.zero_add] at z;show bF z (Nat.mul_le_mul_left _ lz)
def oF:Sp:=λvs H Q _=>∃c:Int,vs=[.int c]/\Builtin.Int.intBits c<=2 ^ 20/\∀(us:N3)(p:Addr),us.length=3->(∀x∈us,0<x/\x<=3)->H p=none->Q (.ref p) (upd H p (.tup (us.map V.int)))
def CF{ns:N0}{wd:Int}{us:N3}{B:Nb}{bbs:List (List N9)}(hG:FZ.ki ns wd B.length B)(hB:0<B.length)(hL:Paired (gn us) B bbs):
  FZ.ki ns wd (nz B bbs).length (nz B bbs)/\0<(nz B bbs).length/\(nz B bbs).length<=9 * B.length:=by
 let hl:=hL.length;let hb:∀(i:Nat)b bs,B[i]?=some b->bbs[i]?=some bs->gn us b bs/\b.ds.length<=8:=λi b bs h1 h2=>by
  obtain ⟨bs',h3,h4⟩:=Nu hL h1;rw [h2] at h3
  cases h3
  show {h4,(hG b (bR h1)).len}
 let hm:∀bs∈bbs,∃b,gn us b bs/\b.ds.length<=8:=λbs hbs=>by obtain ⟨i,hi⟩:=zq149.mp hbs;obtain ⟨b,h1,_⟩:=NC hL hi;show {b,hb i b bs h1 hi}
 let hne:∀bs∈bbs,bs≠[]:=λbs hbs=>let ⟨b,h1,h2⟩:=hm bs hbs;(fY h2 h1).1;let len:(nz B bbs).length=gz bbs:=by let z:=jl hl hne B.length (zq4 _);rw [mP hl,hl,eA] at z;show z
 let nine:=oJ λbs hbs=>let ⟨b,h1,h2⟩:=hm bs hbs;rM h2 h1;show {?_,?_,Oo}
 ·rw [len,<- mP hl];show CD (us:=us) hl hne hG (λi b bs h1 h2 l hl2=>by obtain ⟨z1,z2⟩:=hb i b bs h1 h2;show (fY z2 z1).2 l hl2) _ (zq4 _)
 ·rw [len];let z:=(oj hne (i:=0) Oo).2;omega
def Bz{c:Int}{H:Hp}{Q:VK}{E:XK}:oF [.int c] H Q E=(Builtin.Int.intBits c<=2 ^ 20/\∀(us:N3)(p:Addr),us.length=3->(∀x∈us,0<x/\x<=3)->H p=none->Q (.ref p) (upd H p (.tup (us.map V.int)))):=∅
def yz(T:Txt K mg t):FnOk P w K mg base CX0 2 t.f_63 t.e_63 ["_law_cell"] oF:=by
 show T.d_63.F.ok sc_63 ∅ ?_;rintro cdv A outer s H vs Q E hr ⟨c,rfl,hb,q⟩;show {_,(XSs.h (af (aw (i:=1) sc_63.nd rfl ll (av T.d_56 (mi T) hr.m #[!0,ai] gl)) (aj (ao (aK #[ax bM ai (ax aZ (!1) ai),ax bM ai (ax aZ (ax bo (!1) ai) ai),ax bM ai (ax aZ (ax bo (!1) ai) ai)]))))),?_}
 ac_rfl;rwa [g9];let h0:=rW c 6;show {hb,On,On,Nr On On,Nr On On,λp hp=>?_};show q [1+j6 c 6 % 3,1+j6 c 6 / 8 % 3,1+j6 c 6 / 64 % 3] p rfl (λx hx=>?_) hp;simp only [List.mem_cons,List.not_mem_nil,or_false] at hx;rcases hx with rfl | rfl | rfl<;>omega
variable {a a':Addr} {n:Nat} {xs ys:N7}
section
variable {K:N5} {H:Hp}
def kF:((List.range n).all λ_=>true)=true:=zq49.mpr λ_ _=>rfl
def pE(ea:H a=some (.lst xs))(ea':H a'=some (.lst ys))(hl:xs.length=ys.length)(h:∀(j:Nat)x y,xs[j]?=some x->ys[j]?=some y->Dq K H n x y true):Dq K H (n+1) (.ref a) (.ref a') true:=by
 by_cases e:a=a'
 ·subst e;show .same
 ·let z:=Dq.lists (λ_=>true) e (Nh (K:=K) ea) (Nh ea') hl h;rwa [kF] at z
def pF(ea:SqT K H a xs)(ea':SqT K H a' ys)(hl:xs.length=ys.length)(h:∀(j:Nat)x y,xs[j]?=some x->ys[j]?=some y->Dq K H n x y true):Dq K H (n+1) (.ref a) (.ref a') true:=by
 by_cases e:a=a'
 ·subst e;show .same
 ·let z:=Dq.tups (λ_=>true) e ea ea' h;rwa [kF,hl,beq_self_eq_true,Dh] at z
mutual
def MM:∀(s:Stm){x y:V} {f g:N2} {n:Nat},StmV K H x s f->StmV K H y s g->2 * s.deep+1<=n+1->Dq K H (n+1) x y true
 | .deed d,x,y,f,g,n,h1,h2,hn=>by
  cases h1 with
  |deed _ e1=>
   cases h2 with
   |deed _ e2=>show pF e1 e2 rfl (FW.DK d)
 | .ifs m a b,x,y,f,g,n,h1,h2,hn=>by
  rw [Stm.deep] at hn;obtain ⟨k,rfl⟩:∃k,n=k+1:={n-1,Oo}
  cases h1 with
  |ifs q1 ea eb sa sb=>
   cases h2 with
   |ifs q2 ea' eb' sa' sb'=>
    let z1:=Cm a sa sa' (n:=k) Oo;let z2:=Cm b sb sb' (n:=k) Oo;let d1:=pE ea ea' z1.2 z1.1;let d2:=pE eb eb' z2.2 z2.1;show pF q1 q2 rfl λj x y hx hy=>?_
    match j,hx,hy with
    |0,hx,hy=>cases hx;cases hy;show FW.fB
    |1,hx,hy=>cases hx;cases hy;show FW.fB
    |2,hx,hy=>cases hx;cases hy;show d1
    |3,hx,hy=>cases hx;cases hy;show d2
 | .whl m a,x,y,f,g,n,h1,h2,hn=>by
  rw [Stm.deep] at hn;obtain ⟨k,rfl⟩:∃k,n=k+1:={n-1,Oo}
  cases h1 with
  |whl q1 ea sa=>
   cases h2 with
   |whl q2 ea' sa'=>
    let z1:=Cm a sa sa' (n:=k) Oo;let d1:=pE ea ea' z1.2 z1.1;show pF q1 q2 rfl λj x y hx hy=>?_
    match j,hx,hy with
    |0,hx,hy=>cases hx;cases hy;show FW.fB
    |1,hx,hy=>cases hx;cases hy;show FW.fB
    |2,hx,hy=>cases hx;cases hy;show d1
def Cm:∀(l:Nf){xs ys:N7} {f g:N2} {n:Nat},StmsV K H xs l f->StmsV K H ys l g->2 * ce l+1<=n->(∀(j:Nat)x y,xs[j]?=some x->ys[j]?=some y->Dq K H n x y true)/\xs.length=ys.length
 | [],xs,ys,f,g,n,h1,h2,hn=>by
  cases h1
  cases h2
  show {λj x y hx _=>by simp at hx,rfl}
 |s::l,xs,ys,f,g,n,h1,h2,hn=>by
  rw [ce] at hn;obtain ⟨k,rfl⟩:∃k,n=k+1:={n-1,Oo}
  cases h1 with
  |cons a1 t1=>
   cases h2 with
   |cons a2 t2=>
    let d:=MM s a1 a2 (n:=k) Oo;let z:=Cm l t1 t2 (n:=k+1) Oo;show {λj x y hx hy=>?_,by rw [cG,cG,z.2]}
    cases j with
    |zero=>cases hx;cases hy;show d
    |succ j=>show z.1 j x y hx hy
end
def EU{l:Nf}{f g:N2}(ea:H a=some (.lst xs))(ea':H a'=some (.lst ys))(sa:StmsV K H xs l f)(sa':StmsV K H ys l g)(hn:2 * ce l+1<=n):Rq K H n (.ref a) (.ref a') true:=by obtain ⟨z1,z2⟩:=Cm l sa sa' hn;let z:=Rq.lists (λ_=>true) (Nh (K:=K) ea) (Nh ea') z2 z1;rwa [kF] at z
end
def DrV.same{K:N5}{H H' H2:Hp}{q:Addr}{wd:Int}{ins oth:N0}{ss:Nf}{pi po pr:Addr}{g:N2}{many:Nat}(h:DrV K H H' q wd ins oth ss pi po pr xs g many)(s:Same H' H2):DrV K H H2 q wd ins oth ss pi po pr xs g many:=
 {s _ _ h.tup,s _ _ h.ia,s _ _ h.oa,s _ _ h.ra,h.st.same s,h.gd,h.dp,h.mn,h.w1,h.w8,h.pos,h.few,h.nd,h.fr,h.nf}
def HX{C p a0 b0 r0:Addr}{d:Nat}{wd:Int}{H:Hp}{Q:VK}{E:XK}:x9 K C d [.ref p,.int wd,.ref a0,.ref b0,.ref r0] H Q E=vy K C d p a0 b0 r0 wd H Q:=∅
def EV{H:Hp}{b:Addr}{xs:N0}(ha:SqL K H a (xs.map V.str))(hb:SqL K H b (xs.map V.str)):Rq K H n (.ref a) (.ref b) true:=by
 let z:=Rq.lists (n:=n) (λ_=>true) ha hb rfl λj x y hx hy=>by
  rw [hx] at hy
  cases hy
  rw [bP] at hx;obtain ⟨i,hi,rfl⟩:=zq30.mp hx;let e:true=eqV (.str i) (.str i):=by simp [eqV]
  rw [e];show .flat rfl rfl
 rwa [show ((List.range (xs.map V.str).length).all λ_=>true)=true by simp] at z
def wV{sp:Sp}{E:XK}{t:TA}{σ:L2.St}{H:Hp}{Q:VK}:mK sp [.bl false] E t σ H Q=t σ H λvs H1=>sp (vs++[.bl false]) H1 Q E:=rfl
def GR{wd:Nat}{ns pins:N0}{F:Nb}(hp:NP wd ns F):(nA wd ns).1.length<=(nS wd ns pins F).1.length:=by obtain ⟨m1,_⟩:=wA (ins:=[]) (wi:=0) (wd:=wd) (ns:=ns) (F:=F);obtain ⟨_,g2,_⟩:=kf (ins:=[]) (wi:=0) (wd:=wd) (ns:=ns) (F:=F);obtain ⟨m3,_⟩:=ww (ins:=[]) (wi:=0) hp;obtain ⟨m4,_⟩:=wx (ins:=[]) (wi:=0) hp;obtain ⟨_,l5⟩:=wy (ins:=[]) (wi:=0) hp;obtain ⟨j1,j2,j3⟩:=AG (wd:=wd) (ns:=ns) (pins:=pins) (F:=F);let lG:(nE wd ns F).length<=(nG wd ns pins F ns).length:=wz;let lD4:=m4.gr.1.len;let lC3:=m3.gr.1.len;let lM2:=g2.1.len;let lL1:=m1.gr.1.len;omega
def sj{α β γ:Type}{S:α->γ->Prop}:∀{l:List α} {m:List (β×γ)},Paired (λy p=>S y p.2) l m->Paired S l (m.map (·.2))
 |_,_,.nil=>.nil
 |_,_,.cons h t=>.cons h (sj t)
def KpV(K:N5)(H9 H:Hp)(acc:Addr)(y x:V)(b:Nc):Prop:=∃q a e vs q' a',x=.ref q/\y=.ref q'/\H9 q=some (.tup [.ref a,.ref e])/\H9 a=some (.lst vs)/\Paired (DeedV1 K H9) vs b.ds/\H9 e=some (.tup (fH b.ed))/\H q'=some (.tup [.ref a',.ref e])/\H a'=some (.lst vs)/\a'≠acc/\H9 a'=none
def DS{ns:N0}{wd:Nat}{d:Na}(w8:wd<=8)(h:Deed.good ns (wd:Int) d):cX ns d:=by
 let key:∀o:Opd,Opd.good ns (wd:Int) o->uF ns o:=λo ho=>by
  cases o with
  |box n=>show ho
  |word i=>
   let z:0<=i/\i<2 ^ (wd:Int).toNat:=ho;show {z.1,Int.lt_of_lt_of_le z.2 ?_};rw [eh]
   exact_mod_cast Di (by decide:0<2) w8
 intro o ho
 cases d with
 |tell a=>
  rw [zq15.mp ho];show key _ h
 |copy n a=>
  rw [zq15.mp ho];show key _ h.2
 |op f n a b=>
  rcases zq9.mp ho with rfl | ho
  ·show key _ h.2.2.1
  ·rw [zq15.mp ho];show key _ h.2.2.2
def GW(T:Txt K mg t)(hw:t.pr=w.params):FnOk P w K mg base CX0 41 t.f_69 t.e_69 ["_law_script"] (sp_law K):=by
 let G_68:=@wD P w K mg base t T 4;let G_0:=@E7 P w K mg base t T 4;let G_51:=@B0 P w K mg base t T hw 4;show T.d_69.F.ok sc_69 ∅ ?_;rintro cdv A outer s H vs Q E hr ⟨a,ns,rfl,hS,hlen,hbits,q⟩;let hu:=ii hr;show {_,(XSs.h (af (aw (i:=1) sc_69.nd rfl ll (av T.d_62 (AS T) hr.m #[!0,ai] gl)) (af (aw (i:=2) sc_69.nd rfl ll (jR T.c11 T.d_0 G_0 hr.m #[aq aD (!1) ai,c6 cc gl T.z19 boot_list #[aq aD (!1) ai],c6 cc gl T.z19 boot_list #[aq aD (!1) ai],av T.d_68 G_68 hr.m #[aq aD (!1) ai] gl] gl)) (af (aw (i:=3) sc_69.nd rfl ll (av T.d_51 G_51 hr.m #[!2,av T.d_63 (yz T) hr.m #[av T.d_55 (Fp T) hr.m #[!0,ai] gl] gl] gl)) (af (cK (i:=4) sc_69.nd rfl ll rfl Om (tns:=["_law_state"]) (cns:=[]) (ci:=[]) rfl (Np Om) (aX (!3)) (λ_=>(ay (i:=1) (show List.Nodup [(".0":Str),("_law_state":Str)] by decide +kernel) rfl ll (Or.inr Om))) (λ_=>bf) (λ_=>(aK #[c6 cc gl T.z19 boot_list #[aq aD (!1) ai],aq aD (!1) ai]))) (af (aw (i:=5) sc_69.nd rfl ll (oO T.d_28 (GZ T) hr.m #[!2,!3] gl)) (da (aM (cq (cD (cZ (aV (av T.d_67 (Jk T) hr.m #[!5,!1] gl))) (cQ (aA (B4 (n:=3) (kl On hr)) (!3) (!4) (aH _))))) (aj (ao fh)) aF) (af (aw (i:=6) sc_69.nd rfl ll (az aC gl T.z15 Nm #[aL (!5) rfl])) (af (aT (bH Nk Ni Nj aS (aL (!5) rfl) #[aK (eZ Os)])) (af (aT (bH Nk Ni Nj aS (!3) #[aK #[aR ac,aK #[aG]]])) (af (aw (i:=7) sc_69.nd rfl ll (oO T.d_28 (GZ T) hr.m #[!2,!4] gl)) (da (aM (cq (cD (cZ (aV (av T.d_67 (Jk T) hr.m #[!7,!1] gl))) (cD (aA qj (az aC gl T.z15 Nm #[aL (!7) rfl]) ai (aH _)) (cQ (aA jS (!6) ai (aH _)))))) (aj (ao fh)) aF) (aj (ao (cx (bu (iA (n:=40) (kl On hr)) (aL (!2) rfl) (aq aD (!1) ai) (aH _)) (dB (bu (iA (n:=0) (kl On hr)) (aL (!2) rfl) (ax eM (aq aD (!1) ai) (aq aD (!1) ai)) (aH _)))))))))))))))))),?_}
 ac_rfl;erw [EC];show {ns,10,rfl,On,On,hS,hbits,λq0 wd ins oth ss pi po pr xs g H1 s1 hD=>?_};let hdp:=hD.dp;let hmn:=hD.mn;let hfew:=hD.few;rw [bW] at hfew;let hgd:=hD.gd;show later ?_;erw [];show {_,_,Nl hD.tup,rfl,_,_,Nl hD.tup,rfl,_,_,rfl,.inl (Nh hD.ia),λli hli=>?_};let t1:=Ng (o:=.lst (ins.map V.str)) hli;show {_,_,Nl (t1 _ _ hD.tup),rfl,_,_,rfl,.inl (Nh (t1 _ _ hD.oa)),λlo hlo=>?_};let t2:=Ng (o:=.lst (oth.map V.str)) hlo;let t12:=t1.trans t2;show {_,_,Nl (t12 _ _ hD.tup),rfl,?_};rw [jI];show {xs,ss,g,t12 _ _ hD.ra,hD.st.same t12,Oo,Oo,λrc ys1 g1 H2 s2 e2 v2 _ _=>?_};let ei:=s2 _ _ (t2 _ _ (show upd H1 li (.lst (ins.map V.str)) li=some (.lst (ins.map V.str)) from ae));let eo:=s2 _ _ (show upd (upd H1 li (.lst (ins.map V.str))) lo (.lst (oth.map V.str)) lo=some (.lst (oth.map V.str)) from ae);let s02:=s1.trans (t12.trans s2);let hD2:=hD.same (t12.trans s2);clear t12 t1 t2 s2 hli hlo;intro pp dx hpp hdx hne;erw [HX];let s6:Same H2 (upd (upd H2 dx (.own pp)) pp (.ins t.C11 dx [])):=(Ng hdx).updM hpp;show {dx,ins,oth,ys1,ss,g1,ae,s6 _ _ ei,s6 _ _ eo,s6 _ _ e2,v2.same s6,Oo,Oo,Oo,Oo,λa' b' r' ys gg H7 sx hP _ _=>?_};let s7:Same H2 H7:=λc' o' e=>sx c' o' (s6 _ _ e) (au e hpp);let hD7:=hD2.same s7;let s07:=s02.trans s7;clear s7 sx s6 ei eo e2 v2 hpp hdx hD hD2 s02;show {rfl,?_};show later ?_;erw [JF,Bz];show {ns,s07.seq hS,On,qE hbits,λus ut h3 hp3 hut=>?_};let t8:=Ng (o:=.tup (us.map V.int)) hut;let eu:upd H7 ut (.tup (us.map V.int)) ut=some (.tup (us.map V.int)):=ae;let hP8:=hP.same t8;let hD8:=hD7.same t8;clear hP hD7 s1 s07;generalize upd H7 ut (.tup (us.map V.int))=H8 at t8 eu hP8 hD8 ⊢;rw [EQ];show {wd,ins,oth,ss,a',b',r',ys,gg,us,ins++oth,hP8,Oo,Oo,hgd,Nl eu,h3,hp3,λtb ts bbs H9 s9 htb0 htb hL hts=>?_};let lB:=FZ.iK ss;let hG:=FZ.l8 hgd;obtain ⟨g1',g2',g3'⟩:=CF hG lB.2 hL;let lt:=hts.length;obtain ⟨wn,rfl⟩:∃wn:Nat,wd=(wn:Int):={wd.toNat,by let this:=hD8.w1;omega}
 let w1:=hD8.w1;let w8:=hD8.w8;let w8n:wn<=8:=by omega
 let nd:=hD8.nd;let md:=zb hL λb hb=>(hG b hb).len;let up8:=hD8.few;generalize nz (FZ.cT ss) bbs=F at g1' g2' g3' hts lt md;let lF:F.length<=549:=by omega
 let lM:cI F<=488:=by omega
 let np:NP wn (ins++oth) F:={Oo,λb hb d hd=>DS w8n ((g1' b hb).gd d hd),λb hb=>(g1' b hb).nm}
 let hin:∀n∈ins,n∈ins++oth:=λn hn=>mS _ hn;let few:=GP (ins:=ins) (wi:=wn) (pins:=ins) np (λn hn=>hn) (zq4 wn) w8n nd;let few:(nS wn (ins++oth) ins F).1.length<=60000:=by omega
 obtain ⟨k1,k2,k3,k4,k5⟩:=AH (ins:=ins) (wi:=wn) (pins:=ins) np (λn hn=>hn) (zq4 wn);obtain ⟨a1,a2,a3⟩:=nA_ok (ins:=ins) (wi:=wn) (wd:=wn) (ns:=ins++oth);let lU:=(AG (wd:=wn) (ns:=ins++oth) (pins:=ins) (F:=F)).2.2;let u2:=k3.2;show later ?_;erw [];show {{_,Nh htb},λacc hacc bk=>?_};show cL (xs:=ts) (λi zs H'=>Same H9 H'/\H' acc=some (.lst zs)/\Paired (λy (xb:V×Nc)=>KpV K H9 H' acc y xb.1 xb.2) zs ((ts.zip F).take i)) {Ng hacc,ae,.nil} (λi zs H' _ h=>Nh (h.1 _ _ htb)) ?_ ?_
 ·rintro i x zs H10 os hx hos ⟨s10,e10,hK⟩;obtain ⟨b,hb,hbv⟩:=L2.Paired.get hts hx;obtain ⟨qb,ab,eb,vs,rfl,v1,v2,v3,v4,v5,v6⟩:=hbv;let hz:(ts.zip F)[i]?=some (V.ref qb,b):=by rw [zq69];show ⟨hx,hb⟩
  let hi:i<(ts.zip F).length:=(zq7.mp hz).1;let et:(ts.zip F).take (i+1)=(ts.zip F).take i++[(V.ref qb,b)]:=by rw [dH hi,(zq7.mp hz).2]
  show kH hos ?_;rwa [];let lzs:=hK.length;rw [dz,jV] at lzs;show {_,_,Nl (s10 _ _ v1),rfl,ab,vs,rfl,.inl (Nh (s10 _ _ v2)),λl1 hl1=>?_};let t1:=Ng (o:=.lst vs) hl1;let s11:=s10.trans t1;show {_,_,Nl (s11 _ _ v1),rfl,λp1 hp1=>?_};let t2:=Ng (o:=.tup [V.ref l1,.ref eb]) hp1;let e1:upd (upd H10 l1 (.lst vs)) p1 (.tup [V.ref l1,.ref eb]) l1=some (.lst vs):=t2 _ _ ae;let e2:upd (upd H10 l1 (.lst vs)) p1 (.tup [V.ref l1,.ref eb]) p1=some (.tup [V.ref l1,.ref eb]):=ae;let s12:=s11.trans t2;let e12:=(t1.trans t2) _ _ e10;let kk:=t1.trans t2;generalize upd (upd H10 l1 (.lst vs)) p1 (.tup [V.ref l1,.ref eb])=H11 at e1 e2 s12 e12 kk;let nl:l1≠acc:=(au e10 hl1).symm;let npa:p1≠acc:=aO e2 e12 (λz=>nomatch z);show {e12,by rw [lzs,bB];omega,s12.updM hacc,ae,?_};rw [et];show FL.Paired.snoc {qb,ab,eb,vs,p1,l1,rfl,rfl,v1,v2,v3,v4,by rw [ak npa];show e2,by rw [ak nl];show e1,nl,s10.free hl1} (FL.Paired.imp hK λy _ xb _ ⟨q,a,e,vs,q',a',z1,z2,z3,z4,z5,z6,z7,z8,z9,z10⟩=>{q,a,e,vs,q',a',z1,z2,z3,z4,z5,z6,?_,?_,z9,z10})
  ·rw [ak (aO z7 e10 (λz=>nomatch z))];show kk _ _ z7
  ·rw [ak z9];show kk _ _ z8
 ·rintro zs H10 ⟨s10,e10,hK⟩;rw [kC (by rw [jV];omega)] at hK;show later ?_;erw [wV,List.cons_append,List.nil_append];rw [Fy];let hKl:=hK.length;rw [jV] at hKl;let s8:Same H8 H10:=s9.trans s10;let hP10:=hP8.same s8;let hD10:=hD8.same s8;obtain ⟨dxp,hpp⟩:=hP10.ob;let tab9:Dy K H10 tb F:={ts,s10 _ _ htb,FL.Paired.imp hts λx _ b _ ⟨qb,ab,eb,vs,e,v1,v2,v3,v4,v5,v6⟩=>{qb,ab,eb,vs,e,Nl (s10 _ _ v1),s10 _ _ v2,FL.Paired.imp v3 λ_ _ _ _ z=>z.ts s10.ts,Nl (s10 _ _ v4)}}
  let hl5:(nS wn (ins++oth) ins F).1.length<=100000:=by omega
  let htg:∀b∈F,∀j∈b.ed.tg,j<F.length:=λb hb=>(g1' b hb).tg;let lno:(ins++oth).length<=60:=by omega
  let nfh:∀{N:Addr->Prop} {H':Hp} {x L d l:Addr},Same H8 H'->Gi K t.C14 N H' x L d l (nS wn (ins++oth) ins F).1 (nA wn (ins++oth)).2 (nU wn (ins++oth) ins F).2 (nZ wn (ins++oth) F) (nS wn (ins++oth) ins F).2->NfH K t.C14 N H' x q0 L d l (nS wn (ins++oth) ins F).1 (nA wn (ins++oth)).2 (nU wn (ins++oth) ins F).2 (nZ wn (ins++oth) F) (nS wn (ins++oth) ins F).2 wn ins oth pi po pr:=λs h=>by
   let hD':=hD8.same s;let ba:∀b∈(nA wn (ins++oth)).2,b.2.length=wn/\Ws (nS wn (ins++oth) ins F).1 b.2:=λb hb=>by let z:=a1.bs b hb;let ll:(nA wn (ins++oth)).1.length<=(nS wn (ins++oth) ins F).1.length:=GR np;show {z.1,λx hx=>bT (z.2.1 x hx) ll}
   let lm:=(kf (ins:=ins) (wi:=wn) (wd:=wn) (ns:=ins++oth) (F:=F)).2.2;show {h,k4.fm,few,a3,by let z:=congrArg List.length a3;rw [zq3] at z;omega,ba,Oo,iT k5.ms Oo,k4.len,k4.ws,w8n,hD'.tup,hD'.ia,hD'.oa}
  show {F,ins++oth,ins,wn,tab9,⟨dxp,a',b',r',hpp,hP10.ia,hP10.bx⟩,np,w8n,nd,Oo,hin,htg,Oo,Oo,hl5,λx L d l H11 s11 hN11=>later ?_};let s811:=s8.trans s11;erw [];obtain ⟨hx0,hL0,hd0,hl0⟩:=hN11.nw;obtain ⟨dxn,ob⟩:=hN11.ob;obtain ⟨rs,hrs,hrv⟩:=hN11.rows;obtain ⟨kvs,hkv,_⟩:=hN11.bx;let lrs:=hrv.length;let nxd:x≠d:=aO ob hkv (λz=>nomatch z);let nLd:L≠d:=aO hrs hkv (λz=>nomatch z);show {λσ H'=>Same H10 H'/\H' x=some (.ins t.C14 dxn (AJ (.ref L) (.ref d) (.int ((nU wn (ins++oth) ins F).2:Nat)) (.ref l) (.int (nZ wn (ins++oth) F:Nat))))/\H' L=some (.lst rs)/\σ=[some (.ref a),some (.ref q0),some (.ref pp),some (.ref tb),some (.ref acc),some (.ref x),none,none],?_,?_}
  ·rw [K0];show {_,L,d,l,_,_,_,_,_,wn,ins,oth,pi,po,pr,nfh s811 hN11,λH12 s12=>{_,rfl,?_}};rw [zq0 On];let s1012:Same H10 H12:=λc o e=>s12 c o (s11 c o e) (λz=>by rw [z,hd0] at e;cases e);let s912:=s10.trans s1012;show {true,?_,_,rfl,?_}
   ·let z:=Rq.lists (K:=K) (n:=3) (λ_=>true) (Nh (s912 _ _ htb)) (Nh (s1012 _ _ e10)) (show ts.length=zs.length by omega) λj u v hu hv=>by
     obtain ⟨⟨x',b0⟩,hxb,q1,a1',e1,vs,q2,a2',z1,z2,z3,z4,z5,z6,z7,z8,z9,z10⟩:=L2.Paired.get hK hv;obtain ⟨h1,h2⟩:=zq69.mp hxb;dsimp only at h1 z1;rw [hu] at h1
     cases h1
     subst z1 z2;show pF (n:=2) (Nl (s912 _ _ z3)) (Nl (s1012 _ _ z7)) rfl λj u v hu hv=>?_
     match j,hu,hv with
     |0,hu,hv=>
      cases hu;cases hv
      show pE (n:=1) (s912 _ _ z4) (s1012 _ _ z8) rfl λj u v hu hv=>?_;rw [hu] at hv
      cases hv
      obtain ⟨dd,_,qd,rfl,_⟩:=L2.Paired.get z5 hu;show .same
     |1,hu,hv=>cases hu;cases hv;show .same
     |j+2,hu,hv=>simp at hu
    rw [kF] at z;show z
   ·rw [zq0 On];show {s1012,s12 _ _ ob nxd,s12 _ _ hrs nLd,rfl}
  rintro σ H12 ⟨s12,ob12,hr12,rfl⟩;let s812:=s8.trans s12;show later ?_;erw [];show bS ob12 T.c14.cl T.n21 rfl {L,_,rfl,.inl (Nh hr12),later ?_};erw [];show bS ob12 T.c14.cl T.n21 rfl ?_;show {.inl {rfl,_,Nh hr12},λp0 hp0=>?_};let t0:=Ng (o:=.tup [V.str "fix",.int 0]) hp0;show {L,rs,_,rfl,rfl,t0 _ _ hr12,by rw [lrs,bB];omega,later ?_};let s13:Same H10 (upd (upd H12 p0 (.tup [V.str "fix",.int 0])) L (.lst (rs++[.ref p0]))):=(s12.trans t0).updM hL0;change CB _ _ _ _ (upd (upd H12 p0 (.tup [V.str "fix",.int 0])) L (.lst (rs++[.ref p0])));generalize upd (upd H12 p0 (.tup [V.str "fix",.int 0])) L (.lst (rs++[.ref p0]))=H13 at s13;let htb10:=s10 _ _ htb;erw [];show {.inl {rfl,_,Nh (s13 _ _ htb10)},λp1 hp1 p2 hp2 p3 hp3=>?_};let tt:=((Ng (o:=.lst []) hp1).trans (Ng (o:=.tup [V.str "stop"]) hp2)).trans (Ng (o:=.tup [V.ref p1,.ref p2]) hp3);show {ts,(s13.trans tt) _ _ htb10,by rw [lt,bB];omega,later ?_};let s1014:=s13.trans tt;let s814:Same H8 (upd (upd (upd (upd H13 p1 (.lst [])) p2 (.tup [V.str "stop"])) p3 (.tup [V.ref p1,.ref p2])) tb (.lst (ts++[.ref p3]))):=(s8.trans s1014).updM htb0;let kp:∀c o,c≠tb->H10 c=some o->upd (upd (upd (upd H13 p1 (.lst [])) p2 (.tup [V.str "stop"])) p3 (.tup [V.ref p1,.ref p2])) tb (.lst (ts++[.ref p3])) c=some o:=λc o n e=>by rw [ak n];show s1014 _ _ e
  change CB _ _ _ _ (upd (upd (upd (upd H13 p1 (.lst [])) p2 (.tup [V.str "stop"])) p3 (.tup [V.ref p1,.ref p2])) tb (.lst (ts++[.ref p3])));generalize upd (upd (upd (upd H13 p1 (.lst [])) p2 (.tup [V.str "stop"])) p3 (.tup [V.ref p1,.ref p2])) tb (.lst (ts++[.ref p3]))=H14 at s814 kp;let t914:TSame H9 H14:={λc ys e=>kp c _ (aO e htb (λz=>nomatch z)) (s10 _ _ e),λc o u e=>kp c _ (aO e htb (λz=>nomatch z)) (s10 _ _ e)}
  let nat:acc≠tb:=λz=>by rw [z,htb] at hacc;cases hacc
  let tab14:Dy K H14 acc F:=by
   show {zs,kp _ _ nat e10,?_};let z:Paired (λy (p:V×Nc)=>StV K H14 y p.2) zs (ts.zip F):=FL.Paired.imp hK λy _ xb _ ⟨q,a,e,vs,q',a',z1,z2,z3,z4,z5,z6,z7,z8,z9,z10⟩=>{q',a',e,vs,z2,Nl (kp _ _ (aO z7 htb10 (λz=>nomatch z)) z7),kp _ _ (λz=>by rw [z,htb] at z10;cases z10) z8,FL.Paired.imp z5 λ_ _ _ _ z=>z.ts t914,Nl (kp _ _ (aO (s10 _ _ z6) htb10 (λz=>nomatch z)) (s10 _ _ z6))}
   let z2:=sj z;rw [List.map_snd_zip Oo] at z2;show z2
  let hP14:=hP8.same s814;obtain ⟨dx14,hpp14⟩:=hP14.ob;erw [wV,List.cons_append,List.nil_append];rw [Fy];show {F,ins++oth,ins,wn,tab14,⟨dx14,a',b',r',hpp14,hP14.ia,hP14.bx⟩,np,w8n,nd,Oo,hin,htg,Oo,Oo,hl5,λx2 Lb d2 l2 H15 s15 hN15=>later ?_};let s815:=s814.trans s15;obtain ⟨_,_,hd2,_⟩:=hN15.nw;obtain ⟨dxn2,ob2⟩:=hN15.ob;obtain ⟨rs2,hrs2,hrv2⟩:=hN15.rows;obtain ⟨kvs2,hkv2,_⟩:=hN15.bx;let lrs2:=hrv2.length;let nxd2:x2≠d2:=aO ob2 hkv2 (λz=>nomatch z);let nLd2:Lb≠d2:=aO hrs2 hkv2 (λz=>nomatch z);erw [];show {λσ H'=>Same H8 H'/\∃o5 o6 o7,σ=[some (.ref a),some (.ref q0),some (.ref pp),some (.ref tb),some (.ref acc),o5,o6,o7],?_,?_}
  ·rw [K0];show {_,Lb,d2,l2,_,_,_,_,_,wn,ins,oth,pi,po,pr,nfh s815 hN15,λH16 s16=>{_,rfl,?_}};rw [zq0 On];show bS (s16 _ _ ob2 nxd2) T.c14.cl T.n21 rfl {Lb,_,rfl,.inl (Nh (s16 _ _ hrs2 nLd2)),aJ (λz=>absurd z Oo) (λ_=>aJ (λz=>absurd z Oo) (λ_=>{λc o e=>s16 c o (s815 c o e) (λz=>?_),_,_,_,rfl}))};let e14:=s814 c o e;rw [z,hd2] at e14
   cases e14
  rintro σ H16 ⟨s16,o5,o6,o7,rfl⟩;let hP16:=hP8.same s16;let hD16:=hD8.same s16;obtain ⟨dx16,hpp16⟩:=hP16.ob;show later ?_;erw [];show bS hpp16 T.c11.cl T.n15 rfl {_,_,Nl hD16.tup,rfl,true,EU hP16.rs hD16.ra hP16.st hD16.st Oo,_,rfl,?_};rw [zq1 rfl];show bS hpp16 T.c11.cl T.n13 rfl {_,_,Nl hD16.tup,rfl,_,_,Nl hD16.tup,rfl,pi,po,_,_,rfl,rfl,hD16.ia,hD16.oa,by rw [zq3,zq3,bB];omega,λp9 hp9=>?_};let t9:=Ng (o:=.lst (ins.map V.str++oth.map V.str)) hp9;let e9:upd H16 p9 (.lst (ins.map V.str++oth.map V.str)) p9=some (.lst ((ins++oth).map V.str)):=by rw [ae,dN]
  show {true,EV (Nh (t9 _ _ hP16.bx)) (Nh e9),q _}
def yr(T:Txt K mg t):∀(s:Shared)(u:Value),BindsTo s t.e_69 {[u],[]} [("_law_script",u)]:=by obtain ⟨oc,od,kV,doc,pm,an,cdv,ct,osl,e,_,_⟩:=T.d_69.F.ex;intro s u;rw [e];show .of_eq rfl
end
def MN{l:W.OpenLaw}{q:Program}{loose:N0}{XP:(Str->N6)->Heap->Prop}{YP:World->Heap->Prop}{d:DefRec}{K:Params->N5}(hn:l.most=some 63)(hdf:d.params.defaults=[])(hd:d.name="law")
  (hY:∀(w:World)(h:Heap),YP w h->(K w.params).In h)
  (F:∀(w:World)(mg:Str->N6)(h:Heap),(K w.params).In h->h.Ns mainGlobals mg->∃t,Txt (K w.params) mg t/\t.pr=w.params) :
  W.WalkO q loose XP YP l.row.toRowW d [] (λf vs=>PySem.call f vs):=by
 show L2.CL (n:=63) (k:=100) (x:="_law_script") (CX:=λ_=>CX0) (sp:=λw=>sp_law (K w.params)) hn On hdf ⟨rfl,On,On,rfl⟩ hY (λw mg fa h KX G hmg=>?_) (λ_ _ a ns hl hb _ hS=>{a,ns,rfl,hS,hl,hb,λ_=>rfl}) λ_ _ _ _ _ z=>z;obtain ⟨t,T,hw⟩:=F w mg h KX G;rw [hd] at hmg;let e0:=hmg.symm.trans T.d_69.M
 cases e0
 show {t.e_69,yr T,λbase _ _=>(GW T hw).mono On}
end K61
end
local macro_rules|`(#print $s:str)=>do
 let mut r:=#[]
 let mut n:=0
 let mut k:=0
 for c in s.getString.toList do
  n:=n*62+(if c.isDigit then c.toNat-48 else if c.isLower then c.toNat-87 else c.toNat-29)
  k:=k+1
  if k%11==0 then
   let i:=Lean.mkIdent (.mkSimple s!"tw{n}")
   r:=r.push (<-`(command|def $i:ident:=0))
   n:=0
 return Lean.mkNullNode r
namespace PySem.W.Fast
#print "4oYAQgHsxav0qVEFV5rxiQgexzthjjDEf8Bm74uDSWF5cOnXUx52p1flwuWseuQPsM5Q8rssT0IMil4AmVBiE48TdJtcdU5zn97gGsZWO7WbvEkGUEREicbgX1QdImVAmvOH711Ane4qnulgly4oRJrJP83rTwDTV2xM4dSKFhdgYlZZ1mVekWiyZpK4cIvD2SfWWrbbBLPG2kypFiXpLgblqwMq3BYh0rCM9AhgTqWv9NBPXR7O16Y3C7dTo7OiUZZGI4CFhXlrhasvhV9l1kGexGvSzB6X0SCzi6h9X7Gz8wFDNKlJ1Ef12pRVPkg7sWdreZJB6qdOZTdOlNUeid39q0hgAGqA4mQj1YDHAr1eeMBTtNNWde47SknFjYWut6RUpFLFcb83jRf9PcZfqO76dHjjSsnnVU7vwDcyoZZRG6qJgHAQX6vPh2oxWQBZnmC104El5ikV2R0aubiUdveO02TzUyx75Zwp8SYeL5MpEkF4cpJSXG3Rnp9LC90VC89hy3fvxPV0IdYFgDKvTfzQTVs3ZsrrHFwuJ4gAsuz4DsUAwau8ZaM8mHgXjWdpO9QhX9134aoaVk30ba94E0tW1w0If1CyDFoI4lA29cVvnevPtHT20pvu4xLsCY5Ty2hpgLHzw0zadfc0R3KB2yMr4jIwdV20E3BXOKREpU8iNaK7Du70B0uwzZyIOg9pkzXCG5D5F1b8ZFTSLfPlQH2YqDNgjX8IJljLHGkPHLYqdsxeyWd1lUI7GmwaQJZNLGbfQcclLb7zX3I182fF4UEc4rr2U8HIsay6ktlOVbzQRe1tklDU809Qb4iOhwSbuQ6w0A9KzkFGa0xbAs7dsy3RKd8vdEHQylvCTgkmOTj0XnEUiYn1lZzU9U4h6hbIb3zkwN3U3mbl5quJ4fdslr3sOODbh1YYoqubJzxbnxRt48J4IE039mMOVBvQlbjVkiPBfrYCc7GDmbpevZWao6Eidd7arf6u7d9BqdwOVapzhP0fv3gEiKbkBLwPkOX7A60auW3vemjkQci7dXDTXatonBfhPSJUio4lXfayL9lgp91hyC36ma8WEF8zAvIEu1FSpPE7LG2L94fZYi2qDvVdg1Mj1h68lAeQNxcEhFi3Y2dxs4dMNLXE4gXxqFTo5nlbHYO75m076I4ItBsiRLfRR3mbKTumeCzY8ON2YRca7kmbAUi9kw2WOL1HyQws4wkme4XpNIaXmYEpkxfb7g4IsI6jcMxlm8XJL9kCUhT6wEOlCc1T0gSlTpDr7PwgIJfzYUjcpdgLnTaitC1qdA0Mlv4UJ0vQ506itsBKgAG8hQpr4tA2NPLVslGx4I6xw8saPsh7153znZIJRmgK86JzQ7ZlcdKeShREhFTybScvaZoOAeplv7BRx0Pt45wMc2gzhsipPGTk7DcEywA59K0Yarsynu4mG3GIsdHWm4dK30LnbG5ichxk8s09jepo2A0S8cc2ZXmqybLxyrOVYaqKgJtcZSljFCqhnHGmtvu4D34rDTXB3V5nY1eUD4585Cmu9ICl2qsB6tiewhsbb8x943eEtMVYfSDej7yK9DQ7TZYki51QgDrTm5BiBUfIGCFXSM9tqyRTUS8EQlWcX4uSHDB86PmXr1NGdRI3dcLFmXw1WEcG4UcSf6ZZU8KVaa9Uv0Zc7q4Lp2JqgHo9EPjvKKBRf7kIxFHp7vyJ95itsZZQyON23V4YkL1X7MJdwxMwiHErO4jRvdA0Q2NiEf7y8z8ZlMTo8HDNzgciT8W3WWVwZQP4qelWjsVBNhDLh9miBc7F1zdR2hMOGaGhgESgSIEqazJPiZ4JEwKf8ygLj5lqMAzJzexo9rwHgjaWWs25ft9RNkBkwIcLoSr0nVTix5NHEQV2m8pf3hVc8WZlmBrfH7WSathE8K22QD3MYpHuz73gZPVK22ZX7tU2OflJYnNgMmxuheD0kR34kiflKrmfWgpb88wAWJq5emN0W5tKOn39k0T0bJJyGG5qCwx39LexU0Dl4GwqZsabecm8Jvz6tRN4eL0gP39RQNjaYsHEkWE3wdoruu8yNWcc31Li5f5gvRhetREZppeuLP558bqATZPLHiUEwvWUagrK47YTEU4ryOHbTr4QQ3ZXQtacQb83O4f2BhhD8JIo2Uzd9towIzIlQDzhmwe1LHmN7rcGcNIJKdhbO8XToSK3bUvd9ysGUwMZDz38CTu9BPcXTP6yclbVhQeivcWASKk9ximv598Fg0nnYmBi7BnXgEzwws8Xwktany5ZdcSPcwB5Bswf6NjgGiLvQQf9wxxH2tEa2gfCVLT68mRRT9jBk3amjF3OeDH8jH1L4AR7jSBQ94m7E71loHmogs5WhjSYGMAW8STD6o1pWxSmvZuc1odkDVdXJv8t6T7V6kQLKcfGiWEfx6bAhPixu3gFbp69aWGZn9y7ttk4rofkOBJSw0byfKvM0mmC1qABfTc6WOq3ZYIuFFDraYlFgVb9NnsAdkjwJEHJH9GA0mIKW2SAXo8fTO9JNKDgKK1xcHcWGHJj7iq0kJEQaAme3jUpqWuumSwkWyLwKwlmFkjlYYDeLIps61JwXV684J2s40WwgWMk6kalCYAXmSe2HnfKYfDl3wHhIdiGsRhjREj83hkgBd3UKwwf0zcJlONOJSgpRxfbDjreeeqJPajvTbUIca9MRmKo1d4aBjyRbXcZgw3wig7AJbBLN0De0hd6SQlH5uaYhrRxmf4cQx7f9CVPeH81Js4gG5S55037WrZPcvwclcpOi6H6OlD6Ji6GLi6a43jLgvlkaTGVAc2nE4eTfNzH4tMB9bFeUIlljLeADkFdfs84ViDENYylJ2pMFjmrv80flkm6zatjVFqgY83F4SpiDVfLR0CJ1NznM1srtriu3eqllr4mVaPEnIbe3deWPqE86xhrebZ47L6V5lQgweI2FZPsc39Li6RDnvg5GKUP0VGgT5hl0gUcJzH7OhTbmwstrOKZdcD1784xmnz5J2XQ7Ef9GX9FDXcBWriG65dbjAhlTJV2fcDtb4ivwEC9NKjv431pxw0cOyoCsO7lM3opDGMaZTuLiZTOiq82VJq2nQSJd0qXox4eF2izrIOE2gtS1Nsy31PKl9Qun0zA55Hk63iGuasJtZibGBzFe2MuRbb6QFf35xbZhJByc9bohogiiZRnpJh5ryhrUJuSgiljV8acC8kkekgy5MYkU8Pk9q5cqtL0iIcPfK94WQIQmjzntfc4jmrEUxTSbTEtSC6RwGi5SfcN5F9hNDhsOZM0iEMkhei6d64uk25gkP8554upd5IkTfj0B45V8hdiLbPPC9toCbmYZjRLljVN7m21zJg3qYo0bDegVJQIti6aCJEBAmkY45uvsVy4RQFS4DXurgIgtemciyrzxvr6d69Utx08ypWckkwORZDsiGnN8fMhHPXTf9ylExCHZs5pJabh3rJIgoRFV4jXE6mBK2J6dD5NPk4Dtzx5raGEJyy94zfit1SxjtlH34tTYQyHwEkLhtEUGVQbea6kgzhIBwIWSbbuAz4U5ethxl3SuhqUKVpY87wwARqpCi2dq0Kmf0cYcOjV7geZ4MjTl9joGtms4sIw3biAcVUc2ur9NmKIuWP3wt5gbvxkXIcr92rOhxAPTCyL2afG8bWJIqldjCmhKMmyF0hJzooHYHpRKbiOLfF3hDvw5ZvQYT4fVO3hvNafMM673UhnQuDdc6fKBk83zZJPQWASc81zY2h65cKcS2RiMnvWHK7XrFOOltLWcjfIveSqo1IHhaPy3zYwJRwgwzv60tBo7ehNkYZsHR77Xk23kvKZi9aEgsaUcX7tcMGgwNPJPp47FH3JagMtK7KzWdl8W9QW8AftaFQanyNeoeR96dY4OvqzBO2mNju18h29QeA9nPfgDBjniXsBjhr2FMZ1OVc6OhPzWD65dZUqM4GZ5cF04AZAABbMlv9v6aIHCjX0DhP0dP7PG68QtRVB1S08r8BUSorHQQuI7sprJMMetov5FUlHCweLK5keB96FdumMA7kbYCBAs25TjTluH6tnkAPamHklY47h69049t4NsZDmCb90eAiaJ3HkkTV0IFJQF27bNJ0Fv5dmYY7Ofgc96VRAFbSIY8KNueORbxBBJr3NfcK3Xek99wYMK71Q1SzoOXZ30cyZFPCu7vdE84xdaGMA9XjaRp9yWX03eT7I3YdkLivgLiqZplJjStXzdBVQyG6BoEUa5Gc8bLX2J75DDHX5t2k5m4JdUHcyysy33UiFSqZwBCtkgCjx4E5Dxo17HIZC2RUCJ9bPTkc7WwG4kvUkWXj1yoWjGBdv28gu7fcQYUrq6K2Cm7ckQw7l75i4ivVkPgt0Boqbm5ZvVDxBXgkmSiJCdGGdP2goOg2BNfmg9NIGLDFjtVh6JMrXfNIKiZ0d32IN9QX5MhIUBwZer1wdh6ENaQ4OTXNeHWQiqgts6z3jAaMIQXbuL4uDisewntQ63L3TlHebc09bZUWqrGjNP1kGzHDIAgni2a3ve07G99ha6WdmpO1Blm74AWBCIcm4Ap3QzUrOOTdLGfmcb75byYjN1xcATFJXFiabK5dMj2oFtm7opqG6Qlyxq2nxuZwkgbhdlzH6fQS7ORJcN7ck8OzbNLbKx3s4l1Zyr0AuAbAQATz3lTwJ9e8wspKkqfCx8zpOr6hSBshAwEUakcnqiUPuzLC3bSAoumXnhg3bL7Ao01tXBGbFB4lkItY5pbCbGd7KRtYEbq6H3CCSIZ7ba4CaAyRdNzb9mUz12YgbGb0xO9iNF0mwaOuEKVUaoosaJBZvsB8i30aBp56F6BMx913oeZxPw3qpavyMDxC0Qumast3wy8TxeZ12JTzJ617G99SM0y9bkxtm9RNE7FNz3Fc9IcqR8wCp8F9GW3a68m3Hb9Fv5UKXzJxv9yMFWae4HhJ9y4flyPXnoY"
end PySem.W.Fast
set_option maxHeartbeats 4000000
local macro_rules | `(tactic| simp_arith [$ts,*])=>`(tactic| ((try dsimp only); k_is))
local macro_rules | `(∅)=>`(by simp_arith [])
set_option hygiene false
local macro_rules|`(!0)=>`(PySem.W.mg_none_of KX G ∅)|`(!1)=>`(by show PySem.W.findIn _ _ _ = some none; simp_arith [])|`(!2)=>`(L2.cF KX G ∅ ∅ ∅ ∅ (L2.bn2 fun _ _ _ _ _ _ _ _=>rfl))|`(!3)=>`(L2.dR ∅ ∅ ∅ ∅ ∅ (L2.bn3 fun _ _ _ _ _ _ _ _ _=>rfl))|`(!4)=>`(L2.cF KX G ∅ ∅ ∅ ∅ (L2.bn1 fun _ _ _ _ _ _ _=>rfl))|`(!5)=>`(L2.dR ∅ ∅ ∅ ∅ ∅ (L2.bn2 fun _ _ _ _ _ _ _ _=>rfl))|`(!6)=>`(L2.cF KX G ∅ ∅ ∅ ∅ (L2.bn4 fun _ _ _ _ _ _ _ _ _ _=>rfl))|`(!7)=>`(L2.cF KX G ∅ ∅ ∅ ∅ (L2.bn3 fun _ _ _ _ _ _ _ _ _=>rfl))|`(!8)=>`(L2.A0 KX G ∅ ∅ ∅ ∅ ∅ ∅ ∅)|`(!9)=>`(L2.dR ∅ ∅ ∅ ∅ ∅ (L2.bn1 fun _ _ _ _ _ _ _=>rfl))|`(!10)=>`(L2.dR ∅ ∅ ∅ ∅ ∅ (L2.bn4 fun _ _ _ _ _ _ _ _ _ _=>rfl))|`(!11)=>`(PySem.W.mg_of KX G ∅)
set_option hygiene true
open PySem PySem.W PyProof.Rows
set_option maxRecDepth 100000 in
set_option maxHeartbeats 0 in
theorem PySem.Challenge.cw_deedloom_k61_nets_formed_holds : PySem.Challenge.rw_deedloom_k61_nets_formed.Holds := by
 w_on; o_law; k_head; (case hw=>w_witness2)
 k_fill
 refine K61.MN (l := PySem.Challenge.rw_deedloom_k61_nets_formed) rfl rfl rfl (fun w h Y=>PySem.W.kIn_of Y) ?F
 case F =>
  intro w mg h KX G
  exact ⟨⟨w.params,_,_,_,_,_,_,_,_,_,_,_,_,_,_,_,_,_,_,_,_,_,_,_,_,_,_,_,_,_,_,_,_,_,_,_,_,_,_,_,_,_,_,_,_,_,_,_,_,_,_,_,_,_,_,_,_,_,_,_,_,_,_,_,_,_,_,_,_,_,_,_,_,_,_,_,_,_,_,_,_,_,_,_,_,_,_,_,_,_,_,_,_,_,_,_,_,_,_,_,_,_,_,_,_,_,_,_,_,_,_,_,_,_,_,_,_,_,_,_,_,_,_,_,_,_,_,_,_,_,_,_,_,_,_,_,_,_,_,_,_,_,_,_,_,_,_,_⟩,⟨!11,K61.Aq ∅ (by first | rfl | kernel_rfl | decide) (by first | rfl | kernel_rfl | decide),!11,!8,!1,!8,!1,!1,!1,!1,!8,!1,!1,!1,!8,!1,!1,!8,!1,!1,!1,!1,!1,L2.dR ∅ ∅ ∅ ∅ ∅ (L2.bn5 fun _ _ _ _ _ _ _ _ _ _ _=>rfl),!4,!4,!4,!4,!4,!4,!9,!5,!5,!3,!5,!3,!3,!3,!5,!10,!3,!3,!9,!3,!6,!6,!6,!6,!7,!7,L2.dR ∅ ∅ ∅ ∅ ∅ (L2.bn6 fun _ _ _ _ _ _ _ _ _ _ _ _=>rfl),L2.J6 KX G ∅ ∅ ∅ ∅ ∅ (fun _ _ _ _ _ _ _ _ _ _ hT hS=>BindsTo.of_defaults rfl hT hS rfl rfl),!2,!2,!6,L2.cF KX G ∅ ∅ ∅ ∅ (L2.bn6 fun _ _ _ _ _ _ _ _ _ _ _ _=>rfl),L2.cF KX G ∅ ∅ ∅ ∅ (L2.bn5 fun _ _ _ _ _ _ _ _ _ _ _=>rfl),!4,!9,!9,!5,!5,!3,!3,!3,!3,!2,!7,!2,!3,!5,!10,!10,!10,!2,!2,!2,!4,!2,!2,!2,!7,!7,!6,!7,!2,!4,!2,!6,!7,!2,!4,!4,!0,!0,!0,!0,!0,!0,!0,!0,!0,!0,!0,!0,!0,!0,!0,!0,!0,!0⟩,rfl⟩
