import PyProof.Rows.All
import Wide.All
import OpenK.AllK
import Wide.One
import Wide.Seal
import KE.KTryMore
import OpenK.KOwn
import PyProof.NsDelKeeps
import KE.KIsAll
import PySem.Challenge.RW_deedloom_k76_runs_that_are_too_long
set_option genSizeOf false
set_option compiler.extract_closed false
set_option Elab.async false
set_option linter.all false
set_option maxRecDepth 100000
local macro_rules|`($d:definition)=>`(noncomputable $d:definition)
local macro_rules|`(tactic|omega)=>`(tactic|first|assumption|lia|omega +splitNatSub)
noncomputable section
set_option linter.all false
namespace Zq
open PySem
def zq0:=@wpAny_bind
def zq1:=@if_neg
def zq2:=@if_pos
def zq3:=@wpAny_pure
def zq4:=@Nat.le_refl
def zq5:=@Heap.lt_size
def zq6:=@Bool.false_ne_true
def zq7:=@decide_eq_false
def zq8:=@List.mem_cons
def zq9:=@Heap.get?_push_of_some
def bz:=@List.mem_cons_of_mem
def bO:=@Nat.le_trans
def bP:=@sizeLine_eq
def bU:=@Nat.ne_of_lt
def bV:=@Heap.get?_push_size
def bW:=@List.length_cons
def c5:=@List.map_cons
def ce:=@Nat.zero_le
def ck:=@List.length_map
def cm:=@decide_eq_true
def cC:=@List.mem_cons_self
def cD:=@wpAny_mono
def cM:=@Nat.lt_of_lt_of_le
def zq23:=@List.mem_append
def cN:=@List.size_toArray
def zq25:=@List.getElem?_eq_some_iff
def dm:=@List.mem_append_right
def dn:=@Bool.and_eq_true
def zq28:=@List.mem_singleton
def dD:=@Int.emod_nonneg
def zq30:=@List.nodup_cons
def fk:=@Heap.get?_update_other
def fm:=@List.map_append
def fB:=@List.length_append
def zq34:=@List.mem_map
def zq35:=@beq_iff_eq
def gM:=@Int.toNat_natCast
def gN:=@Int.emod_lt_of_pos
def iJ:=@Bool.eq_iff_iff
def zq39:=@List.all_eq_true
def iK:=@Int.eq_ofNat_of_zero_le
def jm:=@List.getElem?_map
def jn:=@List.cons_append
def jo:=@Nat.lt_of_le_of_lt
def jp:=@wpAny_ite_split
def lF:=@Nat.lt_irrefl
def zq46:=@List.mem_range
def lG:=@List.getElem?_set_self
def lH:=@List.getElem?_set_ne
def lI:=@Nat.ne_of_gt
def lJ:=@List.length_take
def lK:=@List.mem_of_getElem?
def lL:=@wpAny_holding
def lM:=@List.any_cons
def lN:=@List.take_length
def oA:=@List.all_cons
def zq56:=@Option.map_eq_some_iff
def oB:=@List.getElem?_eq_getElem
def oC:=@Heap.get?_update_self
def oE:=@Array.getElem?_eq_getElem
def oF:=@List.getElem?_toArray
def oG:=@List.range_succ
def oH:=@decide_eq_true_iff
def qu:=@Nat.le_of_lt
def qx:=@List.mem_append_left
def qy:=@Heap.size_push
def qz:=@Nat.le_of_eq
def qA:=@List.append_nil
def qB:=@List.length_singleton
def qC:=@Option.map_some
def qD:=@Nat.add_le_add_left
def qE:=@Int.zero_add
def qF:=@List.lookup_cons
def qG:=@Bool.or_eq_true
def qH:=@List.take_of_length_le
def qI:=@List.take_succ_eq_append_getElem
def qJ:=@List.map_map
def qK:=@List.getElem?_eq_none
def qL:=@Int.pow_pos
def qM:=@Nat.add_assoc
def zq80:=@Array.getElem?_eq_some_iff
def qN:=@List.length_set
def ui:=@List.filterMap_cons
def uj:=@Heap.get?_none_of_le
def uk:=@Bool.false_and
def ul:=@Nat.lt_succ_self
def um:=@List.of_mem_zip
def uo:=@List.getElem?_append_right
def uq:=@Array.length_toList
def ur:=@Array.getElem?_toList
def ut:=@List.length_nil
def uu:=@List.map_nil
def uv:=@codeAny_builtin
def uw:=@List.length_reverse
def ux:=@List.append_assoc
def uy:=@List.range'_succ
def uz:=@List.reverse_append
def uA:=@List.reverse_reverse
def uB:=@List.nil_append
def zq99:=@Option.isSome_iff_exists
def rD:=@List.getElem?_replicate
def rE:=@List.getElem?_append_left
def rF:=@List.length_replicate
def rG:=@List.getElem?_cons_succ
def rH:=@Array.getElem?_eq_none
def rJ:=@List.drop_of_length_le
def zq106:=@Option.isNone_iff_eq_none
def rK:=@List.dropLast_concat_getLast
section
variable{Q R S T U V W X Y Z:Type}
theorem zA{A B:Q->Prop}(a):A a->B a->∃a,A a/\B a:=(⟨a,·,·⟩)
theorem zB{A B C:Q->R->Prop}(a b):A a b->B a b->C a b->∃a b,A a b/\B a b/\C a b:=(⟨a,b,·,·,·⟩)
theorem zC{A B C:Prop}:A->B->C->A/\B/\C:=(⟨·,·,·⟩)
theorem zD{A B C:Q->Prop}(a):A a->B a->C a->∃a,A a/\B a/\C a:=(⟨a,·,·,·⟩)
theorem zE{A B:Q->R->Prop}(a b):A a b->B a b->∃a b,A a b/\B a b:=(⟨a,b,·,·⟩)
theorem zF{A B C D:Q->R->Prop}(a b):A a b->B a b->C a b->D a b->∃a b,A a b/\B a b/\C a b/\D a b:=(⟨a,b,·,·,·,·⟩)
theorem zG{A B C D:Prop}:A->B->C->D->A/\B/\C/\D:=(⟨·,·,·,·⟩)
theorem zH{A B C D E:Prop}:A->B->C->D->E->A/\B/\C/\D/\E:=(⟨·,·,·,·,·⟩)
theorem zI{A B C D E F:Prop}:A->B->C->D->E->F->A/\B/\C/\D/\E/\F:=(⟨·,·,·,·,·,·⟩)
theorem zJ{A B C D E:Q->R->S->Prop}(a b c):A a b c->B a b c->C a b c->D a b c->E a b c->∃a b c,A a b c/\B a b c/\C a b c/\D a b c/\E a b c:=(⟨a,b,c,·,·,·,·,·⟩)
theorem zK{A:Q->R->S->T->U->Prop}(a b c d e):A a b c d e->∃a b c d e,A a b c d e:=(⟨a,b,c,d,e,·⟩)
theorem zL{A B:Q->R->S->Prop}(a b c):A a b c->B a b c->∃a b c,A a b c/\B a b c:=(⟨a,b,c,·,·⟩)
theorem zM{A B C D:Q->Prop}(a):A a->B a->C a->D a->∃a,A a/\B a/\C a/\D a:=(⟨a,·,·,·,·⟩)
theorem zN{A B C D E:Q->R->S->T->Prop}(a b c d):A a b c d->B a b c d->C a b c d->D a b c d->E a b c d->∃a b c d,A a b c d/\B a b c d/\C a b c d/\D a b c d/\E a b c d:=(⟨a,b,c,d,·,·,·,·,·⟩)
theorem zO{A:Q->R->S->Prop}(a b c):A a b c->∃a b c,A a b c:=(⟨a,b,c,·⟩)
theorem zP{A B C D E:Q->R->Prop}(a b):A a b->B a b->C a b->D a b->E a b->∃a b,A a b/\B a b/\C a b/\D a b/\E a b:=(⟨a,b,·,·,·,·,·⟩)
theorem zQ{A B C D:Q->R->S->Prop}(a b c):A a b c->B a b c->C a b c->D a b c->∃a b c,A a b c/\B a b c/\C a b c/\D a b c:=(⟨a,b,c,·,·,·,·⟩)
theorem zR{A:Q->R->Prop}(a b):A a b->∃a b,A a b:=(⟨a,b,·⟩)
theorem zS{A:Q->R->S->T->Prop}(a b c d):A a b c d->∃a b c d,A a b c d:=(⟨a,b,c,d,·⟩)
theorem zT{A B C D E:Q->Prop}(a):A a->B a->C a->D a->E a->∃a,A a/\B a/\C a/\D a/\E a:=(⟨a,·,·,·,·,·⟩)
theorem zU{A B C D E F H:Prop}:A->B->C->D->E->F->H->A/\B/\C/\D/\E/\F/\H:=(⟨·,·,·,·,·,·,·⟩)
theorem zV{A B C:Q->R->S->Prop}(a b c):A a b c->B a b c->C a b c->∃a b c,A a b c/\B a b c/\C a b c:=(⟨a,b,c,·,·,·⟩)
theorem zW{A B C D E F:Q->R->S->T->Prop}(a b c d):A a b c d->B a b c d->C a b c d->D a b c d->E a b c d->F a b c d->∃a b c d,A a b c d/\B a b c d/\C a b c d/\D a b c d/\E a b c d/\F a b c d:=(⟨a,b,c,d,·,·,·,·,·,·⟩)
theorem zX{A B:Q->R->S->T->Prop}(a b c d):A a b c d->B a b c d->∃a b c d,A a b c d/\B a b c d:=(⟨a,b,c,d,·,·⟩)
theorem zY{A B C D E F:Q->R->Prop}(a b):A a b->B a b->C a b->D a b->E a b->F a b->∃a b,A a b/\B a b/\C a b/\D a b/\E a b/\F a b:=(⟨a,b,·,·,·,·,·,·⟩)
theorem zZ{A:Q->R->S->T->U->V->W->X->Y->Prop}(a b c d e f g i j):A a b c d e f g i j->∃a b c d e f g i j,A a b c d e f g i j:=(⟨a,b,c,d,e,f,g,i,j,·⟩)
theorem zd{A B C D E:Q->R->S->T->U->Prop}(a b c d e):A a b c d e->B a b c d e->C a b c d e->D a b c d e->E a b c d e->∃a b c d e,A a b c d e/\B a b c d e/\C a b c d e/\D a b c d e/\E a b c d e:=(⟨a,b,c,d,e,·,·,·,·,·⟩)
theorem ze{A B C D E F H I:Prop}:A->B->C->D->E->F->H->I->A/\B/\C/\D/\E/\F/\H/\I:=(⟨·,·,·,·,·,·,·,·⟩)
theorem zf{A:Q->R->S->T->U->V->Prop}(a b c d e f):A a b c d e f->∃a b c d e f,A a b c d e f:=(⟨a,b,c,d,e,f,·⟩)
theorem zg{A:Q->R->S->T->U->V->W->X->Prop}(a b c d e f g i):A a b c d e f g i->∃a b c d e f g i,A a b c d e f g i:=(⟨a,b,c,d,e,f,g,i,·⟩)
theorem zi{A:Q->R->S->T->U->V->W->X->Y->Z->Prop}(a b c d e f g i j l):A a b c d e f g i j l->∃a b c d e f g i j l,A a b c d e f g i j l:=(⟨a,b,c,d,e,f,g,i,j,l,·⟩)
theorem zj{A B C D E F H I J:Prop}:A->B->C->D->E->F->H->I->J->A/\B/\C/\D/\E/\F/\H/\I/\J:=(⟨·,·,·,·,·,·,·,·,·⟩)
theorem zk{A B C D E F H I J K:Prop}:A->B->C->D->E->F->H->I->J->K->A/\B/\C/\D/\E/\F/\H/\I/\J/\K:=(⟨·,·,·,·,·,·,·,·,·,·⟩)
end
section
variable{Q R S T:Type}{g:Prop}
theorem eQ02{A B C:Prop}(k:A->B->C->g)(h:A/\B/\C):g:=let ⟨hA,hB,hC⟩:=h;k hA hB hC
theorem eQ03{A B C D:Prop}(k:A->B->C->D->g)(h:A/\B/\C/\D):g:=let ⟨hA,hB,hC,hD⟩:=h;k hA hB hC hD
theorem eQ04{A B C D E:Prop}(k:A->B->C->D->E->g)(h:A/\B/\C/\D/\E):g:=let ⟨hA,hB,hC,hD,hE⟩:=h;k hA hB hC hD hE
theorem eQ11{A B:Q->Prop}(k:∀a,A a->B a->g)(h:∃a,A a/\B a):g:=let ⟨a,hA,hB⟩:=h;k a hA hB
theorem eQ12{A B C:Q->Prop}(k:∀a,A a->B a->C a->g)(h:∃a,A a/\B a/\C a):g:=let ⟨a,hA,hB,hC⟩:=h;k a hA hB hC
theorem eQ13{A B C D:Q->Prop}(k:∀a,A a->B a->C a->D a->g)(h:∃a,A a/\B a/\C a/\D a):g:=let ⟨a,hA,hB,hC,hD⟩:=h;k a hA hB hC hD
theorem eQ14{A B C D E:Q->Prop}(k:∀a,A a->B a->C a->D a->E a->g)(h:∃a,A a/\B a/\C a/\D a/\E a):g:=let ⟨a,hA,hB,hC,hD,hE⟩:=h;k a hA hB hC hD hE
theorem eQ20{A:Q->R->Prop}(k:∀a b,A a b->g)(h:∃a b,A a b):g:=let ⟨a,b,hA⟩:=h;k a b hA
theorem eQ21{A B:Q->R->Prop}(k:∀a b,A a b->B a b->g)(h:∃a b,A a b/\B a b):g:=let ⟨a,b,hA,hB⟩:=h;k a b hA hB
theorem eQ22{A B C:Q->R->Prop}(k:∀a b,A a b->B a b->C a b->g)(h:∃a b,A a b/\B a b/\C a b):g:=let ⟨a,b,hA,hB,hC⟩:=h;k a b hA hB hC
theorem eQ23{A B C D:Q->R->Prop}(k:∀a b,A a b->B a b->C a b->D a b->g)(h:∃a b,A a b/\B a b/\C a b/\D a b):g:=let ⟨a,b,hA,hB,hC,hD⟩:=h;k a b hA hB hC hD
theorem eQ24{A B C D E:Q->R->Prop}(k:∀a b,A a b->B a b->C a b->D a b->E a b->g)(h:∃a b,A a b/\B a b/\C a b/\D a b/\E a b):g:=let ⟨a,b,hA,hB,hC,hD,hE⟩:=h;k a b hA hB hC hD hE
theorem eQ30{A:Q->R->S->Prop}(k:∀a b c,A a b c->g)(h:∃a b c,A a b c):g:=let ⟨a,b,c,hA⟩:=h;k a b c hA
theorem eQ31{A B:Q->R->S->Prop}(k:∀a b c,A a b c->B a b c->g)(h:∃a b c,A a b c/\B a b c):g:=let ⟨a,b,c,hA,hB⟩:=h;k a b c hA hB
theorem eQ32{A B C:Q->R->S->Prop}(k:∀a b c,A a b c->B a b c->C a b c->g)(h:∃a b c,A a b c/\B a b c/\C a b c):g:=let ⟨a,b,c,hA,hB,hC⟩:=h;k a b c hA hB hC
theorem eQ33{A B C D:Q->R->S->Prop}(k:∀a b c,A a b c->B a b c->C a b c->D a b c->g)(h:∃a b c,A a b c/\B a b c/\C a b c/\D a b c):g:=let ⟨a,b,c,hA,hB,hC,hD⟩:=h;k a b c hA hB hC hD
theorem eQ34{A B C D E:Q->R->S->Prop}(k:∀a b c,A a b c->B a b c->C a b c->D a b c->E a b c->g)(h:∃a b c,A a b c/\B a b c/\C a b c/\D a b c/\E a b c):g:=let ⟨a,b,c,hA,hB,hC,hD,hE⟩:=h;k a b c hA hB hC hD hE
theorem eQ40{A:Q->R->S->T->Prop}(k:∀a b c d,A a b c d->g)(h:∃a b c d,A a b c d):g:=let ⟨a,b,c,d,hA⟩:=h;k a b c d hA
theorem eQ41{A B:Q->R->S->T->Prop}(k:∀a b c d,A a b c d->B a b c d->g)(h:∃a b c d,A a b c d/\B a b c d):g:=let ⟨a,b,c,d,hA,hB⟩:=h;k a b c d hA hB
theorem eQ42{A B C:Q->R->S->T->Prop}(k:∀a b c d,A a b c d->B a b c d->C a b c d->g)(h:∃a b c d,A a b c d/\B a b c d/\C a b c d):g:=let ⟨a,b,c,d,hA,hB,hC⟩:=h;k a b c d hA hB hC
theorem eQ43{A B C D:Q->R->S->T->Prop}(k:∀a b c d,A a b c d->B a b c d->C a b c d->D a b c d->g)(h:∃a b c d,A a b c d/\B a b c d/\C a b c d/\D a b c d):g:=let ⟨a,b,c,d,hA,hB,hC,hD⟩:=h;k a b c d hA hB hC hD
theorem eQ44{A B C D E:Q->R->S->T->Prop}(k:∀a b c d,A a b c d->B a b c d->C a b c d->D a b c d->E a b c d->g)(h:∃a b c d,A a b c d/\B a b c d/\C a b c d/\D a b c d/\E a b c d):g:=let ⟨a,b,c,d,hA,hB,hC,hD,hE⟩:=h;k a b c d hA hB hC hD hE
end
@[inline] def zTt(v:Option Lean.Term)(q:Array (Lean.TSyntax `Lean.Parser.Tactic.rcasesPatLo))(ps:Array (Lean.TSyntax `rintroPat)):Lean.MacroM (Lean.TSyntax `tactic):=do
 let n:=q.size
 let mut t<-match v with
  |none=>`(tactic|(intro h;rcases h with ⟨$q,*⟩))
  |some v=>`(tactic|rcases $v:term with ⟨$q,*⟩)
 if ps.size>0 then t<-`(tactic|$t:tactic<;>rintro $ps*)
 for s in [2:n] do
  let mut p:=#[]
  let mut hs:=#[]
  for x in q[:if s+1=n then n else s] do
   if x.raw[0][0].getNumArgs==1&&x.raw[0][0][0][0].getId==`rfl then
    let h:=Lean.mkIdent (<-Lean.MonadQuotation.addMacroScope (.mkSimple s!"h{hs.size}"))
    hs:=hs.push h
    p:=p.push (<-`(rintroPat|$h:ident))
   else p:=p.push (<-`(rintroPat|($x:rcasesPatLo)))
  if s+1<n then
   let r:=q[s:].toArray
   p:=p.push (<-`(rintroPat|⟨$r,*⟩))
  p:=p++ps
  let mut u<-`(tactic|rintro $p*)
  if hs.size>0 then u<-`(tactic|$u:tactic<;>subst $hs*)
  for i in [0:s+1] do
   if i<5&&s-i<5 then
    let nm:=Lean.mkIdent (.mkSimple s!"eQ{i}{s-i}")
    match v with
    |none=>t<-`(tactic|first|(refine $nm ?_;$u:tactic)|$t:tactic)
    |some v=>if v.raw.isIdent then t<-`(tactic|first|(refine $nm ?_ $v;(try clear $v);$u:tactic)|$t:tactic) else t<-`(tactic|first|(refine $nm ?_ $v;$u:tactic)|$t:tactic)
 pure t
theorem Jk{p:Prop}(h:p:=by decide +kernel):p:=h
theorem Jl{p:Prop}(h:p:=by kernel_rfl):p:=h
theorem Jm{p:Prop}(h:p:=by decide):p:=h
theorem Jn{p:Prop}(h:p:=by omega):p:=h
theorem Jo{p:Prop}(h:p:=by simp):p:=h
theorem Jp{p:Prop}(h:p:=by rfl):p:=h
end Zq
open Zq
local macro_rules|`(tactic|obtain ⟨$p,*⟩:=$v)=>if p.getElems.size<3 then Lean.Macro.throwUnsupported else zTt v p #[]
local macro_rules|`(tactic|rintro $p*)=>do
 let some t:=p.findIdx? fun x=>x.raw[0].isOfKind `Lean.Parser.Tactic.rcasesPat.tuple&&x.raw[0][1].getSepArgs.size>2|Lean.Macro.throwUnsupported
 let b<-zTt none (p[t]!.raw[0][1].getSepArgs.map (⟨·⟩)) p[t+1:].toArray
 let a:=p[:t].toArray
 if t>0 then `(tactic|(rintro $a*;$b:tactic)) else pure b
section
open PySem PySem.Spec PyProof.Rows
namespace L2
abbrev Key:=Sum Int Str
def fQ:Key->Value->Bool
 | .inl k,v=>Value.isInt k v
 | .inr x,v=>Value.isStrOf x v
def wr(w:World):Key->Int
 | .inl k=>hashInt k
 | .inr x=>hashStr w x
theorem aU:∀{k:Key} {v:Value},fQ k v=true->(∃i t,k=Sum.inl i/\v=Value.int i t)\/(∃x t,k=Sum.inr x/\v=Value.str x t)
 | .inl i,v,h=>by
  obtain ⟨t,e⟩:=Value.isInt_shape (k:=i) (v:=v) h;exact .inl (zE i t rfl e)
 | .inr x,v,h=>by obtain ⟨t,e⟩:=Value.isStrOf_shape (x:=x) (v:=v) h;exact .inr (zE x t rfl e)
theorem kM(i:Int)(t:Tok):fQ (.inl i) (.int i t)=true:=by simp [fQ,Value.isInt]
theorem kN(x:Str)(t:Tok):fQ (.inr x) (.str x t)=true:=by simp [fQ,Value.isStrOf]
theorem rZ(a b:Int):decide ((Sum.inl a:Key)=Sum.inl b)=(a==b):=by
 by_cases e:a=b
 ·subst e;simp
 ·have h:¬(Sum.inl a:Key)=Sum.inl b:=fun q=>e (Sum.inl.inj q);rw [zq7 h];exact (beq_eq_false_iff_ne.mpr e).symm
theorem sf(a b:Str):decide ((Sum.inr a:Key)=Sum.inr b)=decide (a=b):=by
 by_cases e:a=b
 ·subst e;simp
 ·have h:¬(Sum.inr a:Key)=Sum.inr b:=fun q=>e (Sum.inr.inj q);rw [zq7 h,zq7 e]
theorem sd(a:Int)(b:Str):decide ((Sum.inl a:Key)=Sum.inr b)=false:=zq7 (fun q=>nomatch q)
theorem se(a:Str)(b:Int):decide ((Sum.inr a:Key)=Sum.inl b)=false:=zq7 (fun q=>nomatch q)
def aV(prog:Program)(w:World):PySem.KeyKind prog w Key where
 is:=fQ
 hash:=wr w
 inj:=fun v a b ha hb=>by
  rcases aU ha with ⟨i,t,rfl,rfl⟩ | ⟨x,t,rfl,rfl⟩
  ·rcases aU hb with ⟨j,u,rfl,e⟩ | ⟨y,u,rfl,e⟩
   ·injection e with e1 _;rw [e1]
   ·exact nomatch e
  ·rcases aU hb with ⟨j,u,rfl,e⟩ | ⟨y,u,rfl,e⟩
   ·exact nomatch e
   ·injection e with e1 _;rw [e1]
 byValue:=fun k v h=>by rcases aU h with ⟨i,t,rfl,rfl⟩ | ⟨x,t,rfl,rfl⟩<;>rfl
 pyHash:=fun hv h=>by
  rcases aU hv with ⟨i,t,rfl,rfl⟩ | ⟨x,t,rfl,rfl⟩
  ·exact wpAny_pyHash_int h
  ·exact wpAny_pyHash_str h
 eqBool:=fun hu hv h=>by
  rcases aU hu with ⟨i,t,rfl,rfl⟩ | ⟨x,t,rfl,rfl⟩
  ·rcases aU hv with ⟨j,u,rfl,rfl⟩ | ⟨y,u,rfl,rfl⟩
   ·rw [rZ] at h;exact wpAny_eqBool_int h
   ·rw [sd] at h;exact SeqAt.EqAt.int_str i t y u _ _ _ _ h
  ·rcases aU hv with ⟨j,u,rfl,rfl⟩ | ⟨y,u,rfl,rfl⟩
   ·rw [se] at h;exact SeqAt.EqAt.str_int x t j u _ _ _ _ h
   ·rw [sf] at h;exact wpAny_eqBool_str h
 «strs»:=fun k x t v h=>by
  rcases aU h with ⟨i,u,rfl,e⟩ | ⟨y,u,rfl,e⟩
  ·exact nomatch e
  ·injection e with e1 _;subst e1
   cases v<;>rfl
theorem i5(prog:Program)(w:World)(i:Int)(t:Tok):(aV prog w).is (.inl i) (.int i t)=true:=kM i t
theorem i6(prog:Program)(w:World)(x:Str)(t:Tok):(aV prog w).is (.inr x) (.str x t)=true:=kN x t
end L2
namespace L2
inductive V where
 |non | bl (b:Bool) | int (i:Int) | str (x:Str) | byt (b:Array UInt8) | flt (b:UInt64) | ref (a:Addr) | ty (n:String)
 deriving DecidableEq
def RelV:V->Value->Prop
 | .non,u=>u=Value.none
 | .bl b,u=>u=Value.bool b
 | .int i,u=>∃t,u=Value.int i t
 | .str x,u=>∃t,u=Value.str x t
 | .byt b,u=>∃t,u=Value.bytes b t
 | .flt b,u=>∃t,u=Value.float b t
 | .ref a,u=>u=Value.ref a
 | .ty n,u=>u=Value.type n
abbrev Vals:List V->List Value->Prop:=Paired RelV
theorem Vals.length{xs:List V}{us:List Value}(r:Vals xs us):xs.length=us.length:=Paired.length r
theorem Vals.get:∀{xs:List V} {us:List Value} {i:Nat} {x:V},Vals xs us->xs[i]?=some x->∃u,us[i]?=some u/\RelV x u
 |_,_,_,_,.nil,e=>by simp at e
 |_,_,0,_,.cons r _,e=>by simp at e;subst e;exact zA _ rfl r
 |_,_,i+1,x,.cons _ t,e=>by obtain ⟨u,h1,h2⟩:=Vals.get (i:=i) (x:=x) t (by simpa using e);exact zA u (by simpa using h1) h2
theorem Vals.append:∀{xs ys:List V} {us ws:List Value},Vals xs us->Vals ys ws->Vals (xs++ys) (us++ws)
 |_,_,_,_,.nil,s=>s
 |_,_,_,_,.cons r t,s=>.cons r (Vals.append t s)
theorem Vals.take:∀{xs:List V} {us:List Value} (n:Nat),Vals xs us->Vals (xs.take n) (us.take n)
 |_,_,0,_=>.nil
 |_,_,_+1,.nil=>.nil
 |_,_,n+1,.cons r t=>.cons r (Vals.take n t)
theorem Vals.drop:∀{xs:List V} {us:List Value} (n:Nat),Vals xs us->Vals (xs.drop n) (us.drop n)
 |_,_,0,r=>r
 |_,_,_+1,.nil=>.nil
 |_,_,n+1,.cons _ t=>Vals.drop n t
def RelO:Option V->Option Value->Prop
 |some v,some u=>RelV v u
 |none,none=>True
 |_,_=>False
def KV{κ:Type}:List (κ×V)->List (κ×Value)->Prop:=Paired fun (p:κ×V) (q:κ×Value)=>p.1=q.1/\RelV p.2 q.2
def kV:Key->V
 | .inl i=>.int i
 | .inr x=>.str x
inductive HO where
 /-- a list -/
 |lst (xs:List V)
 /-- a tuple (never changes) -/
 |tup (xs:List V)
 /-- a dict whose keys are ints and texts;one whose keys are tuples of ints and texts (the empty one is both) -/
 |dK (kvs:List (Key×V)) | dT (kvs:List (List Key×V))
 /-- a set of ints: its members,its size -/
 |set (S:Int->Bool) (n:Nat)
 /-- an instance of the class at C,its dict at dx,its attributes -/
 |ins (C dx:Addr) (fs:List (Str×V))
 /-- the dict of the instance at x -/
 |own (x:Addr)
 /-- the dict of an exception -/
 |xd (fs:List (Str×V))
 /-- a bound method,f of x -/
 |met (f x:Addr)
 /-- a range object lo,lo+1,.. below hi -/
 |rng (lo hi:Int)
 /-- a thing that is known to the object (the script;a dict while a loop walks it): read,never written while it is so -/
 |frz (o:Obj) (u:HO)
 /-- a code object's table -/
 |tbl (ps:Array Value)
 /-- any other thing,by what is true of its one object (a def of one's own: SetO a S n:=HO.ext fun h=>..) -/
 |ext (φ:Heap->Prop)
abbrev Hp:=Addr->Option HO
variable {u:HO}
def upd(H:Hp)(a:Addr)(o:HO):Hp:=fun b=>if b=a then some o else H b
theorem ac{H:Hp}{a:Addr}{o:HO}:upd H a o a=some o:=by unfold upd;rw [zq2 rfl]
theorem aj{H:Hp}{a b:Addr}{o:HO}(h:b≠a):upd H a o b=H b:=by unfold upd;rw [zq1 h]
theorem kj{H:Hp}{a:Addr}{o:HO}:upd (upd H a o) a u=upd H a u:=by funext b;unfold upd;split<;>rfl
theorem b9{H:Hp}{a b:Addr}{o:HO}(h:H a=some o)(h':H b=some u)(d:o≠u):a≠b:=by intro e;subst e;rw [h] at h';exact d (Option.some.inj h')
theorem am{H:Hp}{a b:Addr}{o:HO}(h:H a=some o)(h':H b=none):a≠b:=by intro e;subst e;rw [h] at h';cases h'
section
variable (P:Program) (w:World)
def ObjOk(H:Hp)(h:Heap)(a:Addr):HO->Prop
 | .lst xs=>xs.length<=sizeLine/\∃(its:List Value)(n:Nat),Vals xs its/\h.get? a=some {cls:=.type "list",data:=.seq its.toArray n}
 | .tup xs=>xs.length<=sizeLine/\∃its:List Value,Vals xs its/\IsTup h a its.toArray
 | .dK kvs=>kvs.length<=sizeLine/\(a==sysModules)=false/\∃vs,KV kvs vs/\h.DictOf (aV P w) a vs
 | .dT kvs=>kvs.length<=sizeLine/\(a==sysModules)=false/\∃xs:List (List Key×Addr×Value),
   Paired (fun (p:List Key×V) (q:List Key×Addr×Value)=>p.1=q.1/\H q.2.1=some (.tup (p.1.map kV))/\RelV p.2 q.2.2) kvs xs/\
   ∃o es ep,h.get? a=some o/\o.ExactDict/\o.data=.dict es ep/\es.toList=xs.map (entryOfKey (tupleKind (aV P w)))/\(xs.map (·.1)).Nodup
 | .set S n=>h.SetOf (intKind P w) a S n
 | .ins C dx fs=>H dx=some (.own a)/\fs.length<=1000/\dx≠a/\h.get? a=some (W.instObj C dx)/\
   ∃mA,h.Ns1 dx mA/\(∀f,RelO (fs.lookup f) (mA f))/\PySem.Within mA (fs.map (·.1))
 | .own _=>∃o,h.get? a=some o
 | .xd fs=>∃mA,h.Ns1 a mA/\∀f,RelO (fs.lookup f) (mA f)
 | .rng lo hi=>∃t u v,h.get? a=some {cls:=.type "range",data:=.fields #[.int lo t,.int hi u,.int 1 v]}
 | .frz o u=>h.get? a=some o/\ObjOk H h a u
 | .tbl ps=>h.get? a=some {cls:=.none,data:=.fields ps}
 | .met f x=>h.get? a=some (W.methodObj (.ref f) (.ref x))
 | .ext φ=>φ h/\(∃o,h.get? a=some o)/\∀h1 h2:Heap,φ h1->(∀o,h1.get? a=some o->h2.get? a=some o)->φ h2
def HOk(H:Hp)(h:Heap):Prop:=∀a o,H a=some o->ObjOk P w H h a o
end
section
variable {P:Program} {w:World} {H H':Hp} {h h':Heap} {a:Addr} {o:HO}
theorem ObjOk.lt(x:ObjOk P w H h a o):a<h.objs.size:=by
 cases o with
 |lst xs=>obtain ⟨_,_,_,_,e⟩:=x;exact zq5 e
 |tup xs=>obtain ⟨_,_,_,p⟩:=x;exact p.lt
 |dK kvs=>obtain ⟨_,_,_,_,o,_,_,e,_⟩:=x;exact zq5 e
 |dT kvs=>obtain ⟨_,_,_,_,o,_,_,e,_⟩:=x;exact zq5 e
 |set S n=>obtain ⟨o,_,_,_,e,_⟩:=x;exact zq5 e
 |ins C dx fs=>obtain ⟨_,_,_,e,_⟩:=x;exact zq5 e
 |own y=>obtain ⟨_,e⟩:=x;exact zq5 e
 |xd fs=>obtain ⟨_,⟨_,_,_,e,_⟩,_⟩:=x;exact zq5 e
 |rng lo hi=>obtain ⟨_,_,_,e⟩:=x;exact zq5 e
 |frz ob u=>obtain ⟨e,_⟩:=x;exact zq5 e
 |tbl ps=>exact zq5 (show h.get? a=some _ from x)
 |met f y=>exact zq5 (show h.get? a=some _ from x)
 |ext φ=>obtain ⟨_,⟨_,e⟩,_⟩:=x;exact zq5 e
theorem Paired.mapP{α β:Type}{F G:α->β->Prop}:∀{l₁:List α} {l₂:List β},Paired F l₁ l₂->(∀a b,F a b->G a b)->Paired G l₁ l₂
 |_,_,.nil,_=>.nil
 |_,_,.cons r t,f=>.cons (f _ _ r) (Paired.mapP t f)
theorem ObjOk.stay(x:ObjOk P w H h a o)(k:∀b u,(b=a\/H b=some (.own a))->h.get? b=some u->h'.get? b=some u)
  (ho:∀b,H b=some (.own a)->H' b=some (.own a)) (ht:∀b xs,H b=some (.tup xs)->H' b=some (.tup xs)):ObjOk P w H' h' a o:=by
 induction o with
 |lst xs=>obtain ⟨z,its,n,r,e⟩:=x;exact ⟨z,zE its n r (k _ _ (.inl rfl) e)⟩
 |tup xs=>obtain ⟨z,its,r,ob,e,c⟩:=x;exact ⟨z,zA its r (zA ob (k _ _ (.inl rfl) e) c)⟩
 |dK kvs=>obtain ⟨z,y,vs,r,ob,es,ep,e,c⟩:=x;exact zC z y (zA vs r (zL ob es ep (k _ _ (.inl rfl) e) c))
 |dT kvs=>
  obtain ⟨z,y,xs,r,ob,es,ep,e,c⟩:=x;exact zC z y (zA xs (Paired.mapP r fun p q z=>zC z.1 (ht _ _ z.2.1) z.2.2) (zL ob es ep (k _ _ (.inl rfl) e) c))
 |set S n=>obtain ⟨ob,es,ep,t,e,c⟩:=x;exact zX ob es ep t (k _ _ (.inl rfl) e) c
 |ins C dx fs=>
  obtain ⟨d,z,ne,e,mA,⟨od,es,ep,e2,c⟩,r⟩:=x;exact zH (ho _ d) z ne (k _ _ (.inl rfl) e) (zA mA (zL od es ep (k _ _ (.inr d) e2) c) r)
 |own y=>obtain ⟨ob,e⟩:=x;exact ⟨ob,k _ _ (.inl rfl) e⟩
 |xd fs=>obtain ⟨mA,⟨od,es,ep,e,c⟩,r⟩:=x;exact zA mA (zL od es ep (k _ _ (.inl rfl) e) c) r
 |rng lo hi=>obtain ⟨t,u,v,e⟩:=x;exact zO t u v (k _ _ (.inl rfl) e)
 |frz ob u ih=>obtain ⟨e,q⟩:=x;exact ⟨k _ _ (.inl rfl) e,ih q⟩
 |tbl ps=>
  have e:h.get? a=some {cls:=.none,data:=.fields ps}:=x;show h'.get? a=some {cls:=.none,data:=.fields ps};exact k a _ (.inl rfl) e
 |met f y=>
  have e:h.get? a=some (W.methodObj (.ref f) (.ref y)):=x;show h'.get? a=some (W.methodObj (.ref f) (.ref y));exact k a _ (.inl rfl) e
 |ext φ=>obtain ⟨p,⟨o,e⟩,st⟩:=x;exact zC (st _ _ p fun o q=>k _ _ (.inl rfl) q) ⟨o,k _ _ (.inl rfl) e⟩ st
theorem HOk.lt(x:HOk P w H h)(e:H a=some o):a<h.objs.size:=(x a o e).lt
theorem HOk.fresh(x:HOk P w H h)(e:h.objs.size<=a):H a=none:=by
 cases q:H a with
 |none=>rfl
 |some u=>exact absurd (cM (x.lt q) e) (lF _)
theorem HOk.kept(x:HOk P w H h)(k:∀b u,h.get? b=some u->h'.get? b=some u):HOk P w H h':=fun a o e=>(x a o e).stay (fun b u _ q=>k b u q) (fun _ q=>q) fun _ _ q=>q
theorem HOk.laid(x:HOk P w H h)(k:∀b u,h.get? b=some u->h'.get? b=some u)(hp:h.objs.size<=a)(new:ObjOk P w (upd H a o) h' a o):HOk P w (upd H a o) h':=fun b u e=>by
 have hn:=x.fresh hp
 by_cases hb:b=a
 ·subst hb;rw [ac] at e;cases e;exact new
 ·rw [aj hb] at e;exact (x b u e).stay (fun c v _ q=>k c v q) (fun c q=>by rw [aj (am q hn)];exact q) fun c xs q=>by rw [aj (am q hn)];exact q
end
def Rd(H:Hp)(a:Addr)(u:HO):Prop:=H a=some u\/∃o,H a=some (.frz o u)
theorem Rd.ok{P:Program}{w:World}{H:Hp}{h:Heap}{a:Addr}(r:Rd H a u)(x:HOk P w H h):ObjOk P w H h a u:=by
 rcases r with r | ⟨o,r⟩
 ·exact x a u r
 ·obtain ⟨_,q⟩:=x a _ r;exact q
def Mut:Option HO->Prop
 |some (.lst _)=>True
 |some (.dK _)=>True
 |some (.dT _)=>True
 |some (.set _ _)=>True
 |some (.ins _ _ _)=>True
 |some (.ext _)=>True
 |_=>False
section
variable {P:Program} {w:World} {H:Hp} {h h':Heap} {x e:Addr} {o':HO}
theorem HOk.write(ok:HOk P w H h)(mu:Mut (H x))(he:e=x\/H e=some (.own x))(k:∀b u,b≠e->h.get? b=some u->h'.get? b=some u)(heo:∃u,h'.get? e=some u)
  (new:ObjOk P w (upd H x o') h' x o'):HOk P w (upd H x o') h':=fun b u q=>by
 have nown:∀c y,H c=some (.own y)->c≠x:=fun c y r z=>by subst z;rw [r] at mu;exact mu
 have ntup:∀c xs,H c=some (.tup xs)->c≠x:=fun c xs r z=>by subst z;rw [r] at mu;exact mu
 by_cases hb:b=x
 ·subst hb;rw [ac] at q;cases q;exact new
 ·rw [aj hb] at q
  by_cases hbe:b=e
  ·have q':H b=some (.own x):=by
    rcases he with z | z
    ·exact absurd (hbe.trans z) hb
    ·rw [hbe];exact z
   rw [q] at q';cases q';obtain ⟨v,hv⟩:=heo;exact ⟨v,by rw [hbe];exact hv⟩
  ·refine (ok b u q).stay (fun c v hc r=>k c v ?_ r) (fun c r=>by rw [aj (nown c b r)];exact r) fun c xs r=>by rw [aj (ntup c xs r)];exact r
   rcases hc with rfl | hc
   ·exact hbe
   ·rintro rfl;rcases he with z | z
    ·exact nown c b hc z
    ·rw [hc] at z;cases z;exact hb rfl
end
structure Un(fs ex:List Addr)(H H':Hp)(h h':Heap):Prop where
 keep:∀b o,h.get? b=some o->H b=none->b∉fs->b∉ex->h'.get? b=some o
 slot:∀b o,h.get? b=some o->H b=none->b∈fs->b∉ex->∃sl,h'.get? b=some {o with slots:=sl}
 free:∀b o,h.get? b=some o->H b=none->b∉ex->H' b=none
 there:∀b o,h.get? b=some o->b∉ex->∃o',h'.get? b=some o'
 tups:∀b xs,H b=some (.tup xs)->H' b=some (.tup xs)
 frzs:∀b o u,H b=some (.frz o u)->H' b=some (.frz o u)
 tbls:∀b ps,H b=some (.tbl ps)->∃more,H' b=some (.tbl (ps++more))
section
variable {fs fs' ex ex':List Addr} {H H1 H2:Hp} {h h1 h2 h':Heap} {a x e:Addr} {o:HO}
theorem Un.any(u:Un fs ex H H1 h h1){b:Addr}{ob:Obj}(q:h.get? b=some ob)(n:H b=none)(hx:b∉ex):∃sl,h1.get? b=some {ob with slots:=sl}:=by
 by_cases hb:b∈fs
 ·exact u.slot b ob q n hb hx
 ·exact ⟨ob.slots,u.keep b ob q n hb hx⟩
theorem Un.kept(k:∀b u,h.get? b=some u->h'.get? b=some u):Un fs ex H H h h':=
 ⟨fun b ob q _ _ _=>k b ob q,fun b ob q _ _ _=>⟨ob.slots,k b ob q⟩,fun _ _ _ n _=>n,fun b ob q _=>⟨ob,k b ob q⟩,fun _ _ q=>q,fun _ _ _ q=>q,fun _ ps q=>⟨#[],by rw [q];simp⟩⟩
theorem Un.refl:Un fs ex H H h h:=Un.kept fun _ _ q=>q
theorem Un.laid(k:∀b u,h.get? b=some u->h'.get? b=some u)(hp:h.objs.size<=a)(hn:H a=none):Un fs ex H (upd H a o) h h' where
 keep:=fun b u q _ _ _=>k b u q
 slot:=fun b u q _ _ _=>⟨u.slots,k b u q⟩
 free:=fun b u q n _=>by rw [aj (bU (cM (zq5 q) hp))];exact n
 there:=fun b u q _=>⟨u,k b u q⟩
 tups:=fun b xs q=>by rw [aj (am q hn)];exact q
 frzs:=fun b u xs q=>by rw [aj (am q hn)];exact q
 tbls:=fun b ps q=>⟨#[],by rw [aj (am q hn),q];simp⟩
theorem Un.write(mu:Mut (H x))(he:e=x\/H e=some (.own x))(k:∀b u,b≠e->h.get? b=some u->h'.get? b=some u)(heo:∃u,h'.get? e=some u):Un fs ex H (upd H x o) h h':=by
 have hx:∀b,H b=none->b≠x:=fun b n z=>by subst z;rw [n] at mu;exact mu
 have hb:∀b,H b=none->b≠e:=fun b n z=>by
  subst z;rcases he with r | r
  ·exact hx b n r
  ·rw [n] at r;cases r
 have hm:∀b u,H b=some u->¬Mut (some u)->b≠x:=fun b u q nm z=>by subst z;rw [q] at mu;exact nm mu
 refine ⟨fun b u q n _ _=>k b u (hb b n) q,fun b u q n _ _=>⟨u.slots,k b u (hb b n) q⟩,fun b u q n _=>by rw [aj (hx b n)];exact n,fun b u q _=>?_,
  fun b xs q=>by rw [aj (hm b _ q fun z=>z)];exact q,fun b u xs q=>by rw [aj (hm b _ q fun z=>z)];exact q,fun b ps q=>⟨#[],by rw [aj (hm b _ q fun z=>z),q];simp⟩⟩
 by_cases hbe:b=e
 ·subst hbe;exact heo
 ·exact ⟨u,k b u hbe q⟩
end
def trk(h:Heap)(H:Hp):List Addr:=(List.range h.objs.size).filter fun a=>(H a).isSome
def gz(h:Heap)(H:Hp):Heap:=W.hideAll h (trk h H)
theorem kI(h:Heap)(H:Hp):(gz h H).objs.size=h.objs.size:=W.hideAll_size _ _
theorem mx{h:Heap}{H:Hp}{b:Addr}{o:Obj}(e:h.get? b=some o)(n:H b=none):(gz h H).get? b=some o:=
 W.hideAll_get _ e fun hm=>by have q:(H b).isSome=true:=(List.mem_filter.mp hm).2;rw [n] at q;simp at q
theorem pj{h:Heap}{H:Hp}{b:Addr}{o:Obj}(e:(gz h H).get? b=some o):h.get? b=some o/\H b=none:=by
 have e':h.get? b=some o:=W.of_hideAll (trk h H) e;refine ⟨e',?_⟩
 cases q:H b with
 |none=>rfl
 |some x=>have hm:b∈trk h H:=List.mem_filter.mpr ⟨zq46.mpr (zq5 e'),by simp [q]⟩;have z:(gz h H).get? b=none:=W.hideAll_none (trk h H) hm;rw [z] at e;cases e
def oO(g h:Heap)(L:Addr):List (Addr×Obj):=(List.range h.objs.size).filterMap fun a=>if a=L\/(g.get? a).isSome=true then none else (h.get? a).map fun o=>(a,o)
def d9(g h:Heap)(L d:Addr):List (Addr×Obj):=(oO g h L).filter fun p=>decide (p.1≠d)
end L2
namespace L2
structure Mod(K:W.Frag)(mg:Str->Option Value)(base:Heap):Prop where
 kin:K.In base
 glob:base.Ns mainGlobals mg
 blt:∃mb,base.Ns builtinsNs mb/\∀x:Str,x≠"__name__"->mb x=bootBuiltins x
 nolimit:base.NoLimit
structure Cx where
 prog:Program
 w:World
 K:W.Frag
 mg:Str->Option Value
 base:Heap
 A:Around
 N:List Str
 s₀:Shared
 H₀:Hp
 env:Env
 outer:List Env
 stack:List Env
 ex:List Addr
 fn:Str->Bool
 calm:Bool
 pn:List (Addr×Obj)
 xe:Value->Shared->Prop
def frs(l:List Env):List Addr:=l.filterMap (·.frame)
abbrev Cx.fs (X:Cx):List Addr:=frs X.outer
def Vis(sc:Scope)(x:Str):Prop:=sc.names.lookup x=some .local\/sc.names.lookup x=some .cell\/sc.names.lookup x=some .free
def Loc(sc:Scope)(x:Str):Prop:=sc.names.lookup x=some .local\/sc.names.lookup x=some .cell
def wm(env:Env)(h:Heap)(m:Str->Option Value)(x:Str)(u:Value):Prop:=
 (env.kindOf x=some .local/\m x=some u)\/((env.kindOf x=some .cell\/env.kindOf x=some .free)/\∃c,env.cells.lookup x=some c/\h.IsCell c (some u))
structure Cx.Ok(X:Cx):Prop where
 mod:Mod X.K X.mg X.base
 kind:X.env.scope.kind=.function
 glob:X.env.globals=mainGlobals
 blt:X.env.builtins=builtinsNs
 above:X.s₀.heap.objs.size<=X.env.locals
 inj:∀x y c,X.env.cells.lookup x=some c->X.env.cells.lookup y=some c->x=y
 has:∀x,(X.env.kindOf x=some .cell\/X.env.kindOf x=some .free)->∃c,X.env.cells.lookup x=some c
 cab:∀x c,X.fn x=true->X.env.cells.lookup x=some c->X.s₀.heap.objs.size<=c
 hd:X.calm=true->X.A.handled=none
 frames:X.A.frames=some X.stack
 stk:X.stack=X.outer\/(X.stack=X.env::X.outer/\X.env.frame=some X.env.locals)
 exf:∀b∈X.ex,b≠X.env.locals/\∀x c,X.env.cells.lookup x=some c->c≠b
 bs:∀b o,X.base.get? b=some o->X.s₀.heap.get? b=some o/\X.H₀ b=none
 bsz:X.base.objs.size<=X.s₀.heap.objs.size
 noex:∀b o,X.base.get? b=some o->b∉X.ex
 exfs:∀b∈X.ex,b∉X.fs
 funs:X.s₀.heap.FunFrames X.base X.outer
 frf:∀b∈X.fs,X.H₀ b=none
structure Inv(X:Cx)(pins:List (Addr×Obj))(σ:List (Option V))(H:Hp)(s:Shared):Prop where
 ok:X.Ok
 os:s.os=X.s₀.os
 bare:AllBare s.gens
 base:Un X.fs X.ex X.H₀ H X.s₀.heap s.heap
 loc:∃m,s.heap.Ns X.env.locals m/\∀(i:Nat)(x:Str)(v:V),X.N[i]?=some x->σ[i]?=some (some v)->Vis X.env.scope x->∃u,RelV v u/\wm X.env s.heap m x u
 cell:∀x c,X.env.cells.lookup x=some c->∃v,s.heap.IsCell c v
 free:H X.env.locals=none
 freeC:∀x c,X.env.cells.lookup x=some c->H c=none
 pin:∀p∈X.pn++pins,s.heap.get? p.1=some p.2/\H p.1=none/\p.1≠X.env.locals/\p.1∉X.fs/\∀v,p.2.data≠.cell v
 hok:HOk X.prog X.w H s.heap
 len:σ.length=X.N.length
section
variable {X:Cx} {pins:List (Addr×Obj)} {σ:List (Option V)} {H H':Hp} {s:Shared} {h':Heap}
theorem Cx.Ok.nofr(ok:X.Ok){b:Addr}{o:Obj}(e:X.base.get? b=some o):b∉X.fs:=fun hb=>by have:=(ok.funs.mem hb).1;rw [e] at this;cases this
theorem Inv.bs(I:Inv X pins σ H s):∀b o,X.base.get? b=some o->s.heap.get? b=some o/\H b=none:=fun b o e=>⟨I.base.keep b o (I.ok.bs b o e).1 (I.ok.bs b o e).2 (I.ok.nofr e) (I.ok.noex b o e),I.base.free b o (I.ok.bs b o e).1 (I.ok.bs b o e).2 (I.ok.noex b o e)⟩
theorem Inv.bk(I:Inv X pins σ H s):∀b o,X.base.get? b=some o->s.heap.get? b=some o:=fun b o e=>(I.bs b o e).1
theorem Inv.mod(I:Inv X pins σ H s):Mod X.K X.mg X.base:=I.ok.mod
theorem Inv.kIn(I:Inv X pins σ H s):X.K.In s.heap:=I.ok.mod.kin.keeps I.bk
theorem Inv.lt(I:Inv X pins σ H s):X.env.locals<s.heap.objs.size:=let ⟨_,hn,_⟩:=I.loc;hn.lt
theorem Inv.sz(I:Inv X pins σ H s):X.s₀.heap.objs.size<=s.heap.objs.size:=bO I.ok.above (qu I.lt)
theorem Inv.nofs(I:Inv X pins σ H s){a:Addr}(h:s.heap.objs.size<=a):a∉X.fs:=fun hb=>by obtain ⟨_,o,ho,_⟩:=I.ok.funs.mem hb;exact absurd (cM (zq5 ho) (bO I.sz h)) (lF _)
theorem Inv.cne(I:Inv X pins σ H s):∀x c,X.env.cells.lookup x=some c->c≠X.env.locals:=fun x c e z=>by obtain ⟨v,o,ho,hd⟩:=I.cell x c e;obtain ⟨m,⟨o',es,ep,ho',hd',_⟩,_⟩:=I.loc;rw [z,ho'] at ho;cases ho;rw [hd'] at hd;cases hd
theorem Inv.funs(I:Inv X pins σ H s):s.heap.FunFrames X.base X.outer:=by
 have all:∀(l:List Env),(∀b∈frs l,b∈X.fs)->X.s₀.heap.FunFrames X.base l->s.heap.FunFrames X.base l:=by
  intro l
  induction l with
  |nil=>intro _ _;trivial
  |cons env r ih=>intro hs hl;obtain ⟨hk,⟨L,o,hf,hn,ho,hd⟩,hr⟩:=hl;have hL:L∈X.fs:=hs L (by unfold frs;rw [ui,hf];exact cC);obtain ⟨sl,e⟩:=I.base.slot L o ho (I.ok.frf L hL) hL fun z=>I.ok.exfs L z hL;exact zC hk (zF L _ hf hn e hd) (ih (fun b hb=>hs b (by unfold frs;rw [ui,hf];exact bz _ hb)) hr)
 exact all X.outer (fun _ hb=>hb) I.ok.funs
theorem Inv.stack(I:Inv X pins σ H s):s.heap.FunFrames X.base X.stack:=by
 rcases I.ok.stk with e | ⟨e,hf⟩
 ·rw [e];exact I.funs
 ·rw [e];obtain ⟨m,hn,_⟩:=I.loc;refine .cons (by rw [I.ok.kind];decide) hf hn ?_ I.funs;exact uj (bO I.ok.bsz I.ok.above)
theorem Inv.stkSub(I:Inv X pins σ H s):∀b∈frs X.stack,b∈X.env.locals::X.fs:=fun b hb=>by
 rcases I.ok.stk with e | ⟨e,hf⟩
 ·rw [e] at hb;exact bz _ hb
 ·rw [e] at hb;unfold frs at hb;rw [ui,hf] at hb;exact hb
theorem Inv.stkFree(I:Inv X pins σ H s):∀b∈frs X.stack,H b=none:=fun b hb=>by
 rcases zq8.mp (I.stkSub b hb) with e | hb
 ·rw [e];exact I.free
 ·obtain ⟨_,o,ho,_⟩:=I.ok.funs.mem hb;exact I.base.free b o ho (I.ok.frf b hb) fun z=>I.ok.exfs b z hb
theorem Inv.step{g':Array GenState}{t':Nat}{d':Drawn}{ch:List Addr}(I:Inv X pins σ H s)
  (hch:∀b∈ch,(b∈X.ex\/X.s₀.heap.objs.size<=b)/\b≠X.env.locals/\(∀x c,X.env.cells.lookup x=some c->c≠b)/\∀p∈X.pn++pins,p.1≠b)
  (keep:∀b o,b≠X.env.locals->b∉X.fs->b∉ch->s.heap.get? b=some o->H b=none->h'.get? b=some o)
  (slot:∀b o,b≠X.env.locals->b∈X.fs->b∉ch->s.heap.get? b=some o->H b=none->∃sl,h'.get? b=some {o with slots:=sl}) (free:∀b o,b∉ch->s.heap.get? b=some o->H b=none->H' b=none)
  (there:∀b o,b∉ch->s.heap.get? b=some o->∃o',h'.get? b=some o')
  (tups:∀b xs,H b=some (.tup xs)->H' b=some (.tup xs)) (frzs:∀b o u,H b=some (.frz o u)->H' b=some (.frz o u)) (tbls:∀b ps,H b=some (.tbl ps)->∃more,H' b=some (.tbl (ps++more)))
  (ns:∀m,s.heap.Ns X.env.locals m->h'.Ns X.env.locals m) (hok:HOk X.prog X.w H' h') (hg:AllBare g') :
  Inv X pins σ H' {s with heap:=h',gens:=g',drawn:=d',toks:=t'}:=by
 have neL:∀b o,X.s₀.heap.get? b=some o->b≠X.env.locals:=fun b o e=>bU (cM (zq5 e) I.ok.above);have neC:∀b o,X.s₀.heap.get? b=some o->b∉X.ex->b∉ch:=fun b o e hx hb=>by
  rcases (hch b hb).1 with z | z
  ·exact hx z
  ·exact absurd (cM (zq5 e) z) (lF _)
 have cellK:∀x c,X.env.cells.lookup x=some c->∀v,s.heap.IsCell c v->h'.IsCell c v:=fun x c e v ⟨o,ho,hd⟩=>by
  have nch:c∉ch:=fun z=>(hch c z).2.2.1 x c e rfl
  by_cases hc:c∈X.fs
  ·obtain ⟨sl,q⟩:=slot c o (I.cne x c e) hc nch ho (I.freeC x c e);exact zA _ q hd
  ·exact zA o (keep c o (I.cne x c e) hc nch ho (I.freeC x c e)) hd
 refine ⟨I.ok,I.os,hg,⟨fun b o e n hb hx=>?_,fun b o e n hb hx=>?_,fun b o e n hx=>?_,fun b o e hx=>?_,fun b xs e=>tups b xs (I.base.tups b xs e),fun b o xs e=>frzs b o xs (I.base.frzs b o xs e),fun b ps e=>?_⟩,?_,fun x c e=>?_,?_,fun x c e=>?_,fun p hp=>?_,hok,I.len⟩
 ·exact keep b o (neL b o e) hb (neC b o e hx) (I.base.keep b o e n hb hx) (I.base.free b o e n hx)
 ·obtain ⟨sl,e1⟩:=I.base.slot b o e n hb hx;obtain ⟨sl',e2⟩:=slot b _ (neL b o e) hb (neC b o e hx) e1 (I.base.free b o e n hx);exact ⟨sl',e2⟩
 ·obtain ⟨o',e1⟩:=I.base.there b o e hx;exact free b o' (neC b o e hx) e1 (I.base.free b o e n hx)
 ·obtain ⟨o',e1⟩:=I.base.there b o e hx;exact there b o' (neC b o e hx) e1
 ·obtain ⟨m1,e1⟩:=I.base.tbls b ps e;obtain ⟨m2,e2⟩:=tbls b _ e1;exact ⟨m1++m2,by rw [e2,Array.append_assoc]⟩
 ·obtain ⟨m,hn,hl⟩:=I.loc;refine zA m (ns m hn) fun i x v e1 e2 e3=>?_;obtain ⟨u,r,l⟩:=hl i x v e1 e2 e3;refine zA u r ?_;rcases l with l | ⟨k,c,e,z⟩
  ·exact .inl l
  ·exact .inr ⟨k,zA c e (cellK x c e _ z)⟩
 ·obtain ⟨v,z⟩:=I.cell x c e;exact ⟨v,cellK x c e v z⟩
 ·obtain ⟨m,⟨o,_,_,ho,_⟩,_⟩:=I.loc;exact free _ o (fun z=>(hch _ z).2.1 rfl) ho I.free
 ·obtain ⟨v,o,ho,hd⟩:=I.cell x c e;exact free c o (fun z=>(hch c z).2.2.1 x c e rfl) ho (I.freeC x c e)
 ·obtain ⟨e,n,ne,nf,d⟩:=I.pin p hp;have nch:p.1∉ch:=fun z=>(hch p.1 z).2.2.2 p hp rfl;exact zH (keep p.1 p.2 ne nf nch e n) (free p.1 p.2 nch e n) ne nf d
theorem Inv.un{t':Nat}(I:Inv X pins σ H s)(u:Un X.fs [] H H' s.heap h')(hok:HOk X.prog X.w H' h'):Inv X pins σ H' {s with heap:=h',toks:=t'}:=by obtain ⟨m,⟨o,es,ep,ho,r⟩,_⟩:=id I.loc;obtain ⟨sl,hL⟩:=u.any ho I.free Jo;exact I.step (g':=s.gens) (d':=s.drawn) (ch:=[]) (fun _ z=>nomatch z) (fun b o _ hb _ e n=>u.keep b o e n hb Jo) (fun b o _ hb _ e n=>u.slot b o e n hb Jo) (fun b o _ e n=>u.free b o e n Jo) (fun b o _ e=>u.there b o e Jo) u.tups u.frzs u.tbls (fun m' hm=>by obtain ⟨o',es',ep',ho',r'⟩:=hm;rw [ho] at ho';cases ho';exact zL _ es' ep' hL r') hok I.bare
theorem Inv.call{g':Array GenState}{t':Nat}{d':Drawn}{ch:List Addr}(I:Inv X pins σ H s)(u:Un (frs X.stack) ch H H' s.heap h')(hok:HOk X.prog X.w H' h')(hg:AllBare g')
  (hch:∀b∈ch,(b∈X.ex\/X.s₀.heap.objs.size<=b)/\b≠X.env.locals/\(∀x c,X.env.cells.lookup x=some c->c≠b)/\∀p∈X.pn++pins,p.1≠b) :
  Inv X pins σ H' {s with heap:=h',gens:=g',drawn:=d',toks:=t'}:=by
 obtain ⟨m,⟨o,es,ep,ho,r⟩,_⟩:=id I.loc;obtain ⟨sl,hL⟩:=u.any ho I.free fun z=>(hch _ z).2.1 rfl;exact I.step (ch:=ch) hch (fun b o hL hb hc e n=>u.keep b o e n (fun z=>(zq8.mp (I.stkSub b z)).elim hL hb) hc) (fun b o _ _ hc e n=>u.any e n hc) (fun b o hc e n=>u.free b o e n hc) (fun b o hc e=>u.there b o e hc) u.tups u.frzs u.tbls (fun m' hm=>by obtain ⟨o',es',ep',ho',r'⟩:=hm;rw [ho] at ho';cases ho';exact zL _ es' ep' hL r') hok hg
theorem Inv.turned{t':Nat}{it:Addr}(I:Inv X pins σ H s)(k:∀b o,b≠it->s.heap.get? b=some o->h'.get? b=some o)(hn:H it=none)(hL:it≠X.env.locals)
  (h1:it∈X.ex\/X.s₀.heap.objs.size<=it) (h2:∀x c,X.env.cells.lookup x=some c->c≠it) (h3:∀p∈X.pn++pins,p.1≠it):Inv X pins σ H {s with heap:=h',toks:=t'}:=by
 have nit:∀b u,H b=some u->b≠it:=fun b u e z=>by rw [z,hn] at e;cases e
 refine I.step (g':=s.gens) (d':=s.drawn) (ch:=[it]) (fun b hb=>?_) (fun b o _ _ hc e _=>k b o (fun z=>hc (by simp [z])) e) (fun b o _ _ hc e _=>⟨o.slots,k b o (fun z=>hc (by simp [z])) e⟩) (fun _ _ _ _ n=>n)
  (fun b o hc e=>⟨o,k b o (fun z=>hc (by simp [z])) e⟩) (fun _ _ e=>e) (fun _ _ _ e=>e) (fun b ps e=>⟨#[],by rw [e];simp⟩) (fun m hm=>?_) (fun b u e=>?_) I.bare
 ·have e:b=it:=by simpa using hb
  subst e;exact zG h1 hL h2 h3
 ·obtain ⟨o,es,ep,ho,r⟩:=hm;exact zL o es ep (k _ o (Ne.symm hL) ho) r
 ·refine (I.hok b u e).stay (fun c v hc q=>k c v ?_ q) (fun _ q=>q) fun _ _ q=>q;rcases hc with z | z
  ·rw [z];exact nit b u e
  ·exact nit c _ z
theorem Inv.tok(I:Inv X pins σ H s)(t:Nat):Inv X pins σ H {s with toks:=t}:=I.un (h':=s.heap) (t':=t) Un.refl I.hok
theorem Inv.kept{t':Nat}(I:Inv X pins σ H s)(k:∀b u,s.heap.get? b=some u->h'.get? b=some u):Inv X pins σ H {s with heap:=h',toks:=t'}:=I.un (Un.kept k) (I.hok.kept k)
theorem Inv.laid{a:Addr}{o:HO}{t':Nat}(I:Inv X pins σ H s)(k:∀b u,s.heap.get? b=some u->h'.get? b=some u)(hp:s.heap.objs.size<=a)(new:ObjOk X.prog X.w (upd H a o) h' a o):
  Inv X pins σ (upd H a o) {s with heap:=h',toks:=t'}:=I.un (Un.laid k hp (I.hok.fresh hp)) (I.hok.laid k hp new)
theorem Inv.write{x e:Addr}{o:HO}{t':Nat}(I:Inv X pins σ H s)(mu:Mut (H x))(he:e=x\/H e=some (.own x))(k:∀b u,b≠e->s.heap.get? b=some u->h'.get? b=some u)(heo:∃u,h'.get? e=some u)
  (new:ObjOk X.prog X.w (upd H x o) h' x o):Inv X pins σ (upd H x o) {s with heap:=h',toks:=t'}:=I.un (Un.write mu he k heo) (I.hok.write mu he k heo new)
theorem Inv.pins_of{pins':List (Addr×Obj)}(I:Inv X pins σ H s)(h:∀p∈pins',s.heap.get? p.1=some p.2/\H p.1=none/\p.1≠X.env.locals/\p.1∉X.fs/\∀v,p.2.data≠.cell v):Inv X pins' σ H s:=
 ⟨I.ok,I.os,I.bare,I.base,I.loc,I.cell,I.free,I.freeC,fun p hp=>(zq23.mp hp).elim (fun z=>I.pin p (qx _ z)) (h p),I.hok,I.len⟩
theorem eO{N:List Str}(hN:N.Nodup){i j:Nat}{x:Str}(a:N[i]?=some x)(b:N[j]?=some x):i=j:=by obtain ⟨h1,e1⟩:=zq25.mp a;obtain ⟨h2,e2⟩:=zq25.mp b;exact (List.getElem_inj hN).mp (e1.trans e2.symm)
theorem lr{M:Model}{A:Around}{E:Value->Shared->Prop}{i:Nat}{x:Str}{v:V}{u:Value}{Q:Unit->Shared->Prop}(I:Inv X pins σ H s)(hN:X.N.Nodup)(hi:X.N[i]?=some x)(hx:Loc X.env.scope x)(r:RelV v u)
  (h:∀s',Inv X pins (σ.set i (some v)) H s'->(∃a,Heap.SameBut a s.heap s'.heap/\(a=X.env.locals\/X.env.cells.lookup x=some a))->Q () s') (hf:X.fn x=true\/X.env.scope.names.lookup x=some .local:=by first | exact .inl rfl | exact .inr rfl | assumption):wpAny M A (storeName X.env x u) Q E s:=by
 obtain ⟨m,hn,hl⟩:=id I.loc;have hcls:(X.env.scope.kind==.class || (X.env.scope.kind==.module&&X.env.locals != X.env.globals))=false:=by rw [I.ok.kind];rfl
 have hiσ:i<σ.length:=by rw [I.len];exact (zq25.mp hi).1
 have cne:=I.cne;have tracked:∀{a:Addr} {h':Heap},(∃o,s.heap.get? a=some o/\H a=none)->Heap.SameBut a s.heap h'->HOk X.prog X.w H h':=fun {a h'} ha hs b ob e=>by
  obtain ⟨_,_,hfree⟩:=ha;refine (I.hok b ob e).stay (fun c w' hc q=>(hs.2 c ?_).trans q) (fun _ q=>q) fun _ _ q=>q;rintro rfl;rcases hc with rfl | hc
  ·rw [hfree] at e;cases e
  ·rw [hfree] at hc;cases hc
 rcases hx with hk | hk
 ·refine wpAny_storeName_local hk hn (fun h' hn' hs=>?_) hcls;obtain ⟨oL,_,_,hoL,_⟩:=id hn;refine h _ ⟨I.ok,I.os,I.bare,⟨fun b o e n hb hx=>?_,fun b o e n hb hx=>?_,I.base.free,fun b o e hx=>?_,I.base.tups,I.base.frzs,I.base.tbls⟩,zA _ hn' fun j y v' e1 e2 e3=>?_,fun y c e=>?_,I.free,I.freeC,fun p hp=>?_,tracked (zA oL hoL I.free) hs,by simpa using I.len⟩ (zA _ hs (.inl rfl))
  ·exact (hs.2 b (bU (cM (zq5 e) I.ok.above))).trans (I.base.keep b o e n hb hx)
  ·obtain ⟨sl,e1⟩:=I.base.slot b o e n hb hx;exact ⟨sl,(hs.2 b (bU (cM (zq5 e) I.ok.above))).trans e1⟩
  ·obtain ⟨o',e1⟩:=I.base.there b o e hx;exact ⟨o',(hs.2 b (bU (cM (zq5 e) I.ok.above))).trans e1⟩
  ·by_cases hj:j=i
   ·subst hj;rw [hi] at e1;cases e1;rw [lG hiσ] at e2
    cases e2
    exact zA u r (.inl ⟨hk,Jo⟩)
   ·rw [lH (Ne.symm hj)] at e2;obtain ⟨u',r',q⟩:=hl j y v' e1 e2 e3;refine zA u' r' ?_;rcases q with ⟨k,e⟩ | ⟨k,c,e,z⟩
    ·refine .inl ⟨k,?_⟩;have:y≠x:=fun e=>hj (eO hN e1 (e ▸ hi));simp [this,e]
    ·exact .inr ⟨k,zA c e (z.sameBut hs (cne y c e))⟩
  ·obtain ⟨w',z⟩:=I.cell y c e;exact ⟨w',z.sameBut hs (cne y c e)⟩
  ·obtain ⟨e,n,ne,nf,d⟩:=I.pin p hp;exact zH ((hs.2 p.1 ne).trans e) n ne nf d
 ·have hfn:X.fn x=true:=by
   rcases hf with z | z
   ·exact z
   ·rw [z] at hk;cases hk
  obtain ⟨c,hc⟩:=I.ok.has x (.inl hk);obtain ⟨w',z⟩:=I.cell x c hc;refine wpAny_storeName_cell I.ok.kind hk hc z (fun h' hc' hs=>?_);obtain ⟨oc,hoc,hocd⟩:=id z;refine h {s with heap:=h'} ⟨I.ok,I.os,I.bare,⟨fun b o e n hb hx=>?_,fun b o e n hb hx=>?_,I.base.free,fun b o e hx=>?_,I.base.tups,I.base.frzs,I.base.tbls⟩,zA m (hn.sameBut hs (Ne.symm (cne x c hc))) fun j y v' e1 e2 e3=>?_,fun y c' e=>?_,I.free,I.freeC,fun p hp=>?_,tracked (zA oc hoc (I.freeC x c hc)) hs,by simpa using I.len⟩ (zA c hs (.inr hc))
  ·exact (hs.2 b (bU (cM (zq5 e) (I.ok.cab x c hfn hc)))).trans (I.base.keep b o e n hb hx)
  ·obtain ⟨sl,e1⟩:=I.base.slot b o e n hb hx;exact ⟨sl,(hs.2 b (bU (cM (zq5 e) (I.ok.cab x c hfn hc)))).trans e1⟩
  ·obtain ⟨o',e1⟩:=I.base.there b o e hx;exact ⟨o',(hs.2 b (bU (cM (zq5 e) (I.ok.cab x c hfn hc)))).trans e1⟩
  ·by_cases hj:j=i
   ·subst hj;rw [hi] at e1;cases e1;rw [lG hiσ] at e2
    cases e2
    exact zA u r (.inr ⟨.inl hk,zA c hc hc'⟩)
   ·rw [lH (Ne.symm hj)] at e2;obtain ⟨u',r',q⟩:=hl j y v' e1 e2 e3;refine zA u' r' ?_;rcases q with q | ⟨k,c',e,z'⟩
    ·exact .inl q
    ·refine .inr ⟨k,zA c' e (z'.sameBut hs ?_)⟩;rintro rfl;exact hj (eO hN e1 (I.ok.inj _ _ _ e hc ▸ hi))
  ·by_cases hcc:c'=c
   ·subst hcc;exact ⟨_,hc'⟩
   ·obtain ⟨w2,z2⟩:=I.cell y c' e;exact ⟨w2,z2.sameBut hs hcc⟩
  ·obtain ⟨e,n,ne,nf,d⟩:=I.pin p hp;refine zH ((hs.2 p.1 ?_).trans e) n ne nf d;intro q;rw [q,hoc] at e;have q':oc=p.2:=Option.some.inj e;exact d w' (by rw [<- q'];exact hocd)
theorem cz{M:Model}{A:Around}{E:Value->Shared->Prop}{i:Nat}{x:Str}{v:V}{u:Value}{Q:Unit->Shared->Prop}(I:Inv X pins σ H s)(hN:X.N.Nodup)(hi:X.N[i]?=some x)(hx:Loc X.env.scope x)(r:RelV v u)
  (h:∀s',Inv X pins (σ.set i (some v)) H s'->Q () s') (hf:X.fn x=true\/X.env.scope.names.lookup x=some .local:=by first | exact .inl rfl | exact .inr rfl | assumption):wpAny M A (storeName X.env x u) Q E s:=
 lr I hN hi hx r (fun s' I' _=>h s' I') hf
theorem Inv.call'{s':Shared}{ch:List Addr}(I:Inv X pins σ H s)(ho:s'.os=s.os)(u:Un (frs X.stack) ch H H' s.heap s'.heap)(hok:HOk X.prog X.w H' s'.heap)(hg:AllBare s'.gens)
  (hch:∀b∈ch,(b∈X.ex\/X.s₀.heap.objs.size<=b)/\b≠X.env.locals/\(∀x c,X.env.cells.lookup x=some c->c≠b)/\∀p∈X.pn++pins,p.1≠b):Inv X pins σ H' s':=by
 obtain ⟨h',g',d',t',o'⟩:=s';have e:o'=s.os:=ho;subst e;exact I.call (g':=g') (t':=t') (d':=d') u hok hg hch
end
abbrev XK:=Value->Option Addr->Hp->Prop
abbrev St:=List (Option V)
abbrev VK:=V->Hp->Prop
abbrev TE:=St->Hp->VK->Prop
abbrev TT:=St->Hp->(Bool->Hp->Prop)->Prop
abbrev TA:=St->Hp->(List V->Hp->Prop)->Prop
structure bK where
 nx:St->Hp->Prop
 rt:VK
 bk:St->Hp->Prop:=fun _ _=>False
 ct:St->Hp->Prop:=fun _ _=>False
abbrev TS:=bK->St->Hp->Prop
def EP(X:Cx)(pins:List (Addr×Obj))(σ:St)(Q:VK)(u:Value)(s':Shared):Prop:=∃v H',Inv X pins σ H' s'/\RelV v u/\Q v H'
def TP(X:Cx)(pins:List (Addr×Obj))(σ:St)(Q:Bool->Hp->Prop)(b:Bool)(s':Shared):Prop:=∃H',Inv X pins σ H' s'/\Q b H'
def AP(X:Cx)(pins:List (Addr×Obj))(σ:St)(Q:List V->Hp->Prop)(us:List Value)(s':Shared):Prop:=∃vs H',Inv X pins σ H' s'/\Vals vs us/\Q vs H'
def SP(X:Cx)(pins:List (Addr×Obj))(D:bK)(f:Flow)(s':Shared):Prop:=
 match f with
 | .next=>∃σ' H',Inv X pins σ' H' s'/\D.nx σ' H'
 | .brk=>∃σ' H',Inv X pins σ' H' s'/\D.bk σ' H'
 | .cont=>∃σ' H',Inv X pins σ' H' s'/\D.ct σ' H'
 | .ret u=>∃v σ' H',Inv X pins σ' H' s'/\RelV v u/\D.rt v H'
def PE(X:Cx)(e:Expr)(t:TE):Prop:=
 ∀(pins:List (Addr×Obj)) (s:Shared) (σ:St) (H:Hp) (Q:VK),Inv X pins σ H s->t σ H Q->wpAny (model X.prog X.w) X.A (eval e X.env) (EP X pins σ Q) X.xe s
def PT(X:Cx)(e:Expr)(t:TT):Prop:=
 ∀(pins:List (Addr×Obj)) (s:Shared) (σ:St) (H:Hp) (Q:Bool->Hp->Prop),Inv X pins σ H s->t σ H Q->wpAny (model X.prog X.w) X.A (isTrue e X.env (eval e X.env)) (TP X pins σ Q) X.xe s
def PW(X:Cx)(e:Expr)(t:TT):Prop:=
 ∀(whole:Sem Value)(pins:List (Addr×Obj)) (s:Shared) (σ:St) (H:Hp) (Q:Bool->Hp->Prop),Inv X pins σ H s->t σ H Q->wpAny (model X.prog X.w) X.A (isTrue e X.env whole) (TP X pins σ Q) X.xe s
theorem PW.pt{X:Cx}{e:Expr}{t:TT}(h:PW X e t):PT X e t:=h _
def PA(X:Cx)(es:List Expr)(t:TA):Prop:=
 ∀(pos:Pos)(pins:List (Addr×Obj)) (s:Shared) (σ:St) (H:Hp) (Q:List V->Hp->Prop),Inv X pins σ H s->t σ H Q->wpAny (model X.prog X.w) X.A (spliced (backTo pos (starEach es X.env))) (AP X pins σ Q) X.xe s
def PS(X:Cx)(st:Stmt)(t:TS):Prop:=
 ∀(pins:List (Addr×Obj)) (s:Shared) (σ:St) (H:Hp) (D:bK),Inv X pins σ H s->t D σ H->wpAny (model X.prog X.w) X.A (exec st X.env) (SP X pins D) X.xe s
def PSs(X:Cx)(st:List Stmt)(t:TS):Prop:=
 ∀(pins:List (Addr×Obj)) (s:Shared) (σ:St) (H:Hp) (D:bK),Inv X pins σ H s->t D σ H->wpAny (model X.prog X.w) X.A (execs st X.env) (SP X pins D) X.xe s
theorem thn{α:Type}{t:Sem α}{Q Q':α->Shared->Prop}{M:Model}{A:Around}{E:Value->Shared->Prop}{s:Shared}(h:wpAny M A t Q E s)(hQ:∀a s,Q a s->Q' a s):wpAny M A t Q' E s:=cD h hQ fun _ _ x=>x
end L2
namespace L2
variable {u:Value} {x:Str}
section
variable {X:Cx}
theorem bin{a b:Expr}{ta tb:TE}(ha:PE X a ta)(hb:PE X b tb){pins:List (Addr×Obj)}{s:Shared}{σ:St}{H:Hp}{R:V->V->Hp->Prop}(I:Inv X pins σ H s)(h:ta σ H fun x H1=>tb σ H1 fun y H2=>R x y H2)
  {α:Type} {Q:α->Shared->Prop} {f:Value->Value->Sem α}
  (hf:∀v u s2 x y H2,Inv X pins σ H2 s2->RelV x v->RelV y u->R x y H2->wpAny (model X.prog X.w) X.A (f v u) Q X.xe s2) :
  wpAny (model X.prog X.w) X.A (eval a X.env) (fun v s₁=>wpAny (model X.prog X.w) X.A (eval b X.env) (fun u s₂=>wpAny (model X.prog X.w) X.A (f v u) Q X.xe s₂) X.xe s₁) X.xe s:=by
 refine thn (ha pins s σ H _ I h) fun v s1 hhx=>?_;obtain ⟨x,H1,I1,r1,q1⟩:=hhx;refine thn (hb pins s1 σ H1 _ I1 q1) fun u s2 hhx=>?_;obtain ⟨y,H2,I2,r2,q2⟩:=hhx;exact hf v u s2 x y H2 I2 r1 r2 q2
def tZ(i:Nat):TE:=fun σ H Q=>∃v,σ[i]?=some (some v)/\Q v H
def tC(v:V):TE:=fun _ H Q=>Q v H
theorem sM{i:Nat}{pos:Pos}(hN:X.N[i]?=some x)(hv:Vis X.env.scope x)(hd:(x==("__debug__":Str))=false:=by decide) (hcd:(x==("__classdict__":Str))=false:=by decide):PE X (.Name x pos) (tZ i):=by
 intro pins s σ H Q I h;obtain ⟨v,e,h⟩:=h;obtain ⟨m,hn,hl⟩:=I.loc;obtain ⟨u,r,l⟩:=hl i x v hN e hv;have fin:EP X pins σ Q u s:=zB v H I r h
 rcases l with ⟨hk,hm⟩ | ⟨hk,c,hc,hcell⟩
 ·exact wpAny_Name (wpAny_loadName_local I.ok.kind hk hn hm fin) hd
 ·rcases hk with hk | hk
  ·exact wpAny_Name (wpAny_loadName_cell I.ok.kind hk hc hcell fin) hd
  ·exact wpAny_Name (wpAny_loadName_free I.ok.kind hk hc hcell fin hcd) hd
theorem n9{i j pos}:PE X (.Constant (.int i) j pos) (tC (.int i)):=fun _ _ _ H _ I h=>wpAny_Constant_int (zB (.int i) H (I.tok _) ⟨_,rfl⟩ h)
theorem uU{b j pos}:PE X (.Constant (.bool b) j pos) (tC (.bl b)):=fun _ _ _ H _ I h=>Constant_bool (zB (.bl b) H I rfl h)
theorem ng{j pos}:PE X (.Constant .none j pos) (tC .non):=fun _ _ _ H _ I h=>Constant_none (zB .non H I rfl h)
theorem nh{x j pos}:PE X (.Constant (.str x) j pos) (tC (.str x)):=fun _ _ _ H _ I h=>Calls.Constant_str (zB (.str x) H (I.tok _) ⟨_,rfl⟩ h)
def Gl(X:Cx)(x:Str):Prop:=X.env.kindOf x=some .globalImplicit
theorem d7{E:Value->Shared->Prop}{pins:List (Addr×Obj)}{s:Shared}{σ:St}{H:Hp}{pos:Pos}{Q:Value->Shared->Prop}(I:Inv X pins σ H s)(hg:Gl X x)(hm:X.mg x=some u)(h:Q u s)
 (hd:(x==("__debug__":Str))=false:=by decide):wpAny (model X.prog X.w) X.A (eval (.Name x pos) X.env) Q E s:=
 Calls.Name_function_global I.ok.kind hg (Calls.loadGlobal_global (by rw [I.ok.glob];exact I.mod.glob.keeps I.bk) hm h) hd
theorem cX{E:Value->Shared->Prop}{pins:List (Addr×Obj)}{s:Shared}{σ:St}{H:Hp}{pos:Pos}{Q:Value->Shared->Prop}(I:Inv X pins σ H s)(hg:Gl X x)(hm:X.mg x=none)(hv:bootBuiltins x=some u)(h:Q u s)
 (hn:x≠"__name__":=by decide) (hd:(x==("__debug__":Str))=false:=by decide):wpAny (model X.prog X.w) X.A (eval (.Name x pos) X.env) Q E s:=by
 obtain ⟨mb,h1,h2⟩:=I.mod.blt;exact Calls.Name_function_global I.ok.kind hg (Calls.loadGlobal_builtin (by rw [I.ok.glob];exact I.mod.glob.keeps I.bk) hm (by rw [I.ok.blt];exact h1.keeps I.bk) ((h2 x hn).trans hv) h) hd
theorem pH{v:V}{pos:Pos}(hg:Gl X x)(hm:X.mg x=some u)(r:RelV v u)(hd:(x==("__debug__":Str))=false:=by decide):PE X (.Name x pos) (tC v):=
 fun _ _ _ H _ I h=>d7 I hg hm (zB v H I r h) hd
theorem pF{v:V}{pos:Pos}(hg:Gl X x)(hm:X.mg x=none)(hv:bootBuiltins x=some u)(r:RelV v u)(hn:x≠"__name__":=by decide) (hd:(x==("__debug__":Str))=false:=by decide):PE X (.Name x pos) (tC v):=
 fun _ _ _ H _ I h=>cX I hg hm hv (zB v H I r h) hn hd
variable {a b:Expr} {ta tb:TE} {pos:Pos}
def PC(X:Cx)(op:CmpOp)(a b:Expr)(t:TE):Prop:=
 ∀(pins:List (Addr×Obj)) (s:Shared) (σ:St) (H:Hp) (Q:VK),Inv X pins σ H s->t σ H Q->
  wpAny (model X.prog X.w) X.A (eval a X.env) (fun v s₁=>wpAny (model X.prog X.w) X.A (eval b X.env) (fun u s₂=>wpAny (model X.prog X.w) X.A (compareOp op v u) (EP X pins σ Q) X.xe s₂) X.xe s₁) X.xe s
theorem mJ(b:Expr){op:CmpOp}(h:op≠.In)(h2:op≠.NotIn):behindInMarks op b=false:=by
 have e1:(op==CmpOp.In)=false:=by cases op<;>first | rfl | exact absurd rfl h
 have e2:(op==CmpOp.NotIn)=false:=by cases op<;>first | rfl | exact absurd rfl h2
 cases b<;>simp [behindInMarks,e1,e2]
def tB(t:TE):TT:=fun σ H Q=>t σ H fun x H1=>∃c,x=.bl c/\Q c H1
theorem ww{op:CmpOp}{t:TE}(h:PC X op a b t)(h1:behindInMarks op b=false:=by first | exact mJ _ Jm Jm | rfl):PT X (.Compare a [op] [b] pos) (tB t):=by
 intro pins s σ H Q I hw;refine wpAny_isTrue_Compare1 (thn (h pins s σ H _ I hw) fun v s1 h1=>thn h1 fun u s2 h2=>thn h2 fun c s3 hhx=>?_) h1;obtain ⟨x,H1,I1,r1,q1⟩:=hhx;obtain ⟨d,rfl,q⟩:=q1
 cases r1
 exact wpAny_truthy_bool (zA H1 I1 q)
variable {tA tB':TT} {d9:List Expr}
def tOr(t u:TT):TT:=fun σ H Q=>t σ H fun c H1=>if c=true then Q true H1 else u σ H1 Q
def w9(t:TT):TT:=fun σ H Q=>t σ H fun c H1=>Q (! c) H1
def tIf(t:TT)(ta tb:TE):TE:=fun σ H Q=>t σ H fun c H1=>if c=true then ta σ H1 Q else tb σ H1 Q
end
end L2
namespace L2
def SqL(K:W.Frag)(H:Hp)(a:Addr)(xs:List V):Prop:=
 Rd H a (.lst xs)\/
  ∃(o:Obj)(its:Array Value)(n:Nat),K.lookup a=some o/\o.cls=.type "list"/\o.dict=none/\o.data=.seq its n/\its.size<=sizeLine/\Vals xs its.toList
def SqT(K:W.Frag)(H:Hp)(a:Addr)(xs:List V):Prop:=
 Rd H a (.tup xs)\/
  ∃(o:Obj)(its:Array Value)(n:Nat),K.lookup a=some o/\o.cls=.type "tuple"/\o.data=.seq its n/\its.size<=sizeLine/\Vals xs its.toList
def wn:Value->Option V
 | .none=>some .non
 | .bool b=>some (.bl b)
 | .int i _=>some (.int i)
 | .str x _=>some (.str x)
 | .bytes b _=>some (.byt b)
 | .float b _=>some (.flt b)
 | .ref a=>some (.ref a)
 | .type n=>some (.ty n)
 |_=>none
theorem RelV.abs{x:V}{u:Value}(r:RelV x u):wn u=some x:=by
 cases x with
 |non=>cases r;rfl
 |bl _=>cases r;rfl
 |int _=>obtain ⟨t,rfl⟩:=r;rfl
 |str _=>obtain ⟨t,rfl⟩:=r;rfl
 |byt _=>obtain ⟨t,rfl⟩:=r;rfl
 |flt _=>obtain ⟨t,rfl⟩:=r;rfl
 |ref _=>cases r;rfl
 |ty _=>cases r;rfl
theorem RelV.inj{x y:V}{u:Value}(r:RelV x u)(q:RelV y u):x=y:=Option.some.inj (r.abs.symm.trans q.abs)
theorem Vals.inj:∀{xs ys:List V} {us:List Value},Vals xs us->Vals ys us->xs=ys
 |_,_,_,.nil,.nil=>rfl
 |_,_,_,.cons r t,.cons r' t'=>by rw [r.inj r',Vals.inj t t']
section
variable {X:Cx} {pins:List (Addr×Obj)} {σ:St} {H:Hp} {s:Shared} {a:Addr} {xs ys:List V}
theorem SqL.of{K:W.Frag}(h:H a=some (.lst xs)):SqL K H a xs:=.inl (.inl h)
theorem SqT.of{K:W.Frag}(h:H a=some (.tup xs)):SqT K H a xs:=.inl (.inl h)
theorem Inv.list(I:Inv X pins σ H s)(h:SqL X.K H a xs):∃its:List Value,Vals xs its/\PlainL s.heap a its.toArray/\xs.length<=sizeLine:=by
 rcases h with h | ⟨o,its,n,hk,hc,hd,hs,hz,r⟩
 ·obtain ⟨z,its,n,r,e⟩:=h.ok I.hok;exact zD its r (zF _ n e rfl rfl rfl) z
 ·refine zD its.toList r (zF o n (I.kIn a o hk) hc hd (by simpa using hs)) ?_;have e:=r.length;simp only [Array.length_toList] at e;omega
theorem Inv.tuple(I:Inv X pins σ H s)(h:SqT X.K H a xs):∃its:List Value,Vals xs its/\IsTup s.heap a its.toArray/\xs.length<=sizeLine:=by
 rcases h with h | ⟨o,its,n,hk,hc,hs,hz,r⟩
 ·obtain ⟨z,its,r,p⟩:=h.ok I.hok;exact zD its r p z
 ·refine zD its.toList r (zD o (I.kIn a o hk) hc ⟨n,by simpa using hs⟩) ?_;have e:=r.length;simp only [Array.length_toList] at e;omega
theorem Inv.list_inj(I:Inv X pins σ H s)(h:SqL X.K H a xs)(h':SqL X.K H a ys):xs=ys:=by
 obtain ⟨its,r,⟨o,n,e,_,_,d⟩,_⟩:=I.list h;obtain ⟨its',r',⟨o',n',e',_,_,d'⟩,_⟩:=I.list h';rw [e] at e';cases e';rw [d] at d';injection d' with d1 _;have:its=its':=by simpa using congrArg Array.toList d1
 subst this;exact r.inj r'
theorem Inv.tuple_inj(I:Inv X pins σ H s)(h:SqT X.K H a xs)(h':SqT X.K H a ys):xs=ys:=by
 obtain ⟨its,r,⟨o,e,_,n,d⟩,_⟩:=I.tuple h;obtain ⟨its',r',⟨o',e',_,n',d'⟩,_⟩:=I.tuple h';rw [e] at e';cases e';rw [d] at d';injection d' with d1 _;have:its=its':=by simpa using congrArg Array.toList d1
 subst this;exact r.inj r'
end
abbrev Cx.wish (X:Cx) (E:Value->Shared->Prop):Cx:={X with xe:=E}
abbrev Cx.nox (X:Cx):Cx:=X.wish fun _ _=>False
theorem Cx.Ok.wish{X:Cx}(ok:X.Ok)(E:Value->Shared->Prop):(X.wish E).Ok:=
 ⟨ok.mod,ok.kind,ok.glob,ok.blt,ok.above,ok.inj,ok.has,ok.cab,ok.hd,ok.frames,ok.stk,ok.exf,ok.bs,ok.bsz,ok.noex,ok.exfs,ok.funs,ok.frf⟩
theorem Cx.Ok.unwish{X:Cx}{E:Value->Shared->Prop}(ok:(X.wish E).Ok):X.Ok:=
 ⟨ok.mod,ok.kind,ok.glob,ok.blt,ok.above,ok.inj,ok.has,ok.cab,ok.hd,ok.frames,ok.stk,ok.exf,ok.bs,ok.bsz,ok.noex,ok.exfs,ok.funs,ok.frf⟩
section
variable {X:Cx} {pins:List (Addr×Obj)} {σ:St} {H:Hp} {s:Shared} {E:Value->Shared->Prop}
theorem Inv.wish(I:Inv X pins σ H s)(E:Value->Shared->Prop):Inv (X.wish E) pins σ H s:=⟨I.ok.wish E,I.os,I.bare,I.base,I.loc,I.cell,I.free,I.freeC,I.pin,I.hok,I.len⟩
theorem Inv.unwish(I:Inv (X.wish E) pins σ H s):Inv X pins σ H s:=⟨I.ok.unwish,I.os,I.bare,I.base,I.loc,I.cell,I.free,I.freeC,I.pin,I.hok,I.len⟩
theorem SP.unwish{D:bK}{f:Flow}{s':Shared}(h:SP (X.wish E) pins D f s'):SP X pins D f s':=by
 cases f with
 |next=>obtain ⟨σ',H',I,q⟩:=h;exact zE σ' H' I.unwish q
 |brk=>obtain ⟨σ',H',I,q⟩:=h;exact zE σ' H' I.unwish q
 |cont=>obtain ⟨σ',H',I,q⟩:=h;exact zE σ' H' I.unwish q
 |ret u=>obtain ⟨v,σ',H',I,r,q⟩:=h;exact zV v σ' H' I.unwish r q
theorem PSs.nox{st:List Stmt}{t:TS}(h:PSs X.nox st t):PSs X st t:=fun pins s σ H D I hw=>cD (h pins s σ H D (I.wish _) hw) (fun _ _ q=>q.unwish) fun _ _ z=>False.elim z
end
section
variable {X:Cx} {st:Stmt} {d9:List Stmt} {t u:TS} {e:Expr} {te:TE} {pos:Pos}
def rA:TS:=fun D σ H=>D.nx σ H
def tX(t u:TS):TS:=fun D σ H=>t {D with nx:=u D} σ H
theorem Inv.quiet{pins:List (Addr×Obj)}{σ:St}{H:Hp}{s:Shared}(I:Inv X pins σ H s):interactive X.env=false:=by simp [interactive,I.ok.kind]
def rq(te:TE):TS:=fun D σ H=>te σ H fun _ H1=>D.nx σ H1
def wc(te:TE):TS:=fun D σ H=>te σ H D.rt
def w5(c:TT)(t u:TS):TS:=fun D σ H=>c σ H fun b H1=>if b=true then t D σ H1 else u D σ H1
end
abbrev TG:=V->St->Hp->(St->Hp->Prop)->Prop
def PG(X:Cx)(target:Expr)(t:TG):Prop:=
 ∀(pins:List (Addr×Obj)) (s:Shared) (σ:St) (H:Hp) (v:V) (u:Value) (Q:St->Hp->Prop),Inv X pins σ H s->RelV v u->t v σ H Q->
  wpAny (model X.prog X.w) X.A (assign target X.env u) (fun _ s'=>∃σ' H',Inv X pins σ' H' s'/\Q σ' H') X.xe s
section
variable {X:Cx} {pos:Pos}
def bc(i:Nat):TG:=fun v σ H Q=>Q (σ.set i (some v)) H
theorem jQ{i:Nat}{x:Str}(hN:X.N.Nodup)(hi:X.N[i]?=some x)(hx:Loc X.env.scope x)(hf:X.fn x=true\/X.env.scope.names.lookup x=some .local:=by first | exact .inl rfl | exact .inr rfl | assumption):PG X (.Name x pos) (bc i):=by intro pins s σ H v u Q I r h;exact wpAny_assign_Name (cz I hN hi hx r (fun s' I'=>zE _ H I' h) hf)
def tU(te:TE)(g:TG):TS:=fun D σ H=>te σ H fun x H1=>g x σ H1 D.nx
theorem sP{i:Nat}{x:Str}{e:Expr}{te:TE}{pos':Pos}(hN:X.N.Nodup)(hi:X.N[i]?=some x)(hx:Loc X.env.scope x)(he:PE X e te)(hs:swapsWith e (some (.Name x pos')) pos.line X.env=pure false:=by rfl)(hf:X.fn x=true\/X.env.scope.names.lookup x=some .local:=by first | exact .inl rfl | exact .inr rfl | assumption):
  PS X (.Assign [.Name x pos'] e pos) (tU te (bc i)):=by
 intro pins s σ H D I h;refine wpAny_Assign_Name (thn (he pins s σ H _ I h) fun v s1 hhx=>?_) hs;obtain ⟨y,H1,I1,r1,q1⟩:=hhx;exact cz I1 hN hi hx r1 (fun s2 I2=>zE _ H1 I2 q1) hf
end
section
variable {X:Cx} {pos:Pos}
end
structure It where
 go:Nat->Hp->Prop
 yld:Nat->Hp->V->Hp->Prop
 stop:Nat->Hp->Prop
def gf(X:Cx)(pins:List (Addr×Obj))(H:Hp)(b:Addr):Prop:=
 H b=none/\b≠X.env.locals/\b∉X.fs/\(b∈X.ex\/X.s₀.heap.objs.size<=b)/\(∀x c,X.env.cells.lookup x=some c->c≠b)/\∀p∈X.pn++pins,p.1≠b
theorem Inv.fpOk{X:Cx}{pins:List (Addr×Obj)}{σ:St}{H H':Hp}{s:Shared}{b:Addr}(I:Inv X pins σ H s)(hb:s.heap.objs.size<=b)(hn:H' b=none):gf X pins H' b:=by
 refine zI hn (lI (cM I.lt hb)) (I.nofs hb) (.inr (bO I.sz hb)) (fun x c e z=>?_) fun p hp z=>?_
 ·obtain ⟨v,q⟩:=I.cell x c e;exact absurd (cM q.lt (by rw [z];exact hb)) (lF _)
 ·exact absurd (cM (zq5 (I.pin p hp).1) (by rw [z];exact hb)) (lF _)
structure lS(P:Program)(w:World)(K:W.Frag)(tg:Expr)(J:It)(fp:List Addr)(it:Addr)(tn:Nat->Heap->Prop):Prop where
 mem:it∈fp
 obj:∀i h,tn i h->∀b∈fp,∃o,h.get? b=some o/\∀v,o.data≠.cell v
 keep:∀i h h',tn i h->(∀b∈fp,∀o,h.get? b=some o->h'.get? b=some o)->tn i h'
 item:∀(X:Cx),X.prog=P->X.w=w->X.K=K->X.calm=true->∀(i:Nat)(pins:List (Addr×Obj)) (s:Shared) (σ:St) (H:Hp) (E:Value->Shared->Prop),Inv X pins σ H s->(∀b∈fp,gf X pins H b)->tn i s.heap->J.go i H->
  wpAny (model P w) X.A (pyNext (.ref it)) (fun r s1=>∃u,r=some u/\
   wpAny (model P w) X.A (letOwnedTupleGo tg (.ref it) u) (fun _ s2=>∃x H',Inv X pins σ H' s2/\RelV x u/\J.yld i H x H'/\tn (i+1) s2.heap/\∀b∈fp,H' b=none) E s1) E s
 done:∀(X:Cx),X.prog=P->X.w=w->X.K=K->X.calm=true->∀(i:Nat)(pins:List (Addr×Obj)) (s:Shared) (σ:St) (H:Hp) (E:Value->Shared->Prop),Inv X pins σ H s->(∀b∈fp,gf X pins H b)->tn i s.heap->J.stop i H->
  wpAny (model P w) X.A (pyNext (.ref it)) (fun r s1=>r=none/\Inv X pins σ H s1) E s
 self:∀(A:Around)(i:Nat)(s:Shared)(Q:Value->Shared->Prop)(E:Value->Shared->Prop),tn i s.heap->Q (.ref it) s->wpAny (model P w) A (pyIter (.ref it)) Q E s
abbrev TI:=St->Hp->(It->Hp->Prop)->Prop
variable {P:Program} {tg:Expr}
def PIE(X:Cx)(pins:List (Addr×Obj))(σ:St)(tg:Expr)(R:It->Hp->Prop)(itv:Value)(s2:Shared):Prop:=
 ∃(it:Addr)(fp:List Addr)(tn:Nat->Heap->Prop)(J:It)(H':Hp),itv=.ref it/\Inv X pins σ H' s2/\lS X.prog X.w X.K tg J fp it tn/\tn 0 s2.heap/\(∀b∈fp,gf X pins H' b)/\R J H'
def PI(X:Cx)(tg iter:Expr)(wi:TI):Prop:=
 ∀(pins:List (Addr×Obj)) (s:Shared) (σ:St) (H:Hp) (R:It->Hp->Prop),Inv X pins σ H s->wi σ H R->
  wpAny (model X.prog X.w) X.A (eval iter X.env) (fun v s1=>wpAny (model X.prog X.w) X.A (pyIter v) (PIE X pins σ tg R) X.xe s1) X.xe s
theorem mw{M:Model}{A:Around}{E:Value->Shared->Prop}{s:Shared}{it:Addr}{u:Value}{o:Obj}{n:String}{vs:Array Value}{Q:Unit->Shared->Prop}(ho:s.heap.get? it=some o)(hc:o.cls=.type n)(hd:o.data=.fields vs)
 (hn:["enumerate","zip","dict_itemiterator","dict_reverseitemiterator","odict_iterator","itertools.zip_longest","itertools.pairwise"].contains n=false) (hQ:Q () s):wpAny M A (letOwnedTupleGo tg (.ref it) u) Q E s:=by
  unfold letOwnedTupleGo
  cases tg<;>first
    |exact zq3 hQ
    | (cases u<;>first
        |exact zq3 hQ
        | (refine zq0 (wpAny_load ho ?_)
           rw [hc,hd];show wpAny M A (if (["enumerate","zip","dict_itemiterator","dict_reverseitemiterator","odict_iterator","itertools.zip_longest","itertools.pairwise"].contains n&&vs[0]?==some (rawInt _))=true then _ else _) Q E s;rw [zq1 (by intro h;rw [hn,uk] at h;cases h)];exact zq3 hQ))
def Itl(K:W.Frag)(a:Addr):It:=
 ⟨fun i H=>∃xs x,SqL K H a xs/\xs[i]?=some x,fun i H x H'=>H'=H/\∀xs,SqL K H a xs->xs[i]?=some x,fun i H=>∃xs,SqL K H a xs/\xs.length<=i⟩
def Itt(K:W.Frag)(a:Addr):It:=
 ⟨fun i H=>∃xs x,SqT K H a xs/\xs[i]?=some x,fun i H x H'=>H'=H/\∀xs,SqT K H a xs->xs[i]?=some x,fun i H=>∃xs,SqT K H a xs/\xs.length<=i⟩
def Itr(lo:Int)(n:Nat):It:=⟨fun i _=>i<n,fun i H x H'=>H'=H/\x=.int (lo+i),fun i _=>n<=i⟩
theorem lz{w:World}{K:W.Frag}(a it:Addr):lS P w K tg (Itl K a) [it] it (fun i h=>h.IsListIter it a i) where
 mem:=by simp
 obj:=fun i h st b hb=>by
  have e:b=it:=by simpa using hb
  subst e;obtain ⟨o,e,c,d⟩:=st;exact zA o e (fun v z=>by rw [d] at z;cases z)
 keep:=fun i h h' st k=>st.at fun o e=>k it Jo o e
 item:=by intro X hP hw hK hc i pins s σ H E I hf st hg;subst hP hw hK;obtain ⟨xs,x,hq,hx⟩:=hg;obtain ⟨its,rv,p,hz⟩:=I.list hq;obtain ⟨u,hu,ru⟩:=rv.get hx;obtain ⟨f0,f1,f2,f3,f4,f5⟩:=hf it Jo;refine wpAny_pyNext_list_item st p.isList (x:=u) (by simpa using hu) fun h' st' sb=>?_;have I1:Inv X pins σ H {s with heap:=h'}:=I.turned (t':=s.toks) (fun b o hb e=>(sb.2 b hb).trans e) f0 f1 f3 f4 f5;obtain ⟨o,e,c,d⟩:=id st';exact zA u rfl (mw (s:={s with heap:=h'}) e c d Jm (zP x H I1 ru ⟨rfl,fun ys hy=>by rw [I.list_inj hy hq];exact hx⟩ st' fun b hb=>(hf b hb).1))
 done:=by intro X hP hw hK hc i pins s σ H E I hf st hg;subst hP hw hK;obtain ⟨xs,hq,hx⟩:=hg;obtain ⟨its,rv,p,hz⟩:=I.list hq;obtain ⟨f0,f1,f2,f3,f4,f5⟩:=hf it Jo;have hl:=rv.length;exact wpAny_pyNext_list_end (I.ok.hd hc) st p.isList (by simp;omega) fun h' eb=>⟨rfl,I.turned (t':=s.toks) (fun b o hb e=>eb b o hb e) f0 f1 f3 f4 f5⟩
 self:=fun _ _ _ _ _ st h=>wpAny_pyIter_listiter st h
theorem jk{w:World}{K:W.Frag}(a it:Addr):lS P w K tg (Itt K a) [it] it (fun i h=>h.IsTupleIter it a i) where
 mem:=by simp
 obj:=fun i h st b hb=>by
  have e:b=it:=by simpa using hb
  subst e;obtain ⟨o,e,c,d⟩:=st;exact zA o e (fun v z=>by rw [d] at z;cases z)
 keep:=fun i h h' st k=>st.at fun o e=>k it Jo o e
 item:=by intro X hP hw hK hc i pins s σ H E I hf st hg;subst hP hw hK;obtain ⟨xs,x,hq,hx⟩:=hg;obtain ⟨its,rv,p,hz⟩:=I.tuple hq;obtain ⟨u,hu,ru⟩:=rv.get hx;obtain ⟨f0,f1,f2,f3,f4,f5⟩:=hf it Jo;refine wpAny_pyNext_tuple_item st (show s.heap.IsTuple a its.toArray from p) (x:=u) (by simpa using hu) fun h' st' sb=>?_;have I1:Inv X pins σ H {s with heap:=h'}:=I.turned (t':=s.toks) (fun b o hb e=>(sb.2 b hb).trans e) f0 f1 f3 f4 f5;obtain ⟨o,e,c,d⟩:=id st';exact zA u rfl (mw (s:={s with heap:=h'}) e c d Jm (zP x H I1 ru ⟨rfl,fun ys hy=>by rw [I.tuple_inj hy hq];exact hx⟩ st' fun b hb=>(hf b hb).1))
 done:=by intro X hP hw hK hc i pins s σ H E I hf st hg;subst hP hw hK;obtain ⟨xs,hq,hx⟩:=hg;obtain ⟨its,rv,p,hz⟩:=I.tuple hq;obtain ⟨f0,f1,f2,f3,f4,f5⟩:=hf it Jo;have hl:=rv.length;exact wpAny_pyNext_tuple_end (I.ok.hd hc) st (show s.heap.IsTuple a its.toArray from p) (by simp;omega) fun h' eb=>⟨rfl,I.turned (t':=s.toks) (fun b o hb e=>eb b o hb e) f0 f1 f3 f4 f5⟩
 self:=fun _ _ _ _ _ st h=>wpAny_pyIter_tupleiter st h
theorem jj{w:World}{K:W.Frag}(it:Addr)(lo:Int)(n:Nat):lS P w K tg (Itr lo n) [it] it (fun i h=>IsRangeIter h it (lo+(i:Nat) * 1) ((n:Int)-(i:Nat)) 1) where
 mem:=by simp
 obj:=fun i h st b hb=>by
  have e:b=it:=by simpa using hb
  subst e;exact ⟨_,st,fun v z=>by
   have z':Data.fields _=Data.cell v:=z
   cases z'⟩
 keep:=fun i h h' st k=>k it Jo _ st
 item:=by intro X hP hw hK hc i pins s σ H E I hf st hg;subst hP hw hK;obtain ⟨f0,f1,f2,f3,f4,f5⟩:=hf it Jo;have W:=Walks.range (prog:=X.prog) (w:=X.w) (I.ok.hd hc) it lo 1 n;refine W.item i s _ _ hg st fun v h' tk hv st' kk=>?_;obtain ⟨t,rfl⟩:=hv;have I1:Inv X pins σ H {s with heap:=h',toks:=tk}:=I.turned (fun b o hb e=>kk b o (by simpa using hb) e) f0 f1 f3 f4 f5;refine zA _ rfl (mw (s:={s with heap:=h',toks:=tk}) (n:="range_iterator") st' rfl rfl Jm (zP (.int (lo+i)) H I1 ⟨t,?_⟩ ⟨rfl,rfl⟩ st' fun b hb=>(hf b hb).1));rw [Int.mul_one]
 done:=by intro X hP hw hK hc i pins s σ H E I hf st hg;subst hP hw hK;obtain ⟨f0,f1,f2,f3,f4,f5⟩:=hf it Jo;exact wpAny_pyNext_range_end (I.ok.hd hc) st (by have:n<=i:=hg;omega) fun h' eb=>⟨rfl,I.turned (t':=s.toks) (fun b o hb e=>eb b o hb e) f0 f1 f3 f4 f5⟩
 self:=fun _ _ _ _ _ st h=>wpAny_pyIter_rangeiter st h
end L2
namespace L2
variable {H:Hp} {pins:List (Addr×Obj)} {s:Shared} {σ:St}
section
variable {X:Cx} {tg:Expr}
def qS(K:W.Frag)(tl:TE):TI:=fun σ H R=>tl σ H fun x H1=>∃a,x=.ref a/\(∃xs,SqL K H1 a xs)/\R (Itl K a) H1
def uO(K:W.Frag)(tl:TE):TI:=fun σ H R=>tl σ H fun x H1=>∃a,x=.ref a/\(∃xs,SqT K H1 a xs)/\R (Itt K a) H1
theorem nK{R:It->Hp->Prop}{E:Value->Shared->Prop}{lo hi:Int}{t u v:Tok}{tk:Nat}(I:Inv X pins σ H s)(h1:-(2 ^ 62)<=lo)(h2:lo<2 ^ 62)(h3:-(2 ^ 62)<=hi)(h4:hi<2 ^ 62)
 (q:R (Itr lo (hi-lo).toNat) H):wpAny (model X.prog X.w) X.A (pyIter (.ref s.heap.objs.size)) (PIE X pins σ tg R) E {s with heap:=s.heap.push {cls:=.type "range",data:=.fields #[.int lo t,.int hi u,.int 1 v]},toks:=tk}:=by
 refine wpAny_pyIter_range (IsRange.new ..) (small_one h1 h2 h3 h4) ?_;have I1:Inv X pins σ H {s with heap:=s.heap.push {cls:=.type "range",data:=.fields #[.int lo t,.int hi u,.int 1 v]},toks:=tk}:=I.kept fun b o e=>zq9 _ e;refine ⟨(s.heap.push {cls:=.type "range",data:=.fields #[.int lo t,.int hi u,.int 1 v]}).objs.size,[(s.heap.push {cls:=.type "range",data:=.fields #[.int lo t,.int hi u,.int 1 v]}).objs.size],_,_,H,rfl,
  I1.kept (t':=tk) fun b o e=>zq9 _ e,jj _ lo (hi-lo).toNat,?_,fun b hb=>?_,q⟩
 ·have e1:lo+((0:Nat):Int) * 1=lo:=by simp
  have e2:(((hi-lo).toNat:Nat):Int)-((0:Nat):Int)=Builtin.Range.rangeSize lo hi 1:=by rw [rangeSize_one];split<;>omega
  show IsRangeIter _ _ (lo+((0:Nat):Int) * 1) ((((hi-lo).toNat:Nat):Int)-((0:Nat):Int)) 1;rw [e1,e2];exact bV _ rfl
 ·have e:b=(s.heap.push {cls:=.type "range",data:=.fields #[.int lo t,.int hi u,.int 1 v]}).objs.size:=by simpa using hb
  subst e;exact I1.fpOk (zq4 _) (I1.hok.fresh (zq4 _))
def qT(ta:TA):TI:=fun σ H R=>ta σ H fun vs H1=>∃j:Int,vs=[.int j]/\-(2 ^ 62)<=j/\j<2 ^ 62/\R (Itr 0 j.toNat) H1
def tV(wi:TI)(g:TG)(tb:TS):TS:=fun D σ H=>wi σ H fun J H1=>∃W:Nat->Nat->St->Hp->Prop,(∃m,W 0 m σ H1)/\∀i m σ H,W i m σ H->
 (J.stop i H/\D.nx σ H)\/(J.go i H/\∃N:St->Hp->Prop,(∀σ' H',N σ' H'->∃m',m'<m/\W (i+1) m' σ' H')/\∀x H',J.yld i H x H'->g x σ H' fun σ2 H2=>tb {D with nx:=N,ct:=N,bk:=D.nx} σ2 H2)
def dB(fp:List Addr)(h:Heap):List (Addr×Obj):=fp.filterMap fun b=>(h.get? b).map fun o=>(b,o)
theorem bL{fp:List Addr}{h:Heap}{b:Addr}{o:Obj}(hb:b∈fp)(e:h.get? b=some o):(b,o)∈dB fp h:=List.mem_filterMap.mpr (zA b hb (by rw [e];rfl))
theorem kT{fp:List Addr}{h:Heap}{p:Addr×Obj}(hp:p∈dB fp h):p.1∈fp/\h.get? p.1=some p.2:=by
 obtain ⟨b,hb,e⟩:=List.mem_filterMap.mp hp
 cases q:h.get? b with
 |none=>rw [q] at e;cases e
 |some o=>rw [q] at e;have e':(b,o)=p:=Option.some.inj e;subst e';exact ⟨hb,q⟩
theorem Inv.pinned{fp:List Addr}(I:Inv X pins σ H s)(hf:∀b∈fp,gf X pins H b)(ho:∀b∈fp,∃o,s.heap.get? b=some o/\∀v,o.data≠.cell v):Inv X (pins++dB fp s.heap) σ H s:=
 I.pins_of fun p hp=>(zq23.mp hp).elim (fun z=>I.pin p (dm _ z)) fun z=>by obtain ⟨hb,e⟩:=kT z;obtain ⟨f0,f1,f2,_⟩:=hf p.1 hb;obtain ⟨o,e',d⟩:=ho p.1 hb;rw [e] at e';cases e';exact zH e f0 f1 f2 d
theorem Inv.unpinned{pl:List (Addr×Obj)}(I:Inv X (pins++pl) σ H s):Inv X pins σ H s:=I.pins_of fun p hp=>I.pin p (dm _ (qx _ hp))
theorem sO{iter:Expr}{body:List Stmt}{wi:TI}{g:TG}{tb:TS}{pos:Pos}(hp:PassesOwn (model X.prog X.w) X.A X.env X.xe)(hc:X.calm=true)(hi:PI X tg iter wi)(hg:PG X tg g)(hb:PSs X body tb)
 (hs:∀x,foldedSetIterable iter X.env x=pure x:=by intro _;rfl):PS X (.For tg iter body [] pos) (tV wi g tb):=by
 intro pins s σ H D I h;refine wpAny_For (thn (hi pins s σ H _ I h) fun v s1 h1=>thn h1 fun itv s2 h2=>?_) hs;obtain ⟨it,fp,tn,J,H2,e,I2,T,st2,f2,W,⟨m0,w0⟩,turn⟩:=h2;subst e;have stat:∀{H':Hp},(∀b∈fp,H' b=none)->∀b∈fp,gf X pins H' b:=fun hn b hb=>⟨hn b hb,(f2 b hb).2⟩
 refine codeAny_forLoop_any (fun n s'=>∃i σ' H',Inv X pins σ' H' s'/\tn i s'.heap/\(∀b∈fp,H' b=none)/\W i n σ' H') ?_ m0 (zQ 0 σ H2 I2 st2 (fun b hb=>(f2 b hb).1) w0);rintro n s3 ⟨i,σ3,H3,I3,st3,fr3,w3⟩;rcases turn i n σ3 H3 w3 with ⟨stop,qn⟩ | ⟨go,N,hN,step⟩
 ·refine wpAny_passesOwn hp (thn (T.done X rfl rfl rfl hc i pins s3 σ3 H3 X.xe I3 (stat fr3) st3 stop) fun r s4 ⟨hr,I4⟩=>?_);subst hr;exact wpAny_execs_nil (zE σ3 H3 I4 qn)
 ·refine wpAny_passesOwn hp (thn (T.item X rfl rfl rfl hc i pins s3 σ3 H3 X.xe I3 (stat fr3) st3 go) fun r s4 ⟨u,hr,h4⟩=>?_);subst hr;refine wpAny_passesOwn hp (thn h4 fun _ s5 hhx=>?_);obtain ⟨x,H5,I5,r5,y5,st5,fr5⟩:=hhx;have I5':=I5.pinned (stat fr5) (T.obj _ _ st5);refine wpAny_passesOwn hp (thn (hg _ s5 σ3 H5 x u _ I5' r5 (step x H5 y5)) fun _ s6 hhx=>?_);obtain ⟨σ6,H6,I6,q6⟩:=hhx;refine wpAny_passesOwn hp (thn (hb _ s6 σ6 H6 _ I6 q6) fun f s7 q7=>?_);have again:∀{σ7:St} {H7:Hp},Inv X (pins++dB fp s5.heap) σ7 H7 s7->N σ7 H7->∃m,m<n/\∃i σ' H',Inv X pins σ' H' s7/\tn i s7.heap/\(∀b∈fp,H' b=none)/\W i m σ' H':=fun {σ7 H7} I7 n7=>by obtain ⟨m',hm,w7⟩:=hN σ7 H7 n7;refine zA m' hm (zQ (i+1) σ7 H7 I7.unpinned (T.keep _ _ _ st5 fun b hb o e=>(I7.pin (b,o) (dm _ (dm _ (bL hb e)))).1) (fun b hb=>?_) w7);obtain ⟨o,e,d⟩:=T.obj _ _ st5 b hb;exact (I7.pin (b,o) (dm _ (dm _ (bL hb e)))).2.1
  cases f with
  |next=>obtain ⟨σ7,H7,I7,n7⟩:=q7;exact again I7 n7
  |cont=>obtain ⟨σ7,H7,I7,n7⟩:=q7;exact again I7 n7
  |brk=>obtain ⟨σ7,H7,I7,q7⟩:=q7;exact zE σ7 H7 I7.unpinned q7
  |ret v=>obtain ⟨x7,σ7,H7,I7,r7,q7⟩:=q7;exact zV x7 σ7 H7 I7.unpinned r7 q7
end
theorem mm{K:W.Frag}{a:Addr}{xs:List V}{g:TG}{tb:TS}{D:bK}(Pv:Nat->St->Hp->Prop)(h0:Pv 0 σ H)(hl:∀i σ H,i<=xs.length->Pv i σ H->SqL K H a xs)
 (hs:∀i x σ H,xs[i]?=some x->Pv i σ H->g x σ H fun σ2 H2=>tb {D with nx:=Pv (i+1),ct:=Pv (i+1),bk:=D.nx} σ2 H2) (hd:∀σ H,Pv xs.length σ H->D.nx σ H) :
 ∃W:Nat->Nat->St->Hp->Prop,(∃m,W 0 m σ H)/\∀i m σ H,W i m σ H->
   ((Itl K a).stop i H/\D.nx σ H)\/((Itl K a).go i H/\∃N:St->Hp->Prop,(∀σ' H',N σ' H'->∃m',m'<m/\W (i+1) m' σ' H')/\∀x H',(Itl K a).yld i H x H'->g x σ H' fun σ2 H2=>tb {D with nx:=N,ct:=N,bk:=D.nx} σ2 H2):=by
 refine zA (fun i m σ H=>m=xs.length-i/\i<=xs.length/\Pv i σ H) (zD xs.length Jo (ce _) h0) ?_;rintro i m σ H ⟨rfl,hi,p⟩;have q:=hl i σ H hi p
 by_cases hlt:i<xs.length
 ·refine .inr ⟨zE xs (xs[i]) q (by simp [hlt]),zA (Pv (i+1)) (fun σ' H' p'=>zM (xs.length-(i+1)) Jn rfl hlt p') fun x H' y=>?_⟩;obtain ⟨e,y⟩:=y;subst e;exact hs i x σ _ (y xs q) p
 ·have e:i=xs.length:=by omega
  subst e;exact .inl ⟨zA xs q (zq4 _),hd σ H p⟩
theorem kF{lo:Int}{n:Nat}{g:TG}{tb:TS}{D:bK}(Pv:Nat->St->Hp->Prop)(h0:Pv 0 σ H)
 (hs:∀i σ H,i<n->Pv i σ H->g (.int (lo+i)) σ H fun σ2 H2=>tb {D with nx:=Pv (i+1),ct:=Pv (i+1),bk:=D.nx} σ2 H2) (hd:∀σ H,Pv n σ H->D.nx σ H) :
 ∃W:Nat->Nat->St->Hp->Prop,(∃m,W 0 m σ H)/\∀i m σ H,W i m σ H->
   ((Itr lo n).stop i H/\D.nx σ H)\/((Itr lo n).go i H/\∃N:St->Hp->Prop,(∀σ' H',N σ' H'->∃m',m'<m/\W (i+1) m' σ' H')/\∀x H',(Itr lo n).yld i H x H'->g x σ H' fun σ2 H2=>tb {D with nx:=N,ct:=N,bk:=D.nx} σ2 H2):=by
 refine zA (fun i m σ H=>m=n-i/\i<=n/\Pv i σ H) (zD n Jo (ce _) h0) ?_;rintro i m σ H ⟨rfl,hi,p⟩
 by_cases hlt:i<n
 ·refine .inr ⟨hlt,zA (Pv (i+1)) (fun σ' H' p'=>zM (n-(i+1)) Jn rfl hlt p') fun x H' y=>?_⟩;obtain ⟨e,y⟩:=y;subst e y;exact hs i σ _ hlt p
 ·have e:i=n:=by omega
  subst e;exact .inl ⟨zq4 _,hd σ H p⟩
end L2
namespace L2
abbrev R2:=V->V->Hp->VK->Prop
def OpR(X:Cx)(f:Value->Value->Sem Value)(r:R2):Prop:=
 ∀(pins:List (Addr×Obj)) (s:Shared) (σ:St) (H:Hp) (x y:V) (v u:Value) (Q:VK),Inv X pins σ H s->RelV x v->RelV y u->r x y H Q->
  wpAny (model X.prog X.w) X.A (f v u) (EP X pins σ Q) X.xe s
def cf(X:Cx)(f:Value)(r:List V->Hp->VK->Prop):Prop:=
 ∀(pins:List (Addr×Obj)) (s:Shared) (σ:St) (H:Hp) (xs:List V) (us:List Value) (Q:VK),Inv X pins σ H s->Vals xs us->r xs H Q->
  wpAny (model X.prog X.w) X.A (call f us) (EP X pins σ Q) X.xe s
def tOp(r:R2)(ta tb:TE):TE:=fun σ H Q=>ta σ H fun x H1=>tb σ H1 fun y H2=>r x y H2 Q
def rI(C:Int->Int->Prop)(g:Int->Int->V):R2:=fun x y H Q=>∃i j,x=.int i/\y=.int j/\C i j/\Q (g i j) H
def rI0(g:Int->Int->V):R2:=fun x y H Q=>∃i j,x=.int i/\y=.int j/\Q (g i j) H
section
variable {X:Cx} {a b c:Expr} {ta tb tc:TE} {pos:Pos}
theorem rP(ha:PE X a ta)(hb:PE X b tb){pins:List (Addr×Obj)}{s:Shared}{σ:St}{H:Hp}{R:V->V->Hp->Prop}(I:Inv X pins σ H s)
  (h:ta σ H fun x H1=>tb σ H1 fun y H2=>R x y H2) {Q:Value->Shared->Prop} {f:Value->Value->Sem Value}
  (hf:∀v u s2 x y H2,Inv X pins σ H2 s2->RelV x v->RelV y u->R x y H2->wpAny (model X.prog X.w) X.A (f v u) Q X.xe s2) :
  wpAny (model X.prog X.w) X.A (eval a X.env) (fun v s₁=>wpAny (model X.prog X.w) X.A (eval b X.env) (fun u s₂=>wpAny (model X.prog X.w) X.A (f v u) Q X.xe s₂) X.xe s₁) X.xe s:=by
 refine thn (ha pins s σ H _ I h) fun v s1 hhx=>?_;obtain ⟨x,H1,I1,r1,q1⟩:=hhx;refine thn (hb pins s1 σ H1 _ I1 q1) fun u s2 hhx=>?_;obtain ⟨y,H2,I2,r2,q2⟩:=hhx;exact hf v u s2 x y H2 I2 r1 r2 q2
theorem opI{f:Value->Value->Sem Value}{C:Int->Int->Prop}{g:Int->Int->Int}
  (rule:∀(i j:Int)(t u:Tok)(s:Shared)(Q:Value->Shared->Prop)(E:Value->Shared->Prop),C i j->Q (.int (g i j) s.toks) {s with toks:=s.toks+1}->wpAny (model X.prog X.w) X.A (f (.int i t) (.int j u)) Q E s) :
  OpR X f (rI C fun i j=>.int (g i j)):=by
 intro pins s σ H x y v u Q I rx ry h;obtain ⟨i,j,rfl,rfl,hc,q⟩:=h;obtain ⟨t,rfl⟩:=rx;obtain ⟨t',rfl⟩:=ry;exact rule i j t t' s _ _ hc (zB (.int (g i j)) H (I.tok _) ⟨_,rfl⟩ q)
theorem mS{f:Value->Value->Sem Value}{g:Int->Int->Int}
  (rule:∀(i j:Int)(t u:Tok)(s:Shared)(Q:Value->Shared->Prop)(E:Value->Shared->Prop),Q (.int (g i j) s.toks) {s with toks:=s.toks+1}->wpAny (model X.prog X.w) X.A (f (.int i t) (.int j u)) Q E s) :
  OpR X f (rI0 fun i j=>.int (g i j)):=by
 intro pins s σ H x y v u Q I rx ry h;obtain ⟨i,j,rfl,rfl,q⟩:=h;obtain ⟨t,rfl⟩:=rx;obtain ⟨t',rfl⟩:=ry;exact rule i j t t' s _ _ (zB (.int (g i j)) H (I.tok _) ⟨_,rfl⟩ q)
theorem sq{f:Value->Value->Sem Value}{g:Int->Int->Bool}
  (rule:∀(i j:Int)(t u:Tok)(s:Shared)(Q:Value->Shared->Prop)(E:Value->Shared->Prop),Q (.bool (g i j)) s->wpAny (model X.prog X.w) X.A (f (.int i t) (.int j u)) Q E s) :
  OpR X f (rI0 fun i j=>.bl (g i j)):=by
 intro pins s σ H x y v u Q I rx ry h;obtain ⟨i,j,rfl,rfl,q⟩:=h;obtain ⟨t,rfl⟩:=rx;obtain ⟨t',rfl⟩:=ry;exact rule i j t t' s _ _ (zB (.bl (g i j)) H I rfl q)
def lO(i j:Int):Prop:=0<=j/\j<=1000000/\i.natAbs<2 ^ 64
def CMul(i j:Int):Prop:=(-(2 ^ 64)<i/\i<2 ^ 64)\/(-(2 ^ 64)<j/\j<2 ^ 64)
theorem CMul.ok{i j:Int}(h:CMul i j):IntMulOk i j:=by
 rcases h with ⟨h1,h2⟩ | ⟨h1,h2⟩
 ·exact .of_left (intBits_le_64 h1 h2)
 ·exact .of_right (intBits_le_64 h1 h2)
theorem sr:OpR X (binaryOp .Add) (rI0 fun i j=>.int (i+j)):=mS fun _ _ _ _ _ _ _ q=>add_int q
theorem sJ:OpR X (binaryOp .Sub) (rI0 fun i j=>.int (i-j)):=mS fun _ _ _ _ _ _ _ q=>sub_int q
theorem sF:OpR X (binaryOp .Mult) (rI CMul fun i j=>.int (i * j)):=opI fun _ _ _ _ _ _ _ hc q=>mul_int q hc.ok
theorem sE:OpR X (binaryOp .Mod) (rI (fun _ j=>0<j) fun i j=>.int (i % j)):=opI fun i j _ _ _ _ _ hc q=>by have h1:(0:Int)<j:=hc;exact mod_int' Jn (by rw [Int.fmod_eq_emod_of_nonneg i Jn];exact q)
theorem sG:OpR X (binaryOp .Pow) (rI lO fun i j=>.int (i ^ j.toNat)):=opI fun _ _ _ _ _ _ _ hc q=>pow_int_small hc.1 hc.2.1 hc.2.2 q
theorem sI:OpR X (binaryOp .LShift) (rI lO fun i j=>.int (i * 2 ^ j.toNat)):=opI fun _ _ _ _ _ _ _ hc q=>lshift_int_small hc.1 hc.2.1 hc.2.2 q
theorem su:OpR X (binaryOp .BitAnd) (rI0 fun i j=>.int (Builtin.bitAnd i j)):=mS fun _ _ _ _ _ _ _ q=>and_int q
theorem uT:OpR X (binaryOp .BitOr) (rI0 fun i j=>.int (Builtin.bitOr i j)):=mS fun _ _ _ _ _ _ _ q=>or_int q
theorem sL:OpR X (binaryOp .BitXor) (rI0 fun i j=>.int (Builtin.bitXor i j)):=mS fun _ _ _ _ _ _ _ q=>xor_int q
end
def nR:V->V->Bool
 | .non,.non=>true | .non,.int _=>true | .int _,.non=>true | .non,.bl _=>true | .bl _,.non=>true | .non,.str _=>true | .str _,.non=>true
 | .int _,.int _=>true | .bl _,.bl _=>true | .str _,.str _=>true | .byt _,.byt _=>true
 | .int _,.str _=>true | .str _,.int _=>true | .bl _,.str _=>true | .str _,.bl _=>true
 |_,_=>false
def rEq:R2:=fun x y H Q=>nR x y=true/\Q (.bl (decide (x=y))) H
def rNe:R2:=fun x y H Q=>nR x y=true/\Q (.bl (! decide (x=y))) H
theorem jA{i j:Int}:decide (V.int i=V.int j)=(i==j):=by rw [iJ];simp
theorem m8{i j:Bool}:decide (V.bl i=V.bl j)=(i==j):=by rw [iJ];simp
theorem jB{i j:Str}:decide (V.str i=V.str j)=(i==j):=by rw [iJ];simp
theorem jz{i j:Array UInt8}:decide (V.byt i=V.byt j)=(i.toList==j.toList):=by
 rw [iJ]
 cases i
 cases j
 simp
section
variable {X:Cx} {a b c:Expr} {ta tb tc:TE} {pos:Pos}
theorem aB{pins:List (Addr×Obj)}{σ:St}{H:Hp}{s:Shared}{Q:VK}{k k':Bool}(I:Inv X pins σ H s)(q:Q (.bl k) H)(e:k=k'):EP X pins σ Q (.bool k') s:=by subst e;exact zB (.bl k) H I rfl q
theorem bq:OpR X (compareOp .Eq) rEq:=by
 intro pins s σ H x y v u Q I rx ry h;obtain ⟨hs,q⟩:=h
 cases x with
 |non=>
  cases rx
  cases y with
  |non=>cases ry;exact PySem.EqNone.eq_none_none (aB I q Jo)
  |bl j=>cases ry;exact PySem.EqNone.eq_none_bool (aB I q Jo)
  |int j=>obtain ⟨t',rfl⟩:=ry;exact PySem.EqNone.eq_none_int (aB I q Jo)
  |str j=>obtain ⟨t',rfl⟩:=ry;exact PySem.EqNone.eq_none_str (aB I q Jo)
  |_=>exact absurd (show false=true from hs) zq6
 |bl i=>
  cases rx
  cases y with
  |non=>cases ry;exact PySem.EqNone.eq_bool_none (aB I q Jo)
  |bl j=>cases ry;exact eq_bool (aB I q m8)
  |str j=>obtain ⟨t',rfl⟩:=ry;exact PySem.EqMixed.eq_bool_str (aB I q Jo)
  |_=>exact absurd (show false=true from hs) zq6
 |int i=>
  obtain ⟨t,rfl⟩:=rx
  cases y with
  |non=>cases ry;exact PySem.EqNone.eq_int_none (aB I q Jo)
  |int j=>obtain ⟨t',rfl⟩:=ry;exact eq_int (aB I q jA)
  |str j=>obtain ⟨t',rfl⟩:=ry;exact PySem.EqMixed.eq_int_str (aB I q Jo)
  |_=>exact absurd (show false=true from hs) zq6
 |str i=>
  obtain ⟨t,rfl⟩:=rx
  cases y with
  |non=>cases ry;exact PySem.EqNone.eq_str_none (aB I q Jo)
  |bl j=>cases ry;exact PySem.EqMixed.eq_str_bool (aB I q Jo)
  |int j=>obtain ⟨t',rfl⟩:=ry;exact PySem.EqMixed.eq_str_int (aB I q Jo)
  |str j=>obtain ⟨t',rfl⟩:=ry;exact eq_str (aB I q jB)
  |_=>exact absurd (show false=true from hs) zq6
 |byt i=>
  obtain ⟨t,rfl⟩:=rx
  cases y with
  |byt j=>obtain ⟨t',rfl⟩:=ry;exact W.eq_bytes (aB I q jz)
  |_=>exact absurd (show false=true from hs) zq6
 |_=>cases y<;>exact absurd (show false=true from hs) zq6
theorem qY:OpR X (compareOp .NotEq) rNe:=by
 intro pins s σ H x y v u Q I rx ry h;obtain ⟨hs,q⟩:=h
 cases x with
 |non=>
  cases rx
  cases y with
  |non=>cases ry;exact PySem.EqNone.ne_none_none (aB I q Jo)
  |bl j=>cases ry;exact PySem.EqNone.ne_none_bool (aB I q Jo)
  |int j=>obtain ⟨t',rfl⟩:=ry;exact PySem.EqNone.ne_none_int (aB I q Jo)
  |str j=>obtain ⟨t',rfl⟩:=ry;exact PySem.EqNone.ne_none_str (aB I q Jo)
  |_=>exact absurd (show false=true from hs) zq6
 |bl i=>
  cases rx
  cases y with
  |non=>cases ry;exact PySem.EqNone.ne_bool_none (aB I q Jo)
  |bl j=>cases ry;exact ne_bool (aB I q (congrArg not m8))
  |str j=>obtain ⟨t',rfl⟩:=ry;exact PySem.EqMixed.ne_bool_str (aB I q Jo)
  |_=>exact absurd (show false=true from hs) zq6
 |int i=>
  obtain ⟨t,rfl⟩:=rx
  cases y with
  |non=>cases ry;exact PySem.EqNone.ne_int_none (aB I q Jo)
  |int j=>obtain ⟨t',rfl⟩:=ry;exact ne_int (aB I q (congrArg not jA))
  |str j=>obtain ⟨t',rfl⟩:=ry;exact PySem.EqMixed.ne_int_str (aB I q Jo)
  |_=>exact absurd (show false=true from hs) zq6
 |str i=>
  obtain ⟨t,rfl⟩:=rx
  cases y with
  |non=>cases ry;exact PySem.EqNone.ne_str_none (aB I q Jo)
  |bl j=>cases ry;exact PySem.EqMixed.ne_str_bool (aB I q Jo)
  |int j=>obtain ⟨t',rfl⟩:=ry;exact PySem.EqMixed.ne_str_int (aB I q Jo)
  |str j=>obtain ⟨t',rfl⟩:=ry;exact ne_str (aB I q (congrArg not jB))
  |_=>exact absurd (show false=true from hs) zq6
 |byt i=>
  obtain ⟨t,rfl⟩:=rx
  cases y with
  |byt j=>obtain ⟨t',rfl⟩:=ry;exact W.ne_bytes (aB I q (congrArg not jz))
  |_=>exact absurd (show false=true from hs) zq6
 |_=>cases y<;>exact absurd (show false=true from hs) zq6
theorem uS:OpR X (compareOp .Lt) (rI0 fun i j=>.bl (decide (i<j))):=sq fun _ _ _ _ _ _ _ q=>lt_int q
theorem uR:OpR X (compareOp .Gt) (rI0 fun i j=>.bl (decide (j<i))):=sq fun _ _ _ _ _ _ _ q=>gt_int q
theorem uQ:OpR X (compareOp .GtE) (rI0 fun i j=>.bl (decide (j<=i))):=sq fun _ _ _ _ _ _ _ q=>ge_int q
theorem mV:OpR X (compareOp .Is) (fun x y H Q=>y=.non/\Q (.bl (decide (x=.non))) H):=by
 intro pins s σ H x y v u Q I rx ry h;obtain ⟨rfl,q⟩:=h
 cases ry
 refine is_none_gen (aB I q ?_)
 cases x<;>first
  | (cases rx;rfl)
  | (obtain ⟨t,rfl⟩:=rx;rfl)
theorem aE(b:Expr){op:CmpOp}(h:op≠.In:=by decide)(h2:op≠.NotIn:=by decide):behindInMarks op b=false:=by
 have e1:(op==CmpOp.In)=false:=by cases op<;>first | rfl | exact absurd rfl h
 have e2:(op==CmpOp.NotIn)=false:=by cases op<;>first | rfl | exact absurd rfl h2
 cases b<;>simp [behindInMarks,e1,e2]
def rC(t:TE):TT:=fun σ H Q=>t σ H fun x H'=>∃k,x=.bl k/\Q k H'
theorem gB:(sizeLine:Nat)<2 ^ 63:=by rw [bP];decide
theorem j4:OpR X (binaryOp .Add) (fun x y H Q=>∃i j,x=.str i/\y=.str j/\i.length+j.length<=sizeLine/\Q (.str (i++j)) H):=by intro pins s σ H x y v u Q I rx ry h;obtain ⟨i,j,rfl,rfl,hz,q⟩:=h;obtain ⟨t,rfl⟩:=rx;obtain ⟨t',rfl⟩:=ry;exact add_str (fun t' tk=>zB (.str (i++j)) H (I.tok _) ⟨_,rfl⟩ q) hz
theorem fZ{x:V}{us:List Value}(r:Vals [x] us):∃u,us=[u]/\RelV x u:=by
 cases r with
 |cons r1 r2=>cases r2;exact zA _ rfl r1
theorem og{x y:V}{us:List Value}(r:Vals [x,y] us):∃u w',us=[u,w']/\RelV x u/\RelV y w':=by
 cases r with
 |cons r1 r2=>
  cases r2 with
  |cons r3 r4=>cases r4;exact zB _ _ rfl r1 r3
theorem kr:cf X (.type "int") (fun xs H Q=>(∃i,xs=[.int i]/\Q (.int i) H)\/∃k,xs=[.bl k]/\Q (.int (if k then 1 else 0)) H):=by
 intro pins s σ H xs us Q I r h;rcases h with ⟨i,rfl,q⟩ | ⟨k,rfl,q⟩
 ·obtain ⟨u,rfl,t,rfl⟩:=fZ r;exact call_int_int (zB (.int i) H I ⟨_,rfl⟩ q)
 ·obtain ⟨u,rfl,r1⟩:=fZ r
  cases r1
  exact call_int_bool (zB (.int (if k then 1 else 0)) H (I.tok _) ⟨_,rfl⟩ q)
end
end L2
namespace L2
structure ObjM(h:Heap)(x dx C:Addr)(mA:Str->Option Value):Prop where
 obj:h.get? x=some (W.instObj C dx)
 ns:h.Ns1 dx mA
 ne:dx≠x
theorem kP{h:Heap}{dx:Addr}{mA:Str->Option Value}(n:h.Ns1 dx mA):∃od,h.get? dx=some od/\∀name,W.lookIn name od=some (mA name):=by
 obtain ⟨o,es,ep,ho,hd,hk,_,hm⟩:=n;refine zA o ho fun name=>?_;have e:=hm name;unfold nsFind findBy at e;rw [<- Array.find?_toList] at e;unfold W.lookIn;rw [hd];dsimp only
 split
 ·rename_i y q
  rw [q] at e;exact congrArg some e
 ·rename_i q
  rw [q] at e;have a:es.toList.any (·.refKey)=false:=by rw [List.any_eq_false];intro y hy;obtain ⟨z,t,hkey⟩:=hk y (Array.mem_toList_iff.mp hy);simp [DictEntry.refKey,hkey]
  have a':¬es.toList.any (·.refKey)=true:=by rw [a];exact zq6
  rw [zq1 a'];exact congrArg some e
theorem ObjM.look{h:Heap}{x dx C:Addr}{mA:Str->Option Value}(I:ObjM h x dx C mA):∃od,W.InstAt h x (W.instObj C dx) C (some od)/\∀name,W.lookIn name od=some (mA name):=
 let ⟨od,ho,hl⟩:=kP I.ns
 (zA od ⟨I.obj,rfl,rfl,ho⟩ hl)
section
variable {prog:Program} {w:World} {A:Around} {E:Value->Shared->Prop} {s:Shared} {K:W.Frag} {x dx C f:Addr} {mA:Str->Option Value} {name:Str} {v:Value}
theorem p7{expr:Bool}{Q:Value->Shared->Prop}(X:K.In s.heap)(I:ObjM s.heap x dx C mA)(hg:W.plainGet K C name=true)(hh:W.hasDictIn K C=true)
  (ha:W.findIn K (.ref C) name=some none) (hv:mA name=some v) (hv':W.handedIn v=true) (h:Q v {s with toks:=s.toks+1}) :
  wpAny (model prog w) A (getAttr (.ref x) name expr) Q E s:=by
 obtain ⟨od,J,hl⟩:=I.look;exact W.get_value X J (W.plainGet_of hg).1 (W.findObj_own hh ha rfl (by rw [hl,hv])) hv' h
theorem mt{pl:Sem Bool}{Q:Value×List Value->Shared->Prop}(X:K.In s.heap)(I:ObjM s.heap x dx C mA)(hg:W.plainGet K C name=true)
  (hf:W.findIn K (.ref C) name=some (some (.ref f))) (ht:W.isFn K (.ref f)=true) (hv:mA name=none) (h:Q (.ref f,[.ref x]) s) :
  wpAny (model prog w) A (getMethod (.ref x) name pl) Q E s:=by
 obtain ⟨od,J,hl⟩:=I.look;exact W.method_fn X J (W.plainGet_of hg).1 (W.plainGet_of hg).2 hf (zq35.mp ht) (by show (W.lookIn name od).map (·.isSome)=some false;rw [hl,hv];rfl) h
theorem qa{ns:List Str}{Q:Unit->Shared->Prop}(X:K.In s.heap)(I:ObjM s.heap x dx C mA)
  (hs:W.findIn K (.ref C) "__setattr__"=some (some (.builtin "object.__setattr__"))) (hp:W.plainOver K C=true) (ht:W.takerIn K C name=some none) (hh:W.hasDictIn K C=true)
  (hw:PySem.Within mA ns) (hsz:ns.length<=sizeLine)
  (h:∀h',ObjM h' x dx C (fun y=>if y=name then some v else mA y)->Heap.SameBut dx s.heap h'->Q () {s with heap:=h',toks:=s.toks+2}) :
  wpAny (model prog w) A (setAttr (.ref x) name v) Q E s:=by
 obtain ⟨od,J,hl⟩:=I.look;refine W.set_plain X J hs (W.osa_open (s:={s with toks:=s.toks+1}) (r:=none) X J hp ht fun b=>?_);obtain ⟨cd,hc,hd'⟩:=W.any_some hh;have hx:s.heap.get? x=some ⟨.ref C,some dx,.plain,#[]⟩:=I.obj;refine zq0 (zq3 (zq0 (zq0 (wpAny_loadPart hx (zq0 (W.Looks.here (s:={s with toks:=s.toks+1}) (W.looks_clsIn X hc) ?_))))));rw [hd'];refine zq3 (a:=some dx) (zq0 (zq3 (zq0 ?_)));refine wpAny_nsSet1 (s:={s with toks:=s.toks+1}) I.ns fun h' hn2 hs2=>?_;obtain ⟨oD,esD,epD,hoD,hdD,hcD⟩:=hn2.count (PySem.Within.cons name v hw);refine zq0 (wpAny_lookBehind hoD (by rw [hdD];exact pastItsLine_dict (bO hcD (by rw [bW];omega))) ?_);exact zq3 (h _ ⟨(hs2.2 _ (Ne.symm I.ne)).trans I.obj,hn2,I.ne⟩ hs2)
theorem mC{R:Result->Shared->Prop}{vs:List Value}{kw:List (Str×Value)}(X:K.In s.heap)(hm:W.makesIn K C=true)
  (hi:W.findIn K (.ref C) "__init__"=some (some (.ref f))) (hf:W.typeIn K (.ref f)=some (.type "function"))
  (h:codeAny (model prog w) (A.under (.builtin "type.__call__" ⟨.ref C::vs,kw⟩)) (.call (.ref f) ⟨.ref (s.heap.objs.size+1)::vs,kw⟩) (W.InitBack (s.heap.objs.size+1) R)
   {s with heap:=(s.heap.push W.emptyDict).push (W.instObj C s.heap.objs.size)}) :
  codeAny (model prog w) A (.call (.ref C) ⟨vs,kw⟩) R s:=by
 obtain ⟨hh,g,d,t,os⟩:=s;exact W.make_core (W.makes_of X hm) (W.looks_findIn X hi) (fun self=>W.bind_fn X self hf) (.inl rfl) h
end
def bT(f:Str)(v:V):List (Str×V)->List (Str×V)
 | []=>[(f,v)]
 | (g,x)::r=>if g=f then (g,v)::r else (g,x)::bT f v r
theorem dN(f g:Str)(v:V):∀fs:List (Str×V),(bT f v fs).lookup g=if g=f then some v else fs.lookup g
 | []=>by
  show List.lookup g [(f,v)]=_
  by_cases h:g=f
  ·have hb:(g==f)=true:=zq35.mpr h;simp only [List.lookup,hb,if_pos h]
  ·have hb:(g==f)=false:=beq_eq_false_iff_ne.mpr h;simp only [List.lookup,hb,if_neg h]
 | (k,x)::r=>by
  have ih:=dN f g v r;rw [show bT f v ((k,x)::r)=(if k=f then (k,v)::r else (k,x)::bT f v r) from rfl]
  by_cases hk:k=f
  ·rw [zq2 hk]
   by_cases h:g=k
   ·have hb:(g==k)=true:=zq35.mpr h;simp only [List.lookup,hb,if_pos (h.trans hk)]
   ·have hb:(g==k)=false:=beq_eq_false_iff_ne.mpr h;simp only [List.lookup,hb,if_neg (fun e:g=f=>h (e.trans hk.symm))]
  ·rw [zq1 hk]
   by_cases h:g=k
   ·have hb:(g==k)=true:=zq35.mpr h;simp only [List.lookup,hb,if_neg (fun e:g=f=>hk (h.symm.trans e))]
   ·have hb:(g==k)=false:=beq_eq_false_iff_ne.mpr h;simp only [List.lookup,hb];exact ih
theorem du(f:Str)(v:V):∀fs:List (Str×V),f∈(bT f v fs).map (·.1)/\∀g,g∈fs.map (·.1)->g∈(bT f v fs).map (·.1)
 | []=>⟨by simp [bT],fun g h=>by simp at h⟩
 | (k,x)::r=>by
  obtain ⟨i1,i2⟩:=du f v r;rw [show bT f v ((k,x)::r)=(if k=f then (k,v)::r else (k,x)::bT f v r) from rfl]
  by_cases hk:k=f
  ·rw [zq2 hk];subst hk;exact ⟨Jo,fun g h=>by simpa using h⟩
  ·rw [zq1 hk];refine ⟨?_,fun g h=>?_⟩
   ·rw [c5];exact bz _ i1
   ·rw [c5] at h ⊢;rcases zq8.mp h with e | e
    ·exact zq8.mpr (.inl e)
    ·exact bz _ (i2 g e)
theorem dM(f:Str)(v:V):∀fs:List (Str×V),(bT f v fs).length<=fs.length+1
 | []=>by simp [bT]
 | (k,x)::r=>by
  have ih:=dM f v r;rw [show bT f v ((k,x)::r)=(if k=f then (k,v)::r else (k,x)::bT f v r) from rfl]
  by_cases hk:k=f
  ·rw [zq2 hk,bW,bW];omega
  ·rw [zq1 hk,bW,bW];omega
theorem RelO.some_of{v:V}{o:Option Value}(r:RelO (some v) o):∃u,o=some u/\RelV v u:=by
 cases o with
 |none=>exact (show False from r).elim
 |some u=>exact zA u rfl r
theorem RelO.none_of{o:Option Value}(r:RelO none o):o=none:=by
 cases o with
 |none=>rfl
 |some u=>exact (show False from r).elim
theorem kH{v:V}{u:Value}(r:RelV v u):W.handedIn u=true:=by
 cases v with
 |non=>cases (show u=Value.none from r);rfl
 |bl b=>cases (show u=Value.bool b from r);rfl
 |int i=>obtain ⟨t,e⟩:=(show ∃t,u=Value.int i t from r);cases e;rfl
 |str x=>obtain ⟨t,e⟩:=(show ∃t,u=Value.str x t from r);cases e;rfl
 |byt b=>obtain ⟨t,e⟩:=(show ∃t,u=Value.bytes b t from r);cases e;rfl
 |flt b=>obtain ⟨t,e⟩:=(show ∃t,u=Value.float b t from r);cases e;rfl
 |ref a=>cases (show u=Value.ref a from r);rfl
 |ty n=>cases (show u=Value.type n from r);rfl
section
variable {P:Program} {w:World} {H H':Hp} {h h':Heap} {a C dx:Addr} {fs fs':List (Str×V)}
theorem gA(hok:HOk P w H h)(e:H a=some (.ins C dx fs)):∃mA,ObjM h a dx C mA/\(∀f,RelO (fs.lookup f) (mA f))/\PySem.Within mA (fs.map (·.1))/\fs.length<=1000/\H dx=some (.own a):=by
 obtain ⟨d,z,ne,ob,mA,n,r,q⟩:=(show ObjOk P w H h a (.ins C dx fs) from hok a _ e)
 exact zT mA ⟨ob,n,ne⟩ r q z d
end
structure Cls(K:W.Frag)(C:Addr):Prop where
 pg:W.plainGet K C Str.empty=true
 hd:W.hasDictIn K C=true
 po:W.plainOver K C=true
 sa:W.findIn K (.ref C) "__setattr__"=some (some (.builtin "object.__setattr__"))
theorem Cls.get{K:W.Frag}{C:Addr}(c:Cls K C)(f:Str):W.plainGet K C f=true:=c.pg
def NoAttr(K:W.Frag)(C:Addr)(f:Str):Prop:=W.findIn K (.ref C) f=some none
theorem NoAttr.taker{K:W.Frag}{C:Addr}{f:Str}(n:NoAttr K C f):W.takerIn K C f=some none:=by unfold W.takerIn;rw [show W.findIn K (.ref C) f=some none from n];rfl
structure ko(K:W.Frag)(C:Addr)(m:Str)(f:Addr):Prop where
 at_:W.findIn K (.ref C) m=some (some (.ref f))
 fn:W.isFn K (.ref f)=true
 kp:W.keepIn K (.ref f)=true
section
variable {X:Cx} {pins:List (Addr×Obj)} {σ:St} {H:Hp} {s:Shared} {a C dx:Addr} {fs:List (Str×V)} {f:Str} {v:V} {A:Around} {E:Value->Shared->Prop}
theorem iV{b:Bool}{Q:Value->Shared->Prop}(I:Inv X pins σ H s)(e:H a=some (.ins C dx fs))(c:Cls X.K C)(n:NoAttr X.K C f)(l:fs.lookup f=some v)
  (h:∀u s',Inv X pins σ H s'->RelV v u->Q u s'):wpAny (model X.prog X.w) A (getAttr (.ref a) f b) Q E s:=by
 obtain ⟨mA,O,r,_,_,_⟩:=gA I.hok e;obtain ⟨u,hu,ru⟩:=RelO.some_of (v:=v) (o:=mA f) (by rw [<- l];exact r f);exact p7 I.kIn O (c.get f) c.hd n hu (kH ru) (h u _ (I.tok _) ru)
theorem cW{m:Str}{g:Addr}{pl:Sem Bool}{Q:Value×List Value->Shared->Prop}(I:Inv X pins σ H s)(e:H a=some (.ins C dx fs))(c:Cls X.K C)(k:ko X.K C m g)(l:fs.lookup m=none)
  (h:Q (.ref g,[.ref a]) s):wpAny (model X.prog X.w) A (getMethod (.ref a) m pl) Q E s:=by
 obtain ⟨mA,O,r,_,_,_⟩:=gA I.hok e;have hn:mA m=none:=RelO.none_of (by rw [<- l];exact r m);exact mt I.kIn O (c.get m) k.at_ k.fn hn h
theorem jf{y:V}{u:Value}{Q:Unit->Shared->Prop}(I:Inv X pins σ H s)(e:H a=some (.ins C dx fs))(c:Cls X.K C)(n:NoAttr X.K C f)(hl:fs.length<1000)(ry:RelV y u)
  (h:∀s',Inv X pins σ (upd H a (.ins C dx (bT f y fs))) s'->Q () s'):wpAny (model X.prog X.w) A (setAttr (.ref a) f u) Q E s:=by
 obtain ⟨mA,O,r,wi,_,ho⟩:=gA I.hok e;have hz:(fs.map (·.1)).length<=sizeLine:=by rw [ck,bP];omega
 refine qa I.kIn O c.sa c.po n.taker c.hd wi hz fun h' O' sb=>h _ ?_;have hd:∃o,h'.get? dx=some o:=let ⟨o,_,_,e',_⟩:=O'.ns;⟨o,e'⟩;refine I.write (x:=a) (e:=dx) (by rw [e];exact True.intro) (.inr ho) (fun b q hb z=>(sb.2 b hb).trans z) hd ?_;refine zH (by rw [aj O.ne];exact ho) ?_ O.ne O'.obj (zD _ O'.ns (fun g=>?_) fun g hg=>?_)
 ·have:=dM f y fs;omega
 ·show RelO ((bT f y fs).lookup g) (if g=f then some u else mA g);rw [dN]
  by_cases q:g=f
  ·rw [zq2 q,zq2 q];exact ry
  ·rw [zq1 q,zq1 q];exact r g
 ·by_cases q:g=f
  ·rw [q];exact (du f y fs).1
  ·refine (du f y fs).2 g (wi g fun z=>hg ?_);show (if g=f then some u else mA g)=none;rw [zq1 q];exact z
theorem Inv.made(I:Inv X pins σ H s):Inv X pins σ (upd (upd H s.heap.objs.size (.own (s.heap.objs.size+1))) (s.heap.objs.size+1) (.ins C s.heap.objs.size []))
  {s with heap:=(s.heap.push W.emptyDict).push (W.instObj C s.heap.objs.size)}:=by
 have e1:(s.heap.push W.emptyDict).get? s.heap.objs.size=some W.emptyDict:=bV s.heap rfl;have e2:((s.heap.push W.emptyDict).push (W.instObj C s.heap.objs.size)).get? (s.heap.objs.size+1)=some (W.instObj C s.heap.objs.size):=by have:=bV (s.heap.push W.emptyDict) (o:=W.instObj C s.heap.objs.size) rfl;rwa [qy] at this
 have e3:(s.heap.push W.emptyDict).Ns s.heap.objs.size (fun _=>none):=zQ W.emptyDict (#[]) _ e1 rfl (fun e he=>absurd he Jo) fun _=>rfl
 have I1:=I.laid (a:=s.heap.objs.size) (o:=.own (s.heap.objs.size+1)) (h':=s.heap.push W.emptyDict) (t':=s.toks) (fun b u q=>zq9 _ q) (zq4 _) ⟨_,e1⟩;refine I1.laid (a:=s.heap.objs.size+1) (o:=.ins C s.heap.objs.size []) (t':=s.toks) (fun b u q=>zq9 _ q) (qz (qy _ _)) ?_;have ne:s.heap.objs.size≠s.heap.objs.size+1:=bU (ul _);refine zH (by rw [aj ne,ac]) (ce _) ne e2 (zD (fun _=>none) ((Heap.Ns1.of_empty e3).at fun o q=>zq9 _ q) (fun _=>True.intro) fun y hy=>absurd rfl hy)
theorem oP{prog:Program}{w:World}{env:Env}{e:Expr}{f:Str}{pos:Pos}{s:Shared}{Q:Value->Shared->Prop}(hb:attributeBase e f env (eval e env)=eval e env)
  (h:wpAny (model prog w) A (eval e env) (fun o s₁=>wpAny (model prog w) A (getAttr o f true) Q E s₁) E s):wpAny (model prog w) A (eval (.Attribute e f pos) env) Q E s:=
 Attribute_any_ h (by rw [arm_eval_Attribute,hb])
end
def vZ(K:W.Frag)(ta:TE)(f:Str):TE:=fun σ H Q=>ta σ H fun x H1=>∃a C dx fs v,x=.ref a/\H1 a=some (.ins C dx fs)/\Cls K C/\NoAttr K C f/\fs.lookup f=some v/\Q v H1
def vB(K:W.Frag)(ta tv:TE)(f:Str):TS:=fun D σ H=>tv σ H fun y H1=>ta σ H1 fun x H2=>∃a C dx fs,x=.ref a/\H2 a=some (.ins C dx fs)/\Cls K C/\NoAttr K C f/\fs.length<1000/\
 D.nx σ (upd H2 a (.ins C dx (bT f y fs)))
section
variable {X:Cx} {o e value:Expr} {f:Str} {pos pos' tpos:Pos} {ta tv:TE}
theorem qX{pl:Sem Bool}{m:Str}{apos:Pos}{args:List Expr}{pins:List (Addr×Obj)}{s:Shared}{σ:St}{H:Hp}{Q:Value->Shared->Prop}{te:TE}(he:PE X e te)(I:Inv X pins σ H s)
  (h:te σ H fun x H1=>∃a C dx fs g,x=.ref a/\H1 a=some (.ins C dx fs)/\Cls X.K C/\ko X.K C m g/\fs.lookup m=none/\
   ∀s1,Inv X pins σ H1 s1->wpAny (model X.prog X.w) X.A (callWith pos (.ref g) [.ref a] (backTo pos (starEach args X.env)) (backToKw pos (keywordEach [] X.env))) Q X.xe s1)
  (ht:eval (.Call (.Attribute e m apos) args [] pos) X.env=(do
   let ov <- eval e X.env
   standAt apos.atName
   let (f,first) <- holding [ov] (getMethod ov m pl)
   callWith pos f first (backTo pos (starEach args X.env)) (backToKw pos (keywordEach [] X.env)))) :
  wpAny (model X.prog X.w) X.A (eval (.Call (.Attribute e m apos) args [] pos) X.env) Q X.xe s:=by
 refine W.methodCall_KW (pl:=pl) (thn (he pins s σ H _ I h) fun u s1 hhx=>?_) ht;obtain ⟨x,H1,I1,rx,a,C,dx,fs,g,ex,ea,c,k,l,q⟩:=hhx;subst ex;obtain rfl:u=Value.ref a:=rx;exact cW I1 ea c k l (q s1 I1)
end
section
variable {X:Cx} {pins:List (Addr×Obj)} {σ:St} {H:Hp} {s:Shared} {A:Around} {E:Value->Shared->Prop} {Q:Value->Shared->Prop} {c:Value} {b:Bool}
end
end L2
namespace L2
structure Room(k:Nat)(A:Around):Prop where
 hd:A.handled=none
 dp:A.depth+3 * k+5<recursionLimit
 un:A.units+16 * k+200<cLine
theorem Room.mono{j k:Nat}{A:Around}(r:Room k A)(h:j<=k):Room j A:=⟨r.hd,by have:=r.dp;omega,by have:=r.un;omega⟩
theorem Room.m{n m:Nat}{A:Around}(h:Room n A)(l:m<=n:=by first | decide | omega):Room m A:=h.mono l
theorem Room.deeper{k:Nat}{A:Around}(r:Room (k+1) A)(env:Env):Room k (A.deeper env):=
 ⟨r.hd,by have:=r.dp;show A.depth+1+3 * k+5<_;omega,by have:=r.un;show A.units+3+16 * k+200<_;omega⟩
theorem iX{A:Around}{C:Addr}{us:List Value}{kw:List (Str×Value)}:(A.under (.builtin "type.__call__" ⟨.ref C::us,kw⟩)).depth=A.depth+1:=by first | rfl | simp [Around.under,Code.weight,Code.isCreation,Code.isGuard,Code.isCaller,Code.frames,Code.isFrame,guardIds]
theorem iY{A:Around}{C:Addr}{us:List Value}{kw:List (Str×Value)}:(A.under (.builtin "type.__call__" ⟨.ref C::us,kw⟩)).units=A.units+1:=by first | rfl | simp [Around.under,Code.cUnits,Code.frames,Code.isFrame]
theorem Room.make{k:Nat}{A:Around}(r:Room (k+1) A)(C:Addr)(us:List Value)(kw:List (Str×Value)):Room k (A.under (.builtin "type.__call__" ⟨.ref C::us,kw⟩)):=
 ⟨r.hd,by have:=r.dp;rw [iX];omega,by have:=r.un;rw [iY];omega⟩
theorem Room.depth{k:Nat}{A:Around}(r:Room k A):A.depth<recursionLimit:=by have:=r.dp;omega
theorem Room.units{k:Nat}{A:Around}(r:Room k A):A.units+64<cLine:=by have:=r.un;omega
def lu:TA:=fun _ H Q=>Q [] H
def nU(ta:TE)(tr:TA):TA:=fun σ H Q=>ta σ H fun x H1=>tr σ H1 fun xs H2=>Q (x::xs) H2
section
variable {X:Cx} {e:Expr} {es:List Expr} {te:TE} {t:TA} {pos:Pos}
theorem mX:PA X [] lu:=fun _ _ _ _ H Q I h=>Calls.spliced_nil (zB ([]) H I .nil h)
theorem jN(ha:PE X e te)(hr:PA X es t)(hs:starEach (e::es) X.env=(false,eval e X.env)::starEach es X.env:=by rfl):PA X (e::es) (nU te t):=by intro pos pins s σ H Q I h;rw [hs];show wpAny _ _ (spliced ((false,eval e X.env)::backTo pos (starEach es X.env))) _ _ s;refine Calls.spliced_cons (thn (ha pins s σ H _ I h) fun u s1 hhx=>?_);obtain ⟨x,H1,I1,r1,q1⟩:=hhx;exact thn (hr pos pins s1 σ H1 _ I1 q1) fun us s2 ⟨xs,H2,I2,r2,q2⟩=>zB (x::xs) H2 I2 (.cons r1 r2) q2
def we(t:TA):TE:=fun σ H Q=>t σ H fun xs H1=>xs.length<=sizeLine/\∀p,H1 p=none->Q (.ref p) (upd H1 p (.tup xs))
def w6(t:TA):TE:=fun σ H Q=>t σ H fun xs H1=>xs.length<=sizeLine/\∀p,H1 p=none->Q (.ref p) (upd H1 p (.lst xs))
end
abbrev Sp:=List V->Hp->VK->XK->Prop
abbrev CXT:=List Env->Hp->Shared->XK->Value->Shared->Prop
structure Env0(P:Program)(w:World)(K:W.Frag)(mg:Str->Option Value)(base:Heap)(A:Around)(outer:List Env)(s:Shared)(H:Hp):Prop where
 frames:A.frames=some outer
 mod:Mod K mg base
 bs:∀b o,base.get? b=some o->s.heap.get? b=some o/\H b=none
 bsz:base.objs.size<=s.heap.objs.size
 funs:s.heap.FunFrames base outer
 frf:∀b∈frs outer,H b=none
 hok:HOk P w H s.heap
 bare:AllBare s.gens
def CE(outer:List Env)(P:Program)(w:World)(H:Hp)(s:Shared)(Q:VK)(u:Value)(s':Shared):Prop:=
 ∃v H',s'.os=s.os/\AllBare s'.gens/\Un (frs outer) [] H H' s.heap s'.heap/\HOk P w H' s'.heap/\RelV v u/\Q v H'
def CR(CX:CXT)(outer:List Env)(P:Program)(w:World)(H:Hp)(s:Shared)(Q:VK)(E:XK)(r:Result)(s':Shared):Prop:=
 match r with
 | .ok (.ret u)=>CE outer P w H s Q u s'
 | .ok _=>False
 | .error e=>CX outer H s E e s'
structure FnOk(P:Program)(w:World)(K:W.Frag)(mg:Str->Option Value)(base:Heap)(CX:CXT)(k:Nat)(f:Addr)(fd:FuncData)(ps:List Str)(sp:Sp):Prop where
 len:∀vs H Q E,sp vs H Q E->vs.length=ps.length
 run:∀(A:Around)(outer:List Env)(s:Shared)(H:Hp)(args:Args)(us:List Value)(vs:List V)(Q:VK)(E:XK),Room k A->Env0 P w K mg base A outer s H->BindsTo s fd args (ps.zip us)->Vals vs us->sp vs H Q E->
  codeAny (model P w) A (.call (.ref f) args) (CR CX outer P w H s Q E) s
theorem FnOk.mono{P:Program}{w:World}{K:W.Frag}{mg:Str->Option Value}{base:Heap}{CX:CXT}{j k:Nat}{f:Addr}{fd:FuncData}{ps:List Str}{sp:Sp}(F:FnOk P w K mg base CX j f fd ps sp)(h:j<=k):
  FnOk P w K mg base CX k f fd ps sp:=⟨F.len,fun A outer s H args us vs Q E hr=>F.run A outer s H args us vs Q E (hr.mono h)⟩
theorem Env0.make{P:Program}{w:World}{K:W.Frag}{mg:Str->Option Value}{base:Heap}{A:Around}{outer:List Env}{s:Shared}{H:Hp}(e:Env0 P w K mg base A outer s H)(C:Addr)(us:List Value)(kw:List (Str×Value)):
  Env0 P w K mg base (A.under (.builtin "type.__call__" ⟨.ref C::us,kw⟩)) outer s H:=⟨by first | exact e.frames | (simpa [Around.under,Code.envs,Code.isFrame,pushEnvs] using e.frames),e.mod,e.bs,e.bsz,e.funs,e.frf,e.hok,e.bare⟩
section
variable {X:Cx} {pins:List (Addr×Obj)} {σ:St} {H:Hp} {s s':Shared}
theorem Inv.env0(I:Inv X pins σ H s):Env0 X.prog X.w X.K X.mg X.base X.A X.stack s H:=
 ⟨I.ok.frames,I.ok.mod,I.bs,bO I.ok.bsz I.sz,I.stack,I.stkFree,I.hok,I.bare⟩
theorem Inv.after{Q:VK}{u:Value}(I:Inv X pins σ H s)(h:CE X.stack X.prog X.w H s Q u s'):EP X pins σ Q u s':=by obtain ⟨v,H',os,bare,un,hok,r,q⟩:=h;obtain ⟨hh,g,d,t,os'⟩:=s';obtain rfl:os'=s.os:=os;exact zB v H' (I.call (h':=hh) (g':=g) (d':=d) (t':=t) (ch:=[]) un hok bare (fun b z=>absurd z Jo)) r q
end
def iC(sp:Sp)(dvs:List V)(E:XK)(t:TA):TE:=fun σ H Q=>t σ H fun vs H1=>sp (vs++dvs) H1 Q E
def dg(C:Addr)(m:Str)(sp:Sp)(dvs:List V)(E:XK)(ta:TE)(t:TA):TE:=fun σ H Q=>ta σ H fun x H1=>∃a dx fs,x=.ref a/\H1 a=some (.ins C dx fs)/\fs.lookup m=none/\
 t σ H1 fun vs H2=>sp (x::(vs++dvs)) H2 Q E
def iD(C:Addr)(sp:Sp)(dvs:List V)(E:XK)(t:TA):TE:=fun σ H Q=>t σ H fun vs H1=>∀x dx,H1 x=none->H1 dx=none->dx≠x->
 sp (.ref x::(vs++dvs)) (upd (upd H1 dx (.own x)) x (.ins C dx [])) (fun v H2=>v=.non/\Q (.ref x) H2) E
def Binds(K:W.Frag)(fd:FuncData)(ps:List Str)(ds:List Value):Prop:=
 ∀(s:Shared)(us:List Value),K.In s.heap->(us++ds).length=ps.length->BindsTo s fd ⟨us,[]⟩ (ps.zip (us++ds))
theorem Binds.all{K:W.Frag}{fd:FuncData}{ps:List Str}(h:∀us:List Value,us.length=ps.length->bindArgs fd ⟨us,[]⟩=pure (ps.zip us)):Binds K fd ps []:=fun s us _ hl=>by rw [qA] at hl ⊢;exact .of_eq (h us hl)
def cn(CX:CXT)(X:Cx)(E:XK):Prop:=∀(pins:List (Addr×Obj)) (σ:St) (H:Hp) (s:Shared) (e:Value) (s':Shared),Inv X pins σ H s->CX X.stack H s E e s'->X.xe e s'
section
variable {X:Cx} {CX:CXT} {k:Nat} {f C:Addr} {fd:FuncData} {ps:List Str} {sp:Sp} {dvs:List V} {ds:List Value} {E:XK} {x m:Str} {p pos apos:Pos} {e o:Expr} {es:List Expr} {ta:TE} {t:TA}
theorem je{pins:List (Addr×Obj)}{σ:St}{H:Hp}{s:Shared}{Q:VK}{us:List Value}{vs:List V}(F:FnOk X.prog X.w X.K X.mg X.base CX k f fd ps sp)(hr:Room k X.A)(hb:Binds X.K fd ps ds)(hd:Vals dvs ds)(hx:cn CX X E)
  (I:Inv X pins σ H s) (r:Vals vs us) (h:sp (vs++dvs) H Q E):wpAny (model X.prog X.w) X.A (call (.ref f) us) (EP X pins σ Q) X.xe s:=by
 have r2:Vals (vs++dvs) (us++ds):=r.append hd;have hl:(us++ds).length=ps.length:=by rw [<- r2.length];exact F.len _ _ _ _ h
 refine wpAny_call (codeAny_mono (F.run X.A X.stack s H ⟨us,[]⟩ (us++ds) (vs++dvs) Q E hr I.env0 (hb s us I.kIn hl) r2 h) fun r s' hq=>?_)
 cases r with
 |error e=>exact hx pins σ H s e s' I hq
 |ok fl=>
  cases fl with
  |ret u=>exact I.after hq
  |next=>exact False.elim hq
  |brk=>exact False.elim hq
  |cont=>exact False.elim hq
theorem pG(F:FnOk X.prog X.w X.K X.mg X.base CX k f fd ps sp)(hr:Room k X.A)(hg:Gl X x)(hm:X.mg x=some (.ref f))(hk:W.keepIn X.K (.ref f)=true)(hb:Binds X.K fd ps ds)(hd:Vals dvs ds)(hx:cn CX X E)
  (ha:PA X (e::es) t) (hdb:(x==("__debug__":Str))=false:=by decide) (he:starEach (e::es) X.env=(false,eval e X.env)::starEach es X.env:=by rfl) (hpl:(backTo pos (starEach es X.env)).any (·.1)=false:=by rfl) :
  PE X (.Call (.Name x p) (e::es) [] pos) (iC sp dvs E t):=by
 intro pins s σ H Q I h;refine wpAny_Call_Name_kw (d7 I hg hm ?_ hdb);refine W.callWith_K (h₀:=X.base) I.ok.mod.kin hk (thn (ha pos pins s σ H _ I h) fun us s1 ⟨vs,H1,I1,r,q⟩=>⟨I1.kIn,?_⟩) he hpl;exact je F hr hb hd hx I1 r q
theorem jP{pl:Sem Bool}(he:PE X o ta)(c:Cls X.K C)(hm:ko X.K C m f)(F:FnOk X.prog X.w X.K X.mg X.base CX k f fd ps sp)(hr:Room k X.A)(hb:Binds X.K fd ps ds)(hd:Vals dvs ds)(hx:cn CX X E)(ha:PA X (e::es) t)
  (hst:starEach (e::es) X.env=(false,eval e X.env)::starEach es X.env:=by rfl) (hpl:(backTo pos (starEach es X.env)).any (·.1)=false:=by rfl)
  (ht:eval (.Call (.Attribute o m apos) (e::es) [] pos) X.env=(do
   let ov <- eval o X.env
   standAt apos.atName
   let (f,first) <- holding [ov] (getMethod ov m pl)
   callWith pos f first (backTo pos (starEach (e::es) X.env)) (backToKw pos (keywordEach [] X.env))):=by rfl) :
  PE X (.Call (.Attribute o m apos) (e::es) [] pos) (dg C m sp dvs E ta t):=by
 intro pins s σ H Q I h;refine W.methodCall_KW (pl:=pl) (thn (he pins s σ H _ I h) fun u s1 hhx=>?_) ht;obtain ⟨x,H1,I1,rx,a,dx,fs,ex,ea,l,q⟩:=hhx;subst ex;obtain rfl:u=Value.ref a:=rx;refine cW I1 ea c hm l ?_;refine W.callWith_K (first:=[.ref a]) (h₀:=X.base) I.ok.mod.kin hm.kp (thn (ha pos pins s1 σ H1 _ I1 q) fun us s2 ⟨vs,H2,I2,r,q2⟩=>⟨I2.kIn,?_⟩) hst hpl;exact je (us:=.ref a::us) (vs:=.ref a::vs) F hr hb hd hx I2 (.cons rfl r) q2
theorem nc{pl:Sem Bool}(he:PE X o ta)(c:Cls X.K C)(hm:ko X.K C m f)(F:FnOk X.prog X.w X.K X.mg X.base CX k f fd ps sp)(hr:Room k X.A)(hb:Binds X.K fd ps ds)(hd:Vals dvs ds)(hx:cn CX X E)
  (ht:eval (.Call (.Attribute o m apos) [] [] pos) X.env=(do
   let ov <- eval o X.env
   standAt apos.atName
   let (f,first) <- holding [ov] (getMethod ov m pl)
   callWith pos f first (backTo pos (starEach [] X.env)) (backToKw pos (keywordEach [] X.env))):=by rfl) :
  PE X (.Call (.Attribute o m apos) [] [] pos) (dg C m sp dvs E ta lu):=by
 intro pins s σ H Q I h;refine W.methodCall_KW (pl:=pl) (thn (he pins s σ H _ I h) fun u s1 hhx=>?_) ht;obtain ⟨x,H1,I1,rx,a,dx,fs,ex,ea,l,q⟩:=hhx;subst ex;obtain rfl:u=Value.ref a:=rx;refine cW I1 ea c hm l ?_;exact W.callWith_K0 (first:=[.ref a]) I1.kIn hm.kp (je (us:=[.ref a]) (vs:=[.ref a]) F hr hb hd hx I1 (.cons rfl .nil) q)
structure Mk(K:W.Frag)(C f:Addr):Prop where
 makes:W.makesIn K C=true
 init:W.findIn K (.ref C) "__init__"=some (some (.ref f))
 fn:W.isFn K (.ref f)=true
 kp:W.keepIn K (.ref C)=true
theorem nO{pins:List (Addr×Obj)}{σ:St}{H:Hp}{s:Shared}{Q:VK}{us:List Value}{vs:List V}(M:Mk X.K C f)(F:FnOk X.prog X.w X.K X.mg X.base CX k f fd ps sp)(hr:Room (k+1) X.A)(hb:Binds X.K fd ps ds)(hd:Vals dvs ds)
  (hx:cn CX X E) (I:Inv X pins σ H s) (r:Vals vs us)
  (h:∀x dx,H x=none->H dx=none->dx≠x->sp (.ref x::(vs++dvs)) (upd (upd H dx (.own x)) x (.ins C dx [])) (fun v H2=>v=.non/\Q (.ref x) H2) E) :
  wpAny (model X.prog X.w) X.A (call (.ref C) us) (EP X pins σ Q) X.xe s:=by
 have hq:=h (s.heap.objs.size+1) s.heap.objs.size (I.hok.fresh (Nat.le_succ _)) (I.hok.fresh (zq4 _)) (bU (ul _));have I2:=Inv.made (C:=C) I;have r2:Vals (V.ref (s.heap.objs.size+1)::(vs++dvs)) (Value.ref (s.heap.objs.size+1)::(us++ds)):=.cons rfl (r.append hd);have hl:(Value.ref (s.heap.objs.size+1)::us++ds).length=ps.length:=by have e:=r2.length;rw [F.len _ _ _ _ hq] at e;exact e.symm
 refine wpAny_call (mC (f:=f) I.kIn M.makes M.init (zq35.mp M.fn) (codeAny_mono (F.run _ X.stack _ _ ⟨Value.ref (s.heap.objs.size+1)::us,[]⟩ (Value.ref (s.heap.objs.size+1)::(us++ds)) _ _ E (hr.make C us [])
  (I2.env0.make C us []) (hb _ (Value.ref (s.heap.objs.size+1)::us) I2.kIn hl) r2 hq) fun r s' hq'=>?_))
 cases r with
 |error e=>exact hx pins σ _ _ e s' I2 hq'
 |ok fl=>
  cases fl with
  |ret u=>
   obtain ⟨v,H',I3,rv,ev,q3⟩:=I2.after hq';subst ev;exact ⟨rv,zB (V.ref (s.heap.objs.size+1)) H' I3 rfl q3⟩
  |next=>exact False.elim hq'
  |brk=>exact False.elim hq'
  |cont=>exact False.elim hq'
theorem pI(M:Mk X.K C f)(F:FnOk X.prog X.w X.K X.mg X.base CX k f fd ps sp)(hr:Room (k+1) X.A)(hg:Gl X x)(hm:X.mg x=some (.ref C))(hb:Binds X.K fd ps ds)(hd:Vals dvs ds)(hx:cn CX X E)
  (ha:PA X (e::es) t) (hdb:(x==("__debug__":Str))=false:=by decide) (he:starEach (e::es) X.env=(false,eval e X.env)::starEach es X.env:=by rfl) (hpl:(backTo pos (starEach es X.env)).any (·.1)=false:=by rfl) :
  PE X (.Call (.Name x p) (e::es) [] pos) (iD C sp dvs E t):=by
 intro pins s σ H Q I h;refine wpAny_Call_Name_kw (d7 I hg hm ?_ hdb);refine W.callWith_K (h₀:=X.base) I.ok.mod.kin M.kp (thn (ha pos pins s σ H _ I h) fun us s1 ⟨vs,H1,I1,r,q⟩=>⟨I1.kIn,?_⟩) he hpl;exact nO M F hr hb hd hx I1 r q
end
section
variable {X:Cx} {CX:CXT} {k:Nat} {f C:Addr} {fd:FuncData} {ps ks:List Str} {sp:Sp} {E:XK} {x m:Str} {p pos apos kpos:Pos} {e o:Expr} {es:List Expr} {kws:List Keyword} {te ta:TE} {t tk:TA} {nm:Option Str}
variable {g:List Value->List Value->List Value} {gV:List V->List V->List V}
end
structure az(N P:List Str)(sc:Scope):Prop where
 kind:sc.kind=.function
 co:sc.isCoroutine=false
 gen:sc.isGenerator=false
 nd:N.Nodup
 pre:N.take P.length=P
 par:∀x∈P,sc.names.lookup x=some .local\/sc.names.lookup x=some .cell
 nofree:∀y∈sc.names,y.2≠.free
theorem fG{kindOf:Str->Option NameKind}{x:Str}:∀{binds:List (Str×Value)} {m:Str->Option Value},(∀v,(x,v)∉binds)->bindL kindOf binds m x=m x
 | [],_,_=>rfl
 | (n,v)::r,m,h=>by
  unfold bindL;rw [fG fun w hw=>h w (bz _ hw)]
  split
  ·have:x≠n:=by rintro rfl;exact h v cC
   simp [this]
  ·rfl
theorem fE{kindOf:Str->Option NameKind}{x:Str}:∀{binds:List (Str×Value)} {m:Str->Option Value},(∀v,(x,v)∉binds)->bindC kindOf binds m x=m x
 | [],_,_=>rfl
 | (n,v)::r,m,h=>by
  unfold bindC;rw [fE fun w hw=>h w (bz _ hw)]
  split
  ·rfl
  ·have:x≠n:=by rintro rfl;exact h v cC
   simp [this]
theorem fF{kindOf:Str->Option NameKind}{x:Str}{v:Value}:∀{P:List Str} {vs:List Value} {i:Nat} {m:Str->Option Value},P.Nodup->P[i]?=some x->vs[i]?=some v->kindOf x=some .local->
  bindL kindOf (P.zip vs) m x=some v
 | [],_,_,_,_,h,_,_=>by simp at h
 |_::_,[],_,_,_,_,h,_=>by simp at h
 |p::P,w::vs,0,m,nd,h1,h2,hk=>by
  simp at h1 h2;subst h1;subst h2;show bindL kindOf ((p,w)::P.zip vs) m p=_;unfold bindL;rw [fG fun v hv=>(zq30.mp nd).1 (um hv).1,zq2 hk];simp
 |p::P,w::vs,i+1,m,nd,h1,h2,hk=>by show bindL kindOf ((p,w)::P.zip vs) m x=_;unfold bindL;exact fF (i:=i) (zq30.mp nd).2 (by simpa using h1) (by simpa using h2) hk
theorem fD{kindOf:Str->Option NameKind}{x:Str}{v:Value}:∀{P:List Str} {vs:List Value} {i:Nat} {m:Str->Option Value},P.Nodup->P[i]?=some x->vs[i]?=some v->kindOf x≠some .local->
  bindC kindOf (P.zip vs) m x=some v
 | [],_,_,_,_,h,_,_=>by simp at h
 |_::_,[],_,_,_,_,h,_=>by simp at h
 |p::P,w::vs,0,m,nd,h1,h2,hk=>by
  simp at h1 h2;subst h1;subst h2;show bindC kindOf ((p,w)::P.zip vs) m p=_;unfold bindC;rw [fE fun v hv=>(zq30.mp nd).1 (um hv).1,zq1 hk];simp
 |p::P,w::vs,i+1,m,nd,h1,h2,hk=>by show bindC kindOf ((p,w)::P.zip vs) m x=_;unfold bindC;exact fD (i:=i) (zq30.mp nd).2 (by simpa using h1) (by simpa using h2) hk
def aM(N:List Str)(vs:List V):St:=vs.map some++List.replicate (N.length-vs.length) none
def cL(CX:CXT)(P:Program)(w:World)(K:W.Frag)(mg:Str->Option Value)(base:Heap)(N:List Str)(qual:Str)(scope:Scope)(f:Addr)(cd:Value)(A:Around)(outer:List Env)(s:Shared)(H:Hp)(E:XK):Cx where
 prog:=P
 w:=w
 K:=K
 mg:=mg
 base:=base
 A:=A.deeper (envOfC qual scope s.heap.objs.size f cd)
 N:=N
 s₀:=s
 H₀:=H
 env:=envOfC qual scope s.heap.objs.size f cd
 outer:=outer
 stack:=envOfC qual scope s.heap.objs.size f cd::outer
 ex:=[]
 calm:=true
 fn:=fun _=>true
 pn:=[]
 xe:=fun e s'=>wpAny (model P w) (A.deeper (envOfC qual scope s.heap.objs.size f cd)) (leaving (envOfC qual scope s.heap.objs.size f cd) e) (fun _ s''=>CX outer H s E e s'') (fun e' s''=>CX outer H s E e' s'') s'
theorem gR{sc:Scope}{n:Nat}{x:Str}(h:sc.names.lookup x=some .cell):∃c,(cellsFrom n sc.names []).lookup x=some c:=by have q:=W.cellsFrom_some sc.names n [] (.inl h);exact zq99.mp q
theorem kK{CX:CXT}{P:Program}{w:World}{K:W.Frag}{mg:Str->Option Value}{base:Heap}{N ps:List Str}{qual:Str}{scope:Scope}{f:Addr}{cd:Value}{A:Around}{outer:List Env}{s s1:Shared}{H:Hp}{E:XK}{us:List Value}{vs:List V}
  (S:az N ps scope) (hd:A.handled=none) (e0:Env0 P w K mg base A outer s H) (hl:vs.length=ps.length) (r:Vals vs us)
  (x:InCallC s s.heap.objs.size (bindL (envOfC qual scope s.heap.objs.size f cd).kindOf (ps.zip us) fun _=>none) (cellsFrom (s.heap.objs.size+1) scope.names []) (bindC (envOfC qual scope s.heap.objs.size f cd).kindOf (ps.zip us) fun _=>none) s1) :
  Inv (cL CX P w K mg base N qual scope f cd A outer s H E) [] (aM N vs) H s1:=by
 have hpl:ps.length<=N.length:=by have:=congrArg List.length S.pre;rw [lJ] at this;omega
 obtain ⟨h1,tk,rfl,hk⟩:=x.done;have noA:∀b:Addr,b∉(cL CX P w K mg base N qual scope f cd A outer s H E).ex:=fun b z=>absurd (show b∈([]:List Addr) from z) Jo;refine ⟨⟨e0.mod,S.kind,rfl,rfl,zq4 _,fun y z c h1 h2=>?_,fun y hy=>?_,fun y c _ h=>?_,fun _=>hd,Around.frames_deeper e0.frames,.inr ⟨rfl,rfl⟩,fun b z=>absurd z (noA b),e0.bs,e0.bsz,fun b _ _=>noA b,fun b z=>absurd z (noA b),e0.funs,e0.frf⟩,
  rfl,e0.bare,Un.kept hk,zA _ x.toInCall.ns fun i y v h1 h2 h3=>?_,fun y c h=>⟨_,x.cell y c h⟩,e0.hok.fresh (zq4 _),fun y c h=>?_,fun p hp=>absurd (show p∈([]:List (Addr×Obj)) from hp) Jo,e0.hok.kept hk,?_⟩
 ·exact name_of_addr x.apart (PySem.mem_of_lookup h1) (PySem.mem_of_lookup h2)
 ·have hy:scope.names.lookup y=some .cell\/scope.names.lookup y=some .free:=hy;rcases hy with hy | hy
  ·exact gR hy
  ·exact absurd rfl (S.nofree _ (PySem.mem_of_lookup hy))
 ·exact qu (x.above y c (PySem.mem_of_lookup h))
 ·have hi:i<vs.length:=by
   unfold aM at h2
   by_cases hi:i<vs.length
   ·exact hi
   ·rw [uo (by simpa using hi)] at h2;rw [rD] at h2
    split at h2<;>cases h2
  have ha:vs[i]?=some v:=by
   unfold aM at h2;rw [rE (by simpa using hi),jm] at h2
   cases e:vs[i]? with
   |none=>rw [e] at h2;cases h2
   |some a=>rw [e] at h2;cases h2;rfl
  obtain ⟨u,hu,rv⟩:=r.get ha;have hp:ps[i]?=some y:=by rw [<- S.pre,List.getElem?_take_of_lt Jn];exact h1
  have ndP:ps.Nodup:=by rw [<- S.pre];exact S.nd.sublist (List.take_sublist _ _)
  refine zA u rv ?_;rcases S.par y (lK hp) with k | k
  ·exact .inl ⟨k,fF ndP hp hu k⟩
  ·obtain ⟨c,e⟩:=gR (n:=s.heap.objs.size+1) k;refine .inr ⟨.inl k,zA c e ?_⟩;have q:=x.cell y c e;rw [fD ndP hp hu (by show scope.names.lookup y≠_;rw [k];decide)] at q;exact q
 ·exact e0.hok.fresh (qu (x.above y c (PySem.mem_of_lookup h)))
 ·unfold aM;show _=N.length;rw [fB,ck,rF];omega
theorem qR{CX:CXT}{P:Program}{w:World}{K:W.Frag}{mg:Str->Option Value}{base:Heap}{k:Nat}{f:Addr}{name qual:Str}{params:Arguments}{body:List Stmt}{scope:Scope}{dV kV doc pm cdv ct oc:Value}{an od:Option Addr}
  {osl:Array (Option Value)} {N ps:List Str} {sp:Sp} (lk:K.lookup f=some ⟨oc,od,.func (W.fnOf name qual params body scope dV kV doc pm an cdv ct),osl⟩) (hcd:W.codeIn K cdv qual=true) (S:az N ps scope)
  (len:∀vs H Q E,sp vs H Q E->vs.length=ps.length)
  (hbody:∀(A:Around)(outer:List Env)(s:Shared)(H:Hp)(vs:List V)(Q:VK)(E:XK),Room k (A.deeper (envOfC qual scope s.heap.objs.size f cdv))->sp vs H Q E->
   ∃t,PSs (cL CX P w K mg base N qual scope f cdv A outer s H E) body t/\t {nx:=fun _ H'=>Q .non H',rt:=Q} (aM N vs) H) :
  FnOk P w K mg base CX (k+1) f (W.fnOf name qual params body scope dV kV doc pm an cdv ct) ps sp:=by
 refine ⟨len,fun A outer s H args us vs Q E hr e0 hb r hsp=>?_⟩;have hl:=len _ _ _ _ hsp;have KX:K.In s.heap:=e0.mod.kin.keeps fun b o e=>(e0.bs b o e).1;have lim:s.heap.NoLimit:=e0.mod.nolimit.keeps fun b o e=>(e0.bs b o e).1;have hkind:∀y∈ps.zip us,scope.names.lookup y.1=some .local\/(scope.names.lookup y.1=some .cell/\((cellsFrom (s.heap.objs.size+1) scope.names []).lookup y.1).isSome=true):=fun ⟨n,v⟩ hy=>by
  rcases S.par n (um hy).1 with q | q
  ·exact .inl q
  ·exact .inr ⟨q,W.cellsFrom_some _ _ _ (.inl q)⟩
 refine codeAny_call_function hr.depth (KX _ _ lk) rfl S.co S.gen rfl (W.codeRec_of KX hcd) (hb _ _ _ _ ?_);refine wpAny_newFunctionEnv_cells S.kind hkind fun env he s1 x=>?_;subst he;refine ⟨lim.keeps x.toInCall.keep,codeAny_func ?_⟩;obtain ⟨t,ht,hq⟩:=hbody A outer s H vs Q E (hr.deeper _) hsp;have I:Inv (cL CX P w K mg base N qual scope f cdv A outer s H E) [] (aM N vs) H s1:=kK S hr.hd e0 hl r x;refine cD (ht [] s1 (aM N vs) H _ I hq) (fun fl s' hs=>?_) fun e s' hs=>hs;have fin:∀{σ':St} {H':Hp} {v:V} {u:Value},Inv (cL CX P w K mg base N qual scope f cdv A outer s H E) [] σ' H' s'->RelV v u->Q v H'->CE outer P w H s Q u s':=
  fun {σ' H' v u} J rv q=>zY v H' J.os J.bare J.base J.hok rv q
 cases fl with
 |ret u=>
  obtain ⟨v,σ',H',J,rv,q⟩:=hs;exact fin J rv q
 |next=>
  obtain ⟨σ',H',J,q⟩:=hs;exact fin (v:=V.non) (u:=Value.none) J rfl q
 |brk=>
  obtain ⟨_,_,_,q⟩:=hs;exact False.elim q
 |cont=>obtain ⟨_,_,_,q⟩:=hs;exact False.elim q
end L2
namespace L2
section
variable {X:Cx} {x:Str} {p pos:Pos} {e:Expr} {es:List Expr} {t:TA} {id T:String} {r:List V->Hp->VK->Prop}
def tCB(r:List V->Hp->VK->Prop)(t:TA):TE:=fun σ H Q=>t σ H fun vs H1=>r vs H1 Q
theorem mY(hc:cf X (.builtin id) r)(hg:Gl X x)(hm:X.mg x=none)(hv:bootBuiltins x=some (.builtin id))(ha:PA X (e::es) t)(hn:x≠"__name__":=by decide) (hdb:(x==("__debug__":Str))=false:=by decide)
  (he:starEach (e::es) X.env=(false,eval e X.env)::starEach es X.env:=by rfl) (hpl:(backTo pos (starEach es X.env)).any (·.1)=false:=by rfl):PE X (.Call (.Name x p) (e::es) [] pos) (tCB r t):=by
 intro pins s σ H Q I h;refine wpAny_Call_Name_kw (cX I hg hm hv ?_ hn hdb);exact PyProof.Rows.callWith_builtin1 (thn (ha pos pins s σ H _ I h) fun us s1 ⟨vs,H1,I1,r1,q1⟩=>hc pins s1 σ H1 vs us Q I1 r1 q1) he hpl
theorem kY(hc:cf X (.type T) r)(hg:Gl X x)(hm:X.mg x=none)(hv:bootBuiltins x=some (.type T))(ha:PA X (e::es) t)(hn:x≠"__name__":=by decide) (hdb:(x==("__debug__":Str))=false:=by decide)
  (he:starEach (e::es) X.env=(false,eval e X.env)::starEach es X.env:=by rfl) (hpl:(backTo pos (starEach es X.env)).any (·.1)=false:=by rfl):PE X (.Call (.Name x p) (e::es) [] pos) (tCB r t):=by
 intro pins s σ H Q I h;refine wpAny_Call_Name_kw (cX I hg hm hv ?_ hn hdb);exact PyProof.Rows.callWith_type1 (thn (ha pos pins s σ H _ I h) fun us s1 ⟨vs,H1,I1,r1,q1⟩=>hc pins s1 σ H1 vs us Q I1 r1 q1) he hpl
end
end L2
end
namespace HT
open PySem PyProof.Rows
section
open PySem.SeqAt
open PySem.AutoSeq1 (wpAny_loadPart')
open PySem.MeetsSeq PySem.MeetsSeq2 PySem.MeetsSeq3
end
section
variable {prog:Program} {w:World} {A:Around} {E:Value->Shared->Prop} {s:Shared}
def sIx(n d:Nat):Option Int->Nat
 |none=>d
 |some v=>if v<0 then (v+(n:Int)).toNat else min v.toNat n
theorem io(n d:Nat):sIx n d none=d:=rfl
theorem jW(n d k:Nat):sIx n d (some (k:Int))=min k n:=by show (if (k:Int)<0 then ((k:Int)+(n:Int)).toNat else min (k:Int).toNat n)=min k n;rw [zq1 Jn,gM]
theorem tS(n d:Nat)(hd:d<=n)(o:Option Int):sIx n d o<=n:=by
 cases o with
 |none=>exact hd
 |some v=>
  show (if v<0 then (v+(n:Int)).toNat else min v.toNat n)<=n
  by_cases hv:v<0
  ·rw [zq2 hv];omega
  ·rw [zq1 hv];exact Nat.min_le_right _ _
theorem jy(v:Int)(n d:Nat):(if v<0 then max (v+(n:Int)) 0 else min v (n:Int))=((sIx n d (some v):Nat):Int):=by
 show (if v<0 then max (v+(n:Int)) 0 else min v (n:Int))=(((if v<0 then (v+(n:Int)).toNat else min v.toNat n):Nat):Int)
 by_cases hv:v<0
 ·simp only [if_pos hv];omega
 ·simp only [if_neg hv];omega
theorem iO(lo hi:Option Int)(n:Nat):Builtin.Slice.sliceAdjust lo hi 1 (n:Int)=(((sIx n 0 lo:Nat):Int),((sIx n n hi:Nat):Int)):=by
 have h1:¬((1:Int)<0):=by omega
 unfold Builtin.Slice.sliceAdjust;simp only [h1,if_false];refine Prod.ext ?_ ?_
 ·cases lo with
  |none=>rfl
  |some v=>exact jy v n 0
 ·cases hi with
  |none=>rfl
  |some v=>exact jy v n n
theorem j9(i j:Nat):Builtin.Slice.slicePlaces (i:Int) (j:Int) 1=j-i:=by
 unfold Builtin.Slice.slicePlaces;have h1:(1:Int)>0:=by omega
 simp only [h1,if_true,Int.ediv_one]
 split<;>omega
theorem eZ{v:Value}{o:Option Int}{Q:Option Int->Shared->Prop}(p:IsPart v o)(h:Q o s):wpAny (model prog w) A (Builtin.Slice.slicePartIndex v) Q E s:=by
 cases p with
 |none=>exact slicePart_none h
 |int i t=>exact slicePart_int h
theorem dC{sl:Addr}{vl vu:Value}{lo hi:Option Int}{n:Nat}{Q:Int×Int×Nat->Shared->Prop}(hs:s.heap.IsSliceOf sl vl vu .none)(pl:IsPart vl lo)(pu:IsPart vu hi)
  (h:Q (((sIx n 0 lo:Nat):Int),1,sIx n n hi-sIx n 0 lo) s):wpAny (model prog w) A (Builtin.Slice.sliceApplied (.ref sl) (pure (n:Int))) Q E s:=by
 obtain ⟨os,hos,hcs,hds⟩:=id hs;unfold Builtin.Slice.sliceApplied Builtin.Slice.sliceFields;refine zq0 (zq0 (wpAny_field hos hds (x:=vl) rfl (zq0 (wpAny_field hos hds (x:=vu) rfl (zq0 (wpAny_field hos hds (x:=.none) rfl (zq3 ?_)))))));refine zq0 (slicePart_none ?_);show wpAny _ _ (if ((1:Int)==0)=true then _ else _) _ _ s;rw [zq1 Jm];refine zq0 (eZ pl (zq0 (eZ pu (zq0 (zq3 ?_)))));show wpAny _ _ (match Builtin.Slice.sliceAdjust lo hi 1 (n:Int) with | (lo,hi)=>pure (lo,(1:Int),Builtin.Slice.slicePlaces lo hi 1)) _ _ s;rw [iO lo hi n];show wpAny _ _ (pure (((sIx n 0 lo:Nat):Int),(1:Int),Builtin.Slice.slicePlaces ((sIx n 0 lo:Nat):Int) ((sIx n n hi:Nat):Int) 1)) _ _ s;rw [j9];exact zq3 h
theorem ni(xs:Array Value)(i k:Nat):((List.range k).filterMap fun (m:Nat)=>xs[((i:Int)+(m:Int) * 1).toNat]?).toArray=((xs.toList.drop i).take k).toArray:=by
 have e:(fun (m:Nat)=>xs[((i:Int)+(m:Int) * 1).toNat]?)=fun m=>xs[i+m]?:=by
  funext m
  have:((i:Int)+(m:Int) * 1).toNat=i+m:=by omega
  rw [this]
 rw [e];have:=pick_run xs i k;rw [List.filterMap_map] at this;have e2:((fun x=>xs[x]?) ∘ fun x=>i+x)=fun m=>xs[i+m]?:=rfl;rw [e2] at this;rw [this]
theorem d6{t sl:Addr}{items:Array Value}{vl vu:Value}{lo hi:Option Int}{Q:Value->Shared->Prop}(ht:IsTup s.heap t items)(hs:s.heap.IsSliceOf sl vl vu .none)(pl:IsPart vl lo)(pu:IsPart vu hi)
  (hw:¬(sIx items.size 0 lo=0/\sIx items.size items.size hi=items.size))
  (h:Q (.ref s.heap.objs.size) {s with heap:=s.heap.push {cls:=.type "tuple",data:=.seq ((items.toList.drop (sIx items.size 0 lo)).take (sIx items.size items.size hi-sIx items.size 0 lo)).toArray}})
  (hsz:items.size<=sizeLine):wpAny (model prog w) A (getItem (.ref t) (.ref sl)) Q E s:=by
 have htake:sizeOk (.seq ((items.toList.drop (sIx items.size 0 lo)).take (sIx items.size items.size hi-sIx items.size 0 lo)).toArray):=by show ((items.toList.drop (sIx items.size 0 lo)).take (sIx items.size items.size hi-sIx items.size 0 lo)).toArray.size<=sizeLine;rw [cN,lJ,List.length_drop,uq];omega
 have hj:sIx items.size items.size hi<=items.size:=tS _ _ (zq4 _) hi;obtain ⟨os,hos,hcs,hds⟩:=id hs;have hTs:s.TypeIs (.ref sl) "slice":=zA os hos hcs
 unfold getItem
 try with_reducible refine lL ?_
 first | refine zq0 (zq3 ?_) | skip
 refine zq0 (wpAny_sequenceKey ht.typeIs Jm ?_);refine zq0 (wpAny_callSpecial?_slot (name:=Str.ofString "__getitem__") ht.typeIs PyProof.Rows.slot_tuple_getitem
  (wpAny_call_entry PyProof.Rows.slot_tuple_getitem ht.typeIs entry_tuple_getitem ?_ (args_tuple_getitem _ _)))
 show wpAny _ _ (Builtin.Tuple.tupleItemsOf (.ref t) >>= _) _ _ s;refine zq0 (tupleItemsOf_ ht ?_);refine zq0 (wpAny_typeOf hTs ?_);rw [zq2 Jm];refine zq0 (dC hs pl pu ?_);have hno:¬((((sIx items.size 0 lo:Nat):Int)==0&&(1:Int)==1&&(sIx items.size items.size hi-sIx items.size 0 lo)==items.size)=true):=by intro q;rw [dn,dn] at q;have q1:((sIx items.size 0 lo:Nat):Int)=0:=eq_of_beq q.1.1;have q2:sIx items.size items.size hi-sIx items.size 0 lo=items.size:=eq_of_beq q.2;exact hw ⟨Jn,Jn⟩
 show wpAny _ _ (if (((sIx items.size 0 lo:Nat):Int)==0&&(1:Int)==1&&(sIx items.size items.size hi-sIx items.size 0 lo)==items.size)=true then _ else _) _ _ s;rw [zq1 hno,ni]
 first
  |exact zq0 (m:=Builtin.Tuple.tupleExact _) (wpAny_newObj_type (zq3 ⟨_,rfl,zq3 h⟩) htake)
  |exact zq0 (m:=Builtin.Tuple.tupleExact _) (wpAny_newObj_type (zq0 (zq3 (zq3 ⟨_,rfl,zq3 h⟩))) htake)
  |exact zq0 (zq0 (m:=Builtin.Tuple.tupleExact _) (wpAny_newObj_type (zq3 (zq3 ⟨_,rfl,zq3 h⟩)) htake))
  |exact zq0 (zq0 (m:=Builtin.Tuple.tupleExact _) (wpAny_newObj_type (zq3 ⟨_,rfl,zq3 h⟩) htake))
end
end HT
section
open PySem PySem.Spec PyProof.Rows
namespace L2
abbrev TO:=St->Hp->(Option Int->Hp->Prop)->Prop
def PO(X:Cx)(e:Option Expr)(t:TO):Prop:=
 ∀(pins:List (Addr×Obj)) (s:Shared) (σ:St) (H:Hp) (Q:Option Int->Hp->Prop),Inv X pins σ H s->t σ H Q->
  wpAny (model X.prog X.w) X.A (evalPart e X.env) (fun u s'=>∃o H',Inv X pins σ H' s'/\IsPart u o/\Q o H') X.xe s
def kg:TO:=fun _ H Q=>Q none H
def rB(t:TE):TO:=fun σ H Q=>t σ H fun x H1=>∃i,x=.int i/\Q (some i) H1
section
variable {X:Cx} {e:Expr} {te:TE} {lo hi:Option Expr} {tl th:TO} {pos p2:Pos}
def SlR(X:Cx)(r:V->Option Int->Option Int->Hp->VK->Prop):Prop:=
 ∀(pins:List (Addr×Obj)) (s:Shared) (σ:St) (H:Hp) (x:V) (v vl vu:Value) (lo hi:Option Int) (sl:Addr) (Q:VK),Inv X pins σ H s->RelV x v->s.heap.IsSliceOf sl vl vu .none->IsPart vl lo->IsPart vu hi->r x lo hi H Q->
  ∃T id,typeLookup (.type T) "__getitem__"=pure (some (.builtin id))/\s.TypeIs v T/\wpAny (model X.prog X.w) X.A (getItem v (.ref sl)) (EP X pins σ Q) X.xe s
def tSl(r:V->Option Int->Option Int->Hp->VK->Prop)(te:TE)(tl th:TO):TE:=fun σ H Q=>te σ H fun x H1=>tl σ H1 fun l H2=>th σ H2 fun u H3=>r x l u H3 Q
def cj(xs:List V)(lo hi:Option Int):List V:=(xs.drop (HT.sIx xs.length 0 lo)).take (HT.sIx xs.length xs.length hi-HT.sIx xs.length 0 lo)
theorem dH(xs:List V)(lo hi:Option Int):(cj xs lo hi).length<=xs.length:=by unfold cj;rw [lJ,List.length_drop];omega
def v4(K:W.Frag):V->Option Int->Option Int->Hp->VK->Prop:=fun x lo hi H Q=>∃a xs,x=.ref a/\SqT K H a xs/\
 ¬(HT.sIx xs.length 0 lo=0/\HT.sIx xs.length xs.length hi=xs.length)/\∀p,H p=none->Q (.ref p) (upd H p (.tup (cj xs lo hi)))
theorem nS:SlR X (v4 X.K):=by
 intro pins s σ H x v vl vu lo hi sl Q I rx hs pl pu h;obtain ⟨a,xs,rfl,hx,hw,q⟩:=h
 cases rx
 obtain ⟨its,r,ht,hz⟩:=I.tuple hx;have hlen:its.toArray.size=xs.length:=by rw [cN];exact r.length.symm
 refine zB ("tuple") _ PyProof.Rows.slot_tuple_getitem.lookup ht.typeIs ?_;refine HT.d6 ht hs pl pu (by rw [hlen];exact hw) ?_ (by rw [hlen];exact hz);rw [hlen];refine zB (.ref s.heap.objs.size) _ (I.laid (t':=s.toks) (o:=.tup (cj xs lo hi)) (fun b ob q=>zq9 _ q) (zq4 _) ?_) rfl (q _ (I.hok.fresh (zq4 _)));exact ⟨bO (dH xs lo hi) hz,zA _ ((r.drop (HT.sIx xs.length 0 lo)).take (HT.sIx xs.length xs.length hi-HT.sIx xs.length 0 lo)) (IsTup.new _ _)⟩
end
end L2
namespace L2
def ixN(n:Nat)(i:Int):Option Nat:=if 0<=i then (if i<n then some i.toNat else none) else if -(n:Int)<=i then some (i+n).toNat else none
def atI{α:Type}(xs:List α)(i:Int):Option α:=(ixN xs.length i).bind fun j=>xs[j]?
theorem p9{n:Nat}{i:Int}{j:Nat}(h:ixN n i=some j):seqIndex? i n=some j/\j<n/\-(n:Int)<=i/\i<n:=by
 unfold ixN at h
 by_cases h0:0<=i
 ·rw [zq2 h0] at h
  by_cases h1:i<n
  ·rw [zq2 h1] at h;have e:i.toNat=j:=Option.some.inj h;exact zG (by rw [seqIndex_of h0 h1,e]) Jn Jn h1
  ·rw [zq1 h1] at h;cases h
 ·rw [zq1 h0] at h
  by_cases h1:-(n:Int)<=i
  ·rw [zq2 h1] at h;have e:(i+n).toNat=j:=Option.some.inj h;exact zG (by rw [seqIndex_neg Jn h1,e]) Jn h1 Jn
  ·rw [zq1 h1] at h;cases h
theorem gj{α:Type}{xs:List α}{i:Int}{v:α}(h:atI xs i=some v):∃j,seqIndex? i xs.length=some j/\xs[j]?=some v/\j<xs.length/\-(xs.length:Int)<=i/\i<xs.length:=by
 unfold atI at h
 cases e:ixN xs.length i with
 |none=>rw [e] at h;cases h
 |some j=>rw [e] at h;obtain ⟨h1,h2,h3,h4⟩:=p9 e;exact zT j h1 h h2 h3 h4
theorem gk{α:Type}{xs:List α}{j:Nat}{v:α}(h:xs[j]?=some v):atI xs (j:Int)=some v:=by
 have hj:j<xs.length:=(zq25.mp h).1;have e:ixN xs.length (j:Int)=some j:=by unfold ixN;rw [zq2 Jn,zq2 Jn];simp
 unfold atI;rw [e];exact h
def oN(b:Expr):Prop:=∀o i,subscripted b false o i=operate [o,i] (getItem o i)
def IxR(X:Cx)(r:R2):Prop:=
 ∀(value slice:Expr)(pins:List (Addr×Obj)) (s:Shared) (σ:St) (H:Hp) (x y:V) (v u:Value) (Q:VK),Inv X pins σ H s->RelV x v->RelV y u->r x y H Q->
  subscripted slice false v u=operate [v,u] (getItem v u)->wpAny (model X.prog X.w) X.A (subscriptTail value slice v u) (EP X pins σ Q) X.xe s
def MtR(X:Cx)(id:String)(r:V->List V->Hp->VK->Prop):Prop:=
 ∀(pins:List (Addr×Obj)) (s:Shared) (σ:St) (H:Hp) (x:V) (xs:List V) (v:Value) (us:List Value) (Q:VK),Inv X pins σ H s->RelV x v->Vals xs us->r x xs H Q->
  wpAny (model X.prog X.w) X.A (call (.builtin id) (v::us)) (EP X pins σ Q) X.xe s
section
variable {X:Cx} {a b:Expr} {ta tb:TE} {pos:Pos}
def v0(K:W.Frag):R2:=fun x y H Q=>∃p xs i v,x=.ref p/\y=.int i/\SqL K H p xs/\atI xs i=some v/\Q v H
def v2(K:W.Frag):R2:=fun x y H Q=>∃p xs i v,x=.ref p/\y=.int i/\SqT K H p xs/\atI xs i=some v/\Q v H
def v1:R2:=fun x y H Q=>∃z i c,x=.str z/\y=.int i/\z.length<=sizeLine/\atI z.cps.toList i=some c/\Q (.str ⟨#[c]⟩) H
theorem aW:IxR X (v0 X.K):=by
 intro value slice pins s σ H x y v u Q I rx ry h hs;obtain ⟨p,xs,i,z,rfl,rfl,hq,he,q⟩:=h
 cases rx
 obtain ⟨t,rfl⟩:=ry;obtain ⟨its,r,pl,hz⟩:=I.list hq;obtain ⟨j,h1,h2,h3,h4,h5⟩:=gj he;obtain ⟨w,ew,rw'⟩:=r.get h2;have hl:=r.length;have hn:=gB;have fin:EP X pins σ Q w s:=zB z H I rw' q
 by_cases h0:0<=i
 ·have hj:i.toNat=j:=by rw [seqIndex_of h0 h5] at h1;exact Option.some.inj h1
  exact item_listR pl.isList h0 Jn (by rw [hj];simpa using ew) fin hs
 ·have hj:(i+(its.toArray.size:Int)).toNat=j:=by rw [seqIndex_neg Jn h4] at h1;rw [cN,<- hl];exact Option.some.inj h1
  exact subscriptTail_builtinR (x:=w) pl.isList.typeIs slot_list_getitem.lookup
   (wpAny_getItem_list_neg (Q:=fun r s'=>r=w/\EP X pins σ Q r s') pl.isList Jn (by rw [cN]<;>omega) Jn (by rw [hj];simpa using ew) ⟨rfl,fin⟩) hs
theorem aG:IxR X (v2 X.K):=by
 intro value slice pins s σ H x y v u Q I rx ry h hs;obtain ⟨p,xs,i,z,rfl,rfl,hq,he,q⟩:=h
 cases rx
 obtain ⟨t,rfl⟩:=ry;obtain ⟨its,r,pl,hz⟩:=I.tuple hq;obtain ⟨j,h1,h2,h3,h4,h5⟩:=gj he;obtain ⟨w,ew,rw'⟩:=r.get h2;have hl:=r.length;have hn:=gB;have fin:EP X pins σ Q w s:=zB z H I rw' q
 exact subscriptTail_builtinR (x:=w) pl.typeIs slot_tuple_getitem.lookup
  (getItem_tuple (j:=j) (Q:=fun r s'=>r=w/\EP X pins σ Q r s') pl Jn Jn (by rw [cN,<- hl];exact h1) (by simpa using ew) ⟨rfl,fin⟩) hs
theorem rY:IxR X v1:=by
 intro value slice pins s σ H x y v u Q I rx ry h hs;obtain ⟨z,i,c,rfl,rfl,hz,he,q⟩:=h;obtain ⟨t,rfl⟩:=rx;obtain ⟨t',rfl⟩:=ry;obtain ⟨j,h1,h2,h3,h4,h5⟩:=gj he;have hl:z.cps.toList.length=z.length:=by simp [Str.length]
 rw [hl] at h1 h4 h5;have hn:=gB;exact tail_any (typeIs_str s z t) slot_str_getitem.lookup (getItem_str (c:=c) (by have e1:decide (i < -(2 ^ 63:Int))=false:=zq7 Jn;have e2:decide (i ≥ 2 ^ 63)=false:=zq7 Jn;rw [e1,e2,Bool.or_false]) (by rw [h1];simpa using h2) (zB (.str ⟨#[c]⟩) H (I.tok _) ⟨_,rfl⟩ q)) hs
theorem gK(lo hi:Option Int)(n:Nat):(sliceBounds lo hi none n).1=((HT.sIx n 0 lo:Nat):Int)/\(sliceBounds lo hi none n).2.1=((HT.sIx n n hi:Nat):Int)/\(sliceBounds lo hi none n).2.2=1:=by
 refine zC ?_ ?_ rfl
 ·cases lo with
  |none=>simp [sliceBounds,HT.sIx]
  |some i=>
   simp only [sliceBounds,HT.sIx,Option.getD_none,show (1:Int)>0 by decide,if_true]
   by_cases h:i<0
   ·simp only [h,if_true]<;>omega
   ·simp only [h,if_false]<;>omega
 ·cases hi with
  |none=>simp [sliceBounds,HT.sIx]
  |some i=>
   simp only [sliceBounds,HT.sIx,Option.getD_none,show (1:Int)>0 by decide,if_true]
   by_cases h:i<0
   ·simp only [h,if_true]<;>omega
   ·simp only [h,if_false]<;>omega
theorem fA(its:List Value)(lo hi:Option Int):slicePick its.toArray lo hi none=((its.drop (HT.sIx its.length 0 lo)).take (HT.sIx its.length its.length hi-HT.sIx its.length 0 lo)).toArray:=by obtain ⟨h1,h2,h3⟩:=gK lo hi its.toArray.size;unfold slicePick;rw [h1,h2,h3];simp only [sliceRange_one,pick_run,List.size_toArray]<;>rfl
def v3(K:W.Frag):V->Option Int->Option Int->Hp->VK->Prop:=fun x lo hi H Q=>∃a xs,x=.ref a/\SqL K H a xs/\∀p,H p=none->Q (.ref p) (upd H p (.lst (cj xs lo hi)))
theorem eu:SlR X (v3 X.K):=by
 intro pins s σ H x v vl vu lo hi sl Q I rx hs pl pu h;obtain ⟨a,xs,rfl,hx,q⟩:=h
 cases rx
 obtain ⟨its,r,ht,hz⟩:=I.list hx;have hlen:=r.length;refine zB ("list") _ slot_list_getitem.lookup ht.isList.typeIs ?_;refine wpAny_getItem_list_slice ht.isList hs pl pu .none Jo ?_ (by rw [List.size_toArray]<;>omega);rw [fA,<- hlen];refine zB (.ref s.heap.objs.size) _ (I.laid (t':=s.toks) (o:=.lst (cj xs lo hi)) (fun b ob q=>zq9 _ q) (zq4 _) ?_) rfl (q _ (I.hok.fresh (zq4 _)));exact ⟨bO (dH xs lo hi) hz,zE _ 0 ((r.drop (HT.sIx xs.length 0 lo)).take (HT.sIx xs.length xs.length hi-HT.sIx xs.length 0 lo)) (bV _ rfl)⟩
def bi:V->Bool
 | .non=>true
 | .bl _=>true
 | .int _=>true
 | .str _=>true
 |_=>false
def eqV:V->V->Bool
 | .non,.non=>true
 | .bl a,.bl b=>a==b
 | .bl a,.int b=>(if a then 1 else 0)==b
 | .int a,.bl b=>a==(if b then 1 else 0)
 | .int a,.int b=>a==b
 | .str a,.str b=>a==b
 |_,_=>false
theorem gw{A:Around}{s:Shared}{y x:V}{u v:Value}(ry:RelV y u)(rx:RelV x v)(fy:bi y=true)(fx:bi x=true):SeqAt.EqAt A s u v (eqV y x):=by
 cases y with
 |non=>
  cases ry
  cases x with
  |non=>cases rx;exact SeqAt.EqAt.same _
  |bl b=>cases rx;exact SeqAt.EqAt.none_bool b
  |int b=>obtain ⟨t,rfl⟩:=rx;exact SeqAt.EqAt.none_int b t
  |str b=>obtain ⟨t,rfl⟩:=rx;exact SeqAt.EqAt.none_str b t
  |_=>exact absurd (show false=true from fx) zq6
 |bl a=>
  cases ry
  cases x with
  |non=>cases rx;exact SeqAt.EqAt.bool_none a
  |bl b=>cases rx;exact SeqAt.EqAt.bool_bool a b
  |int b=>obtain ⟨t,rfl⟩:=rx;exact SeqAt.EqAt.bool_int a b t
  |str b=>obtain ⟨t,rfl⟩:=rx;exact SeqAt.EqAt.bool_str a b t
  |_=>exact absurd (show false=true from fx) zq6
 |int a=>
  obtain ⟨t',rfl⟩:=ry
  cases x with
  |non=>cases rx;exact SeqAt.EqAt.int_none a t'
  |bl b=>cases rx;exact SeqAt.EqAt.int_bool a t' b
  |int b=>obtain ⟨t,rfl⟩:=rx;exact SeqAt.EqAt.int_int a t' b t
  |str b=>obtain ⟨t,rfl⟩:=rx;exact SeqAt.EqAt.int_str a t' b t
  |_=>exact absurd (show false=true from fx) zq6
 |str a=>
  obtain ⟨t',rfl⟩:=ry
  cases x with
  |non=>cases rx;exact SeqAt.EqAt.str_none a t'
  |bl b=>cases rx;exact SeqAt.EqAt.str_bool a t' b
  |int b=>obtain ⟨t,rfl⟩:=rx;exact SeqAt.EqAt.str_int a t' b t
  |str b=>obtain ⟨t,rfl⟩:=rx;exact SeqAt.EqAt.str_str a t' b t
  |_=>exact absurd (show false=true from fx) zq6
 |_=>exact absurd (show false=true from fy) zq6
def eqU(x:V)(u:Value):Bool:=match u with
 | .none=>eqV .non x
 | .bool b=>eqV (.bl b) x
 | .int i _=>eqV (.int i) x
 | .str z _=>eqV (.str z) x
 |_=>false
theorem mi{x y:V}{u:Value}(r:RelV y u)(f:bi y=true):eqU x u=eqV y x:=by
 cases y with
 |non=>cases r;rfl
 |bl b=>cases r;rfl
 |int i=>obtain ⟨t,rfl⟩:=r;rfl
 |str z=>obtain ⟨t,rfl⟩:=r;rfl
 |_=>exact absurd (show false=true from f) zq6
theorem gi{x:V}:∀{xs:List V} {us:List Value},Vals xs us->xs.all bi=true->us.any (eqU x)=xs.any fun y=>eqV y x
 |_,_,.nil,_=>rfl
 |y::xs,u::us,.cons r t,f=>by rw [oA,dn] at f;rw [lM,lM,mi r f.1,gi t f.2]
theorem eL{A:Around}{s:Shared}{x:V}{v:Value}(rx:RelV x v)(fx:bi x=true):∀{xs:List V} {us:List Value},Vals xs us->xs.all bi=true->∀u∈us,SeqAt.EqAt A s u v (eqU x u)
 |_,_,.nil,_=>fun u hu=>by cases hu
 |y::xs,u::us,.cons r t,f=>fun u' hu=>by
  rw [oA,dn] at f;rcases zq8.mp hu with rfl | hu
  ·rw [mi r f.1];exact gw r rx f.1 fx
  ·exact eL rx fx t f.2 u' hu
def inV(x:V)(xs:List V):Bool:=xs.any fun y=>eqV y x
def rIn(K:W.Frag)(neg:Bool):R2:=fun x y H Q=>∃p xs,y=.ref p/\(SqL K H p xs\/SqT K H p xs)/\bi x=true/\xs.all bi=true/\Q (.bl (if neg then ! inV x xs else inV x xs)) H
theorem kW:OpR X (compareOp .In) (rIn X.K false):=by
 intro pins s σ H x y v u Q I rx ry h;obtain ⟨p,xs,rfl,hq,fx,fs,q⟩:=h
 cases ry
 rcases hq with hq | hq
 ·obtain ⟨its,r,pl,hz⟩:=I.list hq;refine SeqAt.in_listAt (eqU x) pl.isList (fun w hw=>eL rx fx r fs w (by simpa using hw)) (zB (.bl _) H I rfl ?_);rw [show its.toArray.any (eqU x)=its.any (eqU x) by simp,gi r fs];exact q
 ·obtain ⟨its,r,pl,hz⟩:=I.tuple hq;refine SeqAt.in_tupleAt (eqU x) pl (fun w hw=>eL rx fx r fs w (by simpa using hw)) (zB (.bl _) H I rfl ?_);rw [show its.toArray.any (eqU x)=its.any (eqU x) by simp,gi r fs];exact q
theorem d5:cf X (.builtin "len") (fun xs H Q=>∃p ys,xs=[.ref p]/\(SqL X.K H p ys\/SqT X.K H p ys)/\Q (.int ys.length) H):=by
 intro pins s σ H xs us Q I r h;obtain ⟨p,ys,rfl,hq,q⟩:=h;obtain ⟨u,rfl,rx⟩:=fZ r
 cases rx
 have hn:=gB;rcases hq with hq | hq
 ·obtain ⟨its,r',pl,hz⟩:=I.list hq;have hlen:=r'.length;exact Calls.call_len_list pl.isList (by simp only [List.size_toArray]<;>omega) (zB (.int ys.length) H (I.tok _) ⟨s.toks+1,by rw [cN,hlen]⟩ q)
 ·obtain ⟨its,r',pl,hz⟩:=I.tuple hq;have hlen:=r'.length;exact len_tuple pl (by simp only [List.size_toArray]<;>omega) (zB (.int ys.length) H (I.tok _) ⟨s.toks+1,by rw [cN,hlen]⟩ q)
theorem c6:cf X (.type "list") (fun xs H Q=>∃p ys,xs=[.ref p]/\(SqL X.K H p ys\/SqT X.K H p ys)/\∀l,H l=none->Q (.ref l) (upd H l (.lst ys))):=by
 intro pins s σ H xs us Q I r h;obtain ⟨p,ys,rfl,hq,q⟩:=h;obtain ⟨u,rfl,rx⟩:=fZ r
 cases rx
 have fin:∀(its:List Value),Vals ys its->ys.length<=sizeLine->∀(h':Heap)(c':Nat),(∀b o',s.heap.get? b=some o'->h'.get? b=some o')->
   h'.get? s.heap.objs.size=some {cls:=.type "list",dict:=none,data:=.seq its.toArray c',slots:=#[]}->EP X pins σ Q (.ref s.heap.objs.size) {s with heap:=h'}:=fun its r' hz h' c' kp e=>
  (zB (.ref s.heap.objs.size) _ (I.laid (t':=s.toks) kp (zq4 _) (show ObjOk X.prog X.w _ h' _ (.lst ys) from ⟨hz,zE its c' r' e⟩)) rfl (q _ (I.hok.fresh (zq4 _))))
 rcases hq with hq | hq
 ·obtain ⟨its,r',pl,hz⟩:=I.list hq;have hlen:=r'.length;obtain ⟨o,ho,hc,n,hd⟩:=pl.isList;exact call_list_seq p (.inl rfl) ho hc hd (fun h' c' kp e=>fin its r' hz h' c' kp e) (by simp only [List.size_toArray]<;>omega)
 ·obtain ⟨its,r',pl,hz⟩:=I.tuple hq;have hlen:=r'.length;obtain ⟨o,ho,hc,n,hd⟩:=pl;exact call_list_seq p (.inr rfl) ho hc hd (fun h' c' kp e=>fin its r' hz h' c' kp e) (by simp only [List.size_toArray]<;>omega)
theorem fw:cf X (.type "tuple") (fun xs H Q=>∃p ys,xs=[.ref p]/\((SqL X.K H p ys/\∀l,H l=none->Q (.ref l) (upd H l (.tup ys)))\/(SqT X.K H p ys/\Q (.ref p) H))):=by
 intro pins s σ H xs us Q I r h;obtain ⟨p,ys,rfl,h⟩:=h;obtain ⟨u,rfl,rx⟩:=fZ r
 cases rx
 rcases h with ⟨hq,q⟩ | ⟨hq,q⟩
 ·obtain ⟨its,r',pl,hz⟩:=I.list hq;have hlen:=r'.length;refine call_tuple_list pl.isList (fun h' kp=>?_) (by simp only [List.size_toArray]<;>omega);have I1:Inv X pins σ H {s with heap:=h'}:=I.kept (t':=s.toks) kp;have I2:Inv X pins σ (upd H h'.objs.size (.tup ys)) {s with heap:=h'.push {cls:=.type "tuple",data:=.seq its.toArray}}:=
   I1.laid (t':=s.toks) (fun b o e=>zq9 _ e) (zq4 _) (show ObjOk X.prog X.w _ _ _ (.tup ys) from ⟨hz,zA its r' (IsTup.new _ _)⟩)
  exact zB (.ref h'.objs.size) _ I2 rfl (q _ (I1.hok.fresh (zq4 _)))
 ·obtain ⟨its,r',pl,hz⟩:=I.tuple hq;exact call_tuple_same pl (zB (.ref p) H I rfl q)
def tyV(K:W.Frag)(T:String)(x:V)(H:Hp):Prop:=match x with
 | .str _=>T="str"
 | .int _=>T="int"
 | .ref p=>(T="list"/\∃xs,SqL K H p xs)\/(T="tuple"/\∃o,K.lookup p=some o/\o.cls=.type "tuple"/\o.dict=none)\/
   (T="dict"/\((∃kvs,H p=some (.dK kvs))\/∃kvs,H p=some (.dT kvs)))\/(T="set"/\∃S n,H p=some (.set S n))
 |_=>False
theorem jl{pins:List (Addr×Obj)}{σ:St}{H:Hp}{s:Shared}{T:String}{x:V}{v:Value}(I:Inv X pins σ H s)(r:RelV x v)(ty:tyV X.K T x H):
  s.TypeIs v T/\∀a,v=.ref a->∃ob,s.heap.get? a=some ob/\ob.dict=none:=by
 cases x with
 |str z=>
  obtain ⟨t,rfl⟩:=r
  cases (show T="str" from ty)
  exact ⟨typeIs_str s z t,fun _ e=>nomatch e⟩
 |int i=>
  obtain ⟨t,rfl⟩:=r
  cases (show T="int" from ty)
  exact ⟨typeIs_int s i t,fun _ e=>nomatch e⟩
 |ref p=>
  cases r
  rcases ty with ⟨rfl,xs,hq⟩ | ⟨rfl,o,hk,hc,hd⟩ | ⟨rfl,hk⟩ | ⟨rfl,S,n,hk⟩
  ·obtain ⟨its,_,pl,_⟩:=I.list hq;refine ⟨pl.isList.typeIs,fun a e=>?_⟩
   cases e
   obtain ⟨o,n,e,c,hd,_⟩:=pl;exact zA o e hd
  ·refine ⟨zA o (I.kIn p o hk) hc,fun a e=>?_⟩
   cases e
   exact zA o (I.kIn _ o hk) hd
  ·have z:∃o,s.heap.get? p=some o/\o.ExactDict:=by
    rcases hk with ⟨kvs,hk⟩ | ⟨kvs,hk⟩
    ·obtain ⟨_,_,_,_,o,_,_,e,ex,_⟩:=I.hok p _ hk;exact zA o e ex
    ·obtain ⟨_,_,_,_,o,_,_,e,ex,_⟩:=I.hok p _ hk;exact zA o e ex
   obtain ⟨o,e,ex⟩:=z;refine ⟨zA o e ex.1,fun a e2=>?_⟩
   cases e2
   exact zA o e ex.2.1
  ·obtain ⟨o,_,_,_,e,ex,_⟩:=I.hok p _ hk;refine ⟨zA o e ex.1,fun a e2=>?_⟩
   cases e2
   exact zA o e ex.2.1
 |_=>exact False.elim ty
def vY(K:W.Frag)(T:String)(r:V->List V->Hp->VK->Prop)(to:TE):TE:=fun σ H Q=>to σ H fun x H1=>tyV K T x H1/\r x [] H1 Q
def tBM(K:W.Frag)(T:String)(r:V->List V->Hp->VK->Prop)(to:TE)(t:TA):TE:=fun σ H Q=>to σ H fun x H1=>tyV K T x H1/\t σ H1 fun xs H2=>r x xs H2 Q
variable {o e:Expr} {es:List Expr} {to:TE} {t:TA} {name:Str} {apos cpos:Pos} {T id:String} {r:V->List V->Hp->VK->Prop}
theorem uV(pa:PlainAttrs T)(slot:Slot T name id)(hty:typeOf (.builtin id)=pure (.type "method_descriptor")) (hm:MtR X id r) (ho:PE X o to) (ha:PA X (e::es) t)
  (hbase:attributeBase o name X.env (eval o X.env)=eval o X.env:=by rfl)
  (hfew:((backTo cpos (starEach (e::es) X.env)).all (fun x=>! x.1)&&(backToKw cpos (keywordEach [] X.env)).all (fun x=>x.1.isSome)
   && decide ((e::es).length+([]:List Keyword).length+(if ([]:List Keyword).isEmpty then 0 else 1)<30))=true:=by rfl)
  (hline:(apos.endLine==cpos.line)=true:=by rfl) (hs:starEach (e::es) X.env=(false,eval e X.env)::starEach es X.env:=by rfl) (hplain:(backTo cpos (starEach es X.env)).any (·.1)=false:=by rfl) :
  PE X (.Call (.Attribute o name apos) (e::es) [] cpos) (tBM X.K T r to t):=by
 intro pins s σ H Q I h;refine wpAny_Call_method_late hbase hfew hline rfl (thn (ho pins s σ H _ I h) fun v s1 hhx=>?_);obtain ⟨x,H1,I1,r1,ty,q1⟩:=hhx;obtain ⟨h1,h2⟩:=jl I1 r1 ty;refine zY T id pa slot hty h1 h2 ?_;have hA:=ha cpos pins s1 σ H1 _ I1 q1;rw [hs] at hA ⊢;refine Calls.callWith_builtin (by show (false || (backTo cpos (starEach es X.env)).any (·.1))=false;rw [hplain]<;>rfl) (Calls.evalArgs_plain ?_);exact thn hA fun us s2 ⟨vs,H2,I2,r2,q2⟩=>hm pins s2 σ H2 x vs v us Q I2 r1 r2 q2
/- xs.append(e),list.index on a module's tuple .. are MtR facts of 06m -/
end
end L2
namespace L2
def MtM(X:Cx)(id:String)(r:V->List V->Hp->VK->Prop):Prop:=
 ∀(pins:List (Addr×Obj)) (s:Shared) (σ:St) (H:Hp) (x:V) (xs:List V) (v:Value) (us:List Value) (Q:VK),Inv X pins σ H s->RelV x v->Vals xs us->r x xs H Q->
  wpAny (model X.prog X.w) X.A (call (.builtin id) (v::us)) (EP X pins σ Q) X.xe s
theorem Vals.one:∀{x:V} {us:List Value},Vals [x] us->∃u,us=[u]/\RelV x u
 |_,_,.cons r .nil=>zA _ rfl r
theorem Vals.zero:∀{us:List Value},Vals [] us->us=[]
 |_,.nil=>rfl
theorem Vals.dropLast{xs:List V}{us:List Value}(h:Vals xs us):Vals xs.dropLast us.dropLast:=by
 induction h with
 |nil=>exact .nil
 |cons r t ih=>
  cases t with
  |nil=>exact .nil
  |cons q t'=>exact .cons r ih
theorem iT{α:Type}(l:List α):l.eraseIdx (l.length-1)=l.dropLast:=by
 induction l with
 |nil=>rfl
 |cons a r ih=>
  cases r with
  |nil=>rfl
  |cons b r=>
   have e:(a::b::r).length-1=((b::r).length-1)+1:=by have h1:(a::b::r).length=r.length+2:=rfl;have h2:(b::r).length=r.length+1:=rfl;omega
   rw [e,List.eraseIdx_cons_succ,ih]
   all_goals rfl
section
variable {X:Cx} {pins:List (Addr×Obj)} {σ:St} {H:Hp} {s:Shared} {l b:Addr} {xs ys zs:List V}
theorem Inv.lset{its its':List Value}{n:Nat}{f:Array Value->Array Value}{t':Nat}(I:Inv X pins σ H s)(hH:H l=some (.lst xs))
  (e:s.heap.get? l=some {cls:=.type "list",data:=.seq its.toArray n}) (hf:f its.toArray=its'.toArray) (hv:Vals ys its') (hz:ys.length<=sizeLine) :
  Inv X pins σ (upd H l (.lst ys)) {s with heap:=s.heap.update l (Obj.mapSeq f),toks:=t'}:=by
 have q:=PySem.IsL.update e f;rw [hf] at q;refine I.write (x:=l) (e:=l) (by rw [hH];exact trivial) (.inl rfl) (fun b' u hb hu=>(fk s.heap (Obj.mapSeq f) (Ne.symm hb)).trans hu) ⟨_,q⟩ ?_;exact ⟨hz,zE its' _ hv q⟩
theorem Inv.lnew{its:List Value}{t':Nat}(I:Inv X pins σ H s)(hv:Vals ys its)(hz:ys.length<=sizeLine):
  Inv X pins σ (upd H s.heap.objs.size (.lst ys)) {s with heap:=s.heap.push {cls:=.type "list",data:=.seq its.toArray},toks:=t'}:=
 I.laid (fun _ _ q=>zq9 _ q) (zq4 _) ⟨hz,zE its 0 hv (bV _ rfl)⟩
theorem Inv.fresh(I:Inv X pins σ H s):H s.heap.objs.size=none:=I.hok.fresh (zq4 _)
theorem Inv.lstM(I:Inv X pins σ H s)(hH:H l=some (.lst xs)):xs.length<=sizeLine/\∃(its:List Value)(n:Nat),Vals xs its/\xs.length=its.length/\s.heap.get? l=some {cls:=.type "list",data:=.seq its.toArray n}:=by obtain ⟨z,its,n,r,e⟩:=I.hok l _ hH;exact ⟨z,zB its n r r.length e⟩
theorem mK{n:Nat}(h:n<=sizeLine):Builtin.List.listTooLong n=false:=by unfold Builtin.List.listTooLong;exact zq7 Jn
end
section
variable {X:Cx}
def jR:V->List V->Hp->VK->Prop:=fun x vs H Q=>∃l xs y,x=.ref l/\vs=[y]/\H l=some (.lst xs)/\xs.length<sizeLine/\Q .non (upd H l (.lst (xs++[y])))
theorem cF:MtM X "list.append" jR:=by
 intro pins s σ H x vs v us Q I rx rv h;obtain ⟨l,xs,y,rfl,rfl,hH,hz,q⟩:=h
 cases rx
 obtain ⟨u,rfl,ru⟩:=rv.one;obtain ⟨z,its,n,r,hl,e⟩:=I.lstM hH;refine call_meets F.slot_list_append (zA _ e rfl) F.entry_list_append (F.args_list_append_2 _ _) (PySem.list_append l its.toArray n u (by rw [cN];omega)) ⟨e,?_⟩;refine zB .non _ (I.lset (its':=its++[u]) hH e Jo (r.append (.cons ru .nil)) ?_) rfl q;rw [fB,qB];omega
def pN:V->List V->Hp->VK->Prop:=fun x vs H Q=>∃l b xs zs,x=.ref l/\vs=[.ref b]/\H l=some (.lst xs)/\H b=some (.lst zs)/\xs.length+zs.length<=sizeLine/\Q .non (upd H l (.lst (xs++zs)))
theorem kQ:MtM X "list.extend" pN:=by
 intro pins s σ H x vs v us Q I rx rv h;obtain ⟨l,b,xs,zs,rfl,rfl,hH,hB,hz,q⟩:=h
 cases rx
 obtain ⟨u,rfl,ru⟩:=rv.one
 cases ru
 obtain ⟨z,its,n,r,hl,e⟩:=I.lstM hH;obtain ⟨z2,its2,n2,r2,hl2,e2⟩:=I.lstM hB;have hsz:its.toArray.size+its2.toArray.size<=sizeLine:=by rw [cN,cN];omega
 have hlong:¬(! its.toArray.isEmpty&&Builtin.List.listTooLong (its.toArray.size+its2.toArray.size))=true:=by rw [mK hsz,Bool.and_false];exact zq6
 refine call_meets F.slot_list_extend (zA _ e rfl) F.entry_list_extend (F.args_list_extend_2 _ _)
  (AutoSeq1.list_extend_list_list_0 l its.toArray n b its2.toArray n2 hlong (by rw [cN];omega) Jn) (zC e e2 ?_)
 refine zB .non _ (I.lset (its':=its++its2) hH e Jo (r.append r2) ?_) rfl q;rw [fB];omega
def wy:V->List V->Hp->VK->Prop:=fun x vs H Q=>∃l xs y,x=.ref l/\vs=[]/\H l=some (.lst xs)/\xs[xs.length-1]?=some y/\Q y (upd H l (.lst xs.dropLast))
theorem sj:MtM X "list.pop" wy:=by
 intro pins s σ H x vs v us Q I rx rv h;obtain ⟨l,xs,y,rfl,rfl,hH,hy,q⟩:=h
 cases rx
 have hus:=rv.zero;subst hus;obtain ⟨z,its,n,r,hl,e⟩:=I.lstM hH;obtain ⟨u,hu,ru⟩:=r.get hy;have hy':its.toArray[its.toArray.size-1]?=some u:=by show its.toArray[its.length-1]?=some u;rw [<- ur,<- hl];exact hu
 refine call_meets F.slot_list_pop (zA _ e rfl) F.entry_list_pop (F.args_list_pop_1 _) (MeetsSeq.list_pop_last l its.toArray n u hy' (by rw [cN];omega)) ⟨e,?_⟩;refine zB y _ (I.lset (its':=its.dropLast) hH e ?_ r.dropLast ?_) ru q
 ·show its.toArray.eraseIdxIfInBounds (its.toArray.size-1)=its.dropLast.toArray;rw [cN,List.eraseIdxIfInBounds_toArray,iT]
 ·rw [List.length_dropLast];omega
def uY:R2:=fun x y H Q=>∃l b xs zs,x=.ref l/\y=.ref b/\H l=some (.lst xs)/\H b=some (.lst zs)/\xs.length+zs.length<=sizeLine/\∀p,H p=none->Q (.ref p) (upd H p (.lst (xs++zs)))
theorem gE:OpR X (binaryOp .Add) uY:=by
 intro pins s σ H x y v u Q I rx ry h;obtain ⟨l,b,xs,zs,rfl,rfl,hH,hB,hz,q⟩:=h
 cases rx
 cases ry
 obtain ⟨z,its,n,r,hl,e⟩:=I.lstM hH;obtain ⟨z2,its2,n2,r2,hl2,e2⟩:=I.lstM hB;refine PySem.P.add_list e e2 ?_ (by rw [cN,cN];omega);have ea:its.toArray++its2.toArray=(its++its2).toArray:=by simp
 rw [ea];exact zB (.ref _) _ (I.lnew (t':=s.toks) (r.append r2) (by rw [fB];omega)) rfl (q _ I.fresh)
end
section
variable {prog:Program} {w:World} {A:Around} {E:Value->Shared->Prop} {s:Shared}
end
section
variable {X:Cx}
end
end L2
namespace L2
section
variable {κ:Type} [DecidableEq κ]
def aN(kvs:List (κ×V))(k:κ):Option V:=(kvs.find? fun kv=>decide (kv.1=k)).map (·.2)
def b6(kvs:List (κ×V))(k:κ)(v:V):List (κ×V):=
 if (kvs.any fun kv=>decide (kv.1=k))=true then kvs.map (fun kv=>if kv.1=k then (kv.1,v) else kv) else kvs++[(k,v)]
theorem aQ{p:κ×V}{r:List (κ×V)}{k:κ}(e:p.1=k):aN (p::r) k=some p.2:=by simp [aN,List.find?_cons,e]
theorem aP{p:κ×V}{r:List (κ×V)}{k:κ}(e:¬p.1=k):aN (p::r) k=aN r k:=by simp [aN,List.find?_cons,e]
theorem bC(k:κ):∀kvs:List (κ×V),(kvs.any fun kv=>decide (kv.1=k))=(aN kvs k).isSome
 | []=>rfl
 |p::r=>by
  rw [lM]
  by_cases e:p.1=k
  ·simp only [aQ e,decide_eq_true e,Bool.true_or,Option.isSome_some]
  ·rw [aP e,zq7 e,Bool.false_or];exact bC k r
theorem iF(k j:κ)(y:V):∀kvs:List (κ×V),aN (kvs.map fun kv=>if kv.1=k then (kv.1,y) else kv) j=(aN kvs j).map fun x=>if j=k then y else x
 | []=>rfl
 |p::r=>by
  have ih:=iF k j y r;rw [c5]
  by_cases h:p.1=k
  ·rw [zq2 h]
   by_cases e:p.1=j
   ·rw [aQ (p:=(p.1,y)) e,aQ e,qC,zq2 (e.symm.trans h)]
   ·rw [aP (p:=(p.1,y)) e,aP e,ih]
  ·rw [zq1 h]
   by_cases e:p.1=j
   ·rw [aQ (p:=p) e,aQ e,qC,zq1 (fun z=>h (e.trans z))]
   ·rw [aP (p:=p) e,aP e,ih]
theorem fY(k j:κ)(y:V):∀kvs:List (κ×V),aN kvs k=none->aN (kvs++[(k,y)]) j=if j=k then some y else aN kvs j
 | [],_=>by
  by_cases e:k=j
  ·rw [zq2 e.symm];exact aQ (p:=(k,y)) e
  ·rw [zq1 (fun z=>e z.symm)];exact aP (p:=(k,y)) e
 |p::r,hn=>by
  rw [jn];have hk:¬p.1=k:=fun z=>by rw [aQ z] at hn;cases hn
  rw [aP hk] at hn;have ih:=fY k j y r hn
  by_cases e:p.1=j
  ·rw [aQ e,aQ e,zq1 (fun z=>hk (e.trans z))]
  ·rw [aP e,aP e,ih]
theorem o3(kvs:List (κ×V))(k j:κ)(y:V):aN (b6 kvs k y) j=if j=k then some y else aN kvs j:=by
 unfold b6
 by_cases a:(kvs.any fun kv=>decide (kv.1=k))=true
 ·rw [zq2 a,iF];rw [bC] at a
  by_cases e:j=k
  ·obtain ⟨x,hx⟩:=zq99.mp a;rw [zq2 e,e,hx,qC,zq2 rfl]
  ·rw [zq1 e]
   cases aN kvs j with
   |none=>rfl
   |some x=>rw [qC,zq1 e]
 ·rw [zq1 a];refine fY k j y kvs ?_;rw [bC] at a
  cases q:aN kvs k with
  |none=>rfl
  |some x=>rw [q] at a;exact (a rfl).elim
theorem bR(kvs:List (κ×V))(k:κ)(v:V):(b6 kvs k v).length<=kvs.length+1:=by
 unfold b6
 split
 ·rw [ck];omega
 ·rw [fB,bW,ut];omega
theorem ii{kvs:List (κ×V)}{k:κ}(v:V)(h:aN kvs k=none):b6 kvs k v=kvs++[(k,v)]:=by unfold b6;rw [bC,h];exact zq1 Jm
theorem RelO.isSome_eq{o:Option V}{u:Option Value}(r:RelO o u):o.isSome=u.isSome:=by
 cases o with
 |none=>cases u with
  |none=>rfl
  |some _=>exact (show False from r).elim
 |some _=>cases u with
  |none=>exact (show False from r).elim
  |some _=>rfl
theorem KV.val{kvs:List (κ×V)}{vs:List (κ×Value)}(r:KV kvs vs)(k:κ):RelO (aN kvs k) (valueAt vs k):=by
 unfold KV at r
 induction r with
 |nil=>exact True.intro
 | @cons p q ps qs h t ih=>
  obtain ⟨h1,h2⟩:=h
  by_cases e:p.1=k
  ·have e':q.1=k:=h1.symm.trans e;have b:valueAt (q::qs) k=some q.2:=by simp [valueAt,List.find?_cons,e']
   rw [aQ e,b];exact h2
  ·have e':¬q.1=k:=fun z=>e (h1.trans z);have b:valueAt (q::qs) k=valueAt qs k:=by simp [valueAt,List.find?_cons,e']
   rw [aP e,b];exact ih
theorem KV.any{kvs:List (κ×V)}{vs:List (κ×Value)}(r:KV kvs vs)(k:κ):(kvs.any fun kv=>decide (kv.1=k))=vs.any fun kv=>decide (kv.1=k):=by
 unfold KV at r
 induction r with
 |nil=>rfl
 |cons h t ih=>rw [lM,lM,ih,h.1]
theorem KV.repl{kvs:List (κ×V)}{vs:List (κ×Value)}(r:KV kvs vs)(k:κ){y:V}{u:Value}(ry:RelV y u):
  KV (kvs.map fun kv=>if kv.1=k then (kv.1,y) else kv) (vs.map fun kv=>if kv.1=k then (kv.1,u) else kv):=by
 unfold KV at r ⊢
 induction r with
 |nil=>exact .nil
 | @cons p q ps qs h t ih=>
  rw [c5,c5];refine .cons ?_ ih;obtain ⟨h1,h2⟩:=h
  by_cases e:p.1=k
  ·rw [zq2 e,zq2 (h1.symm.trans e)];exact ⟨h1,ry⟩
  ·rw [zq1 e,zq1 (fun z=>e (h1.trans z))];exact ⟨h1,h2⟩
theorem KV.put{kvs:List (κ×V)}{vs:List (κ×Value)}(r:KV kvs vs)(k:κ){y:V}{u:Value}(ry:RelV y u):KV (b6 kvs k y) (stored vs k u):=by
 unfold b6 stored;rw [r.any k]
 by_cases e:(vs.any fun kv=>decide (kv.1=k))=true
 ·rw [zq2 e,zq2 e];exact r.repl k ry
 ·rw [zq1 e,zq1 e];exact Paired.snoc r ⟨rfl,ry⟩
theorem KV.length{kvs:List (κ×V)}{vs:List (κ×Value)}(r:KV kvs vs):kvs.length=vs.length:=Paired.length r
end
theorem jJ{P:Program}{w:World}{k:Key}{u:Value}(r:RelV (kV k) u):(aV P w).is k u=true:=by
 cases k with
 |inl i=>obtain ⟨t,e⟩:=(show ∃t,u=Value.int i t from r);subst e;exact i5 P w i t
 |inr x=>obtain ⟨t,e⟩:=(show ∃t,u=Value.str x t from r);subst e;exact i6 P w x t
theorem fP{P:Program}{w:World}:∀{ks:List Key} {us:List Value},Vals (ks.map kV) us->ItemsAre (aV P w) ks us
 | [],_,r=>by rw [uu] at r;cases r;exact .nil
 |k::ks,_,r=>by
  rw [c5] at r
  cases r with
  |cons h t=>exact .cons (jJ h) (fP t)
abbrev KT (H:Hp):List (List Key×V)->List (List Key×Addr×Value)->Prop:=Paired fun p q=>p.1=q.1/\H q.2.1=some (.tup (p.1.map kV))/\RelV p.2 q.2.2
theorem KT.val{H:Hp}{kvs:List (List Key×V)}{xs:List (List Key×Addr×Value)}(r:KT H kvs xs)(k:List Key):RelO (aN kvs k) ((atKey xs k).map (·.2)):=by
 induction r with
 |nil=>exact True.intro
 | @cons p q ps qs h t ih=>
  obtain ⟨h1,_,h2⟩:=h
  by_cases e:p.1=k
  ·have e':q.1=k:=h1.symm.trans e;have b:atKey (q::qs) k=some q.2:=by simp [atKey,List.find?_cons,e']
   rw [aQ e,b];exact h2
  ·have e':¬q.1=k:=fun z=>e (h1.trans z);have b:atKey (q::qs) k=atKey qs k:=by simp [atKey,List.find?_cons,e']
   rw [aP e,b];exact ih
theorem KT.repl{H:Hp}{kvs:List (List Key×V)}{xs:List (List Key×Addr×Value)}(r:KT H kvs xs)(k:List Key){y:V}{u:Value}(ry:RelV y u):
  KT H (kvs.map fun kv=>if kv.1=k then (kv.1,y) else kv) (xs.map (putAt k u)):=by
 induction r with
 |nil=>exact .nil
 | @cons p q ps qs h t ih=>
  rw [c5,c5];refine .cons ?_ ih;obtain ⟨h1,h2,h3⟩:=h;unfold putAt
  by_cases e:p.1=k
  ·rw [zq2 e,zq2 (h1.symm.trans e)];exact zC h1 h2 ry
  ·rw [zq1 e,zq1 (fun z=>e (h1.trans z))];exact zC h1 h2 h3
theorem KT.put{H:Hp}{kvs:List (List Key×V)}{xs:List (List Key×Addr×Value)}(r:KT H kvs xs)(k:List Key){b:Addr}{y:V}{u:Value}(hb:H b=some (.tup (k.map kV)))(ry:RelV y u):
  KT H (b6 kvs k y) (storedH xs k b u):=by
 have e:(kvs.any fun kv=>decide (kv.1=k))=(atKey xs k).isSome:=by rw [bC,(r.val k).isSome_eq,Option.isSome_map]
 unfold b6 storedH;rw [e]
 by_cases q:(atKey xs k).isSome=true
 ·rw [zq2 q,zq2 q];exact r.repl k ry
 ·rw [zq1 q,zq1 q];exact Paired.snoc r (zC rfl hb ry)
theorem KT.keeps{H H':Hp}{kvs:List (List Key×V)}{xs:List (List Key×Addr×Value)}(r:KT H kvs xs)(ht:∀b ys,H b=some (.tup ys)->H' b=some (.tup ys)):KT H' kvs xs:=
 Paired.mapP r fun _ _ z=>zC z.1 (ht _ _ z.2.1) z.2.2
section
variable {P:Program} {w:World} {H:Hp} {h:Heap} {a:Addr}
theorem rj{u:HO}(ok:HOk P w H h)(e:Rd H a u):ObjOk P w H h a u:=e.ok ok
theorem fL{kvs:List (Key×V)}(ok:HOk P w H h)(e:Rd H a (.dK kvs)):kvs.length<=sizeLine/\(a==sysModules)=false/\∃vs,KV kvs vs/\h.DictOf (aV P w) a vs:=
 show ObjOk P w H h a (.dK kvs) from rj ok e
theorem me{kvs:List (Key×V)}(ok:HOk P w H h)(e:H a=some (.dK kvs)):kvs.length<=sizeLine/\(a==sysModules)=false/\∃vs,KV kvs vs/\h.DictOf (aV P w) a vs:=fL ok (.inl e)
theorem iW{ks:List Key}(ok:HOk P w H h)(e:H a=some (.tup (ks.map kV))):(tupleKind (aV P w)).is h ks a:=by
 obtain ⟨_,its,r,o,h1,h2,n,h3⟩:=(show ObjOk P w H h a (.tup (ks.map kV)) from ok a _ e)
 exact zQ o its.toArray n h1 h2 h3 (by simpa using fP r)
theorem jE{kvs:List (List Key×V)}(ok:HOk P w H h)(e:Rd H a (.dT kvs)):kvs.length<=sizeLine/\(a==sysModules)=false/\
  ∃xs,KT H kvs xs/\h.DictOfH (tupleKind (aV P w)) a xs:=by
 obtain ⟨z,y,xs,r,o,es,ep,h1,h2,h3,h4,h5⟩:=(show ObjOk P w H h a (.dT kvs) from rj ok e)
 refine zC z y (zA xs r (zO o es ep (zI h1 h2 h3 h4 (fun x hx=>?_) h5)));have all:∀{l:List (List Key×V)} {m:List (List Key×Addr×Value)},KT H l m->∀x∈m,(tupleKind (aV P w)).is h x.1 x.2.1:=by
  intro l m q
  induction q with
  |nil=>intro x hx;exact nomatch hx
  | @cons p q ps qs hq t ih=>
   intro x hx;rcases zq8.mp hx with e | hx
   ·subst e;exact iW ok (by rw [<- hq.1];exact hq.2.1)
   ·exact ih x hx
 exact all r x hx
theorem uK{kvs:List (List Key×V)}(ok:HOk P w H h)(e:H a=some (.dT kvs)):kvs.length<=sizeLine/\(a==sysModules)=false/\
  ∃xs,KT H kvs xs/\h.DictOfH (tupleKind (aV P w)) a xs:=jE ok (.inl e)
end
def oI(H:Hp)(a:Addr)(y:V)(r:Option V):Prop:=
 (∃kvs k,Rd H a (.dK kvs)/\y=kV k/\r=aN kvs k)\/∃kvs k b,Rd H a (.dT kvs)/\y=.ref b/\H b=some (.tup (k.map kV))/\r=aN kvs k
def DPut(H:Hp)(a:Addr)(y v:V)(H':Hp):Prop:=
 (∃kvs k,H a=some (.dK kvs)/\y=kV k/\kvs.length<sizeLine/\H'=upd H a (.dK (b6 kvs k v)))\/
 ∃kvs k b,H a=some (.dT kvs)/\y=.ref b/\H b=some (.tup (k.map kV))/\kvs.length<sizeLine/\H'=upd H a (.dT (b6 kvs k v))
theorem DPut.k{H:Hp}{a:Addr}{kvs:List (Key×V)}{k:Key}{v:V}(e:H a=some (.dK kvs))(hl:kvs.length<sizeLine):DPut H a (kV k) v (upd H a (.dK (b6 kvs k v))):=.inl (zF kvs k e rfl hl rfl)
section
variable {X:Cx} {pins:List (Addr×Obj)} {σ:St} {H:Hp} {s:Shared} {a:Addr} {y v:V} {u r:Value} {o:Option V} {A:Around} {E:Value->Shared->Prop}
theorem Inv.big(I:Inv X pins σ H s):sysModules<s.heap.objs.size:=by have h:mainGlobals<s.heap.objs.size:=(I.mod.glob.keeps I.bk).lt;exact Nat.lt_trans Jm h
theorem kA{Q:Value->Shared->Prop}(hu:A.units+1<cLine)(I:Inv X pins σ H s)(g:oI H a y (some v))(ry:RelV y u)(h:∀w' s',Inv X pins σ H s'->RelV v w'->Q w' s'):
  wpAny (model X.prog X.w) A (getItem (.ref a) u) Q E s:=by
 rcases g with ⟨kvs,k,e,ey,l⟩ | ⟨kvs,k,b,e,ey,eb,l⟩
 ·subst ey;obtain ⟨z,hd,vs,rel,dd⟩:=fL I.hok e;obtain ⟨w',hw,rw'⟩:=RelO.some_of (v:=v) (o:=valueAt vs k) (by rw [l];exact rel.val k);exact wpAny_getItem_of (jJ ry) dd.mapOf hw (h w' _ (I.tok _) rw')
 ·subst ey
  cases (show u=Value.ref b from ry)
  obtain ⟨z,hd,xs,rel,dd⟩:=jE I.hok e;obtain ⟨w',hw,rw'⟩:=RelO.some_of (v:=v) (o:=(atKey xs k).map (·.2)) (by rw [l];exact rel.val k);obtain ⟨p,hp,hp2⟩:=zq56.mp hw;refine wpAny_getItem_heap (tupleKind_room_in1 hu) (iW I.hok eb) dd hp ?_;rw [hp2];exact h w' _ (I.tok _) rw'
theorem ef{h':Heap}{t':Nat}{ob:HO}(I:Inv X pins σ H s)(mu:Mut (H a))(hs:Heap.SameBut a s.heap h')(he:∃q,h'.get? a=some q)(new:ObjOk X.prog X.w (upd H a ob) h' a ob):
  Inv X pins σ (upd H a ob) {s with heap:=h',toks:=t'}:=
 I.write (x:=a) (e:=a) mu (.inl rfl) (fun b q hb z=>(hs.2 b hb).trans z) he new
theorem md{P:Program}{w:World}{H':Hp}{h':Heap}{kvs:List (Key×V)}{vs:List (Key×Value)}(z:kvs.length<=sizeLine)(hd:(a==sysModules)=false)(rel:KV kvs vs)(dd:h'.DictOf (aV P w) a vs):
  ObjOk P w H' h' a (.dK kvs):=zC z hd (zA vs rel dd)
theorem kB{H':Hp}{Q:Unit->Shared->Prop}(hu:A.units+1<cLine)(I:Inv X pins σ H s)(g:DPut H a y v H')(ry:RelV y u)(rv:RelV v r)(h:∀s',Inv X pins σ H' s'->Q () s'):
  wpAny (model X.prog X.w) A (setItem (.ref a) u r) Q E s:=by
 rcases g with ⟨kvs,k,e,ey,l,eH⟩ | ⟨kvs,k,b,e,ey,eb,l,eH⟩
 ·subst ey eH;obtain ⟨z,hd,vs,rel,dd⟩:=me I.hok e;have hz:vs.length<=sizeLine:=by rw [<- rel.length];exact z
  have hl:(b6 kvs k v).length<=sizeLine:=by have:=bR kvs k v;omega
  refine wpAny_setItem_pairs (hsz:=hz) (jJ ry) dd fun h' dd' hs=>h _ ?_;have he:∃q,h'.get? a=some q:=let ⟨q,_,_,hq,_⟩:=dd';⟨q,hq⟩;exact ef I (by rw [e];exact True.intro) hs he (md hl hd (rel.put k rv) dd')
 ·subst ey eH
  cases (show u=Value.ref b from ry)
  obtain ⟨z,hd,xs,rel,dd⟩:=uK I.hok e;have hz:xs.length<=sizeLine:=by rw [<- Paired.length rel];exact z
  have hl:(b6 kvs k v).length<=sizeLine:=by have:=bR kvs k v;omega
  refine wpAny_setItem_heap (hsz:=hz) (tupleKind_room_in1 hu) (iW I.hok eb) dd fun h' dd' hs=>h _ ?_;obtain ⟨q,es,ep,hq,h2,h3,h4,_,h5⟩:=dd';refine ef I (by rw [e];exact True.intro) hs ⟨q,hq⟩ (zC hl hd (zA _ ((rel.put k eb rv).keeps fun c ys ec=>?_) (zJ q es ep hq h2 h3 h4 h5)));rw [aj (b9 ec e (fun z=>nomatch z))];exact ec
end
section
variable {X:Cx} {pins:List (Addr×Obj)} {σ:St} {H:Hp} {s:Shared} {a:Addr} {kvs:List (Key×V)} {k:Key} {u:Value} {A:Around} {E:Value->Shared->Prop}
end
def rM(i:Expr):Prop:=∀ov iv,subscripted i false ov iv=operate [ov,iv] (getItem ov iv)
theorem kf{prog:Program}{w:World}{A:Around}{E:Value->Shared->Prop}{s:Shared}{env:Env}{value slice:Expr}{pos:Pos}{T id:String}{Q:Value->Shared->Prop}
  (hl:typeLookup (.type T) "__getitem__"=pure (some (.builtin id))) (hs:rM slice)
  (h:wpAny (model prog w) A (eval value env) (fun o s₁=>wpAny (model prog w) A (eval slice env) (fun i s₂=>s₂.TypeIs o T/\wpAny (model prog w) A (getItem o i) Q E s₂) E s₁) E s) :
  wpAny (model prog w) A (eval (.Subscript value slice pos) env) Q E s:=by
 refine Subscript_ (cD h (fun o s₁ h₁=>cD h₁ (fun i s₂ h₂=>?_) fun _ _ x=>x) fun _ _ x=>x);obtain ⟨hT,h₂⟩:=h₂;unfold subscriptTail;refine zq0 ?_;rw [getitemInPython_of_ne hT.not_modules];refine zq0 (wpAny_specialOf hT hl ?_);have fin:wpAny (model prog w) A (subscripted slice false o i) (fun r s₃=>wpAny (model prog w) A (letTemporaryGo value o r >>= fun _=>pure r) Q E s₃) E s₂:=by rw [hs o i];exact wpAny_operating (cD h₂ (fun r s₃ h₃=>zq0 (wpAny_letTemporaryGo (zq3 h₃))) fun _ _ x=>x)
 first
  |exact zq3 (zq0 fin)
  |exact zq0 (zq3 (zq0 fin))
  |exact zq0 fin
theorem gY{X:Cx}{pins:List (Addr×Obj)}{σ:St}{H:Hp}{s:Shared}{a:Addr}{y:V}{o:Option V}(I:Inv X pins σ H s)(g:oI H a y o):s.TypeIs (.ref a) "dict":=by
 rcases g with ⟨kvs,k,e,_,_⟩ | ⟨kvs,k,b,e,_,_,_⟩
 ·obtain ⟨_,_,vs,_,dd⟩:=fL I.hok e;exact dd.typeIs
 ·obtain ⟨_,_,xs,_,dd⟩:=jE I.hok e;exact dd.typeIs
def rm(td ty:TE):TE:=fun σ H Q=>td σ H fun x H1=>ty σ H1 fun y H2=>∃a v,x=.ref a/\oI H2 a y (some v)/\Q v H2
def nP(td ty tv:TE):TS:=fun D σ H=>tv σ H fun v H1=>td σ H1 fun x H2=>ty σ H2 fun y H3=>∃a H4,x=.ref a/\DPut H3 a y v H4/\D.nx σ H4
section
variable {X:Cx} {o i e value:Expr} {pos pos' tpos:Pos} {td ty tv:TE}
theorem pK(hu:X.A.units+1<cLine)(ho:PE X o td)(hi:PE X i ty)(hv:PE X value tv)(hs:swapsWith value (some (.Subscript o i pos')) pos.line X.env=pure false):
  PS X (.Assign [.Subscript o i pos'] value pos) (nP td ty tv):=by
 intro pins s σ H D I h;refine wpAny_Assign_Subscript (thn (hv pins s σ H _ I h) fun r s1 ⟨v,H1,I1,rv,q1⟩=>thn (ho pins s1 σ H1 _ I1 q1) fun u s2 ⟨x,H2,I2,rx,q2⟩=>thn (hi pins s2 σ H2 _ I2 q2) fun iv s3 hhx=>?_) hs;obtain ⟨y,H3,I3,ry,a,H4,ex,g,q3⟩:=hhx;subst ex;obtain rfl:u=Value.ref a:=rx;exact kB hu I3 g ry rv fun s4 I4=>zE σ H4 I4 q3
end
theorem gZ{P:Program}{w:World}{H:Hp}(h:Heap)(hb:sysModules<h.objs.size):ObjOk P w H (h.push {cls:=.type "dict",data:=.dict #[]}) h.objs.size (.dK []):=
 (zC (ce _) (beq_eq_false_iff_ne.mpr (Ne.symm (bU hb))) (zA ([]) .nil (Heap.DictOf.new h)))
def nW:TE:=fun _ H Q=>∀p,H p=none->Q (.ref p) (upd H p (.dK []))
section
variable {X:Cx} {pos:Pos}
end
def d4:List (TE×TE)->St->Hp->(List (V×V)->Hp->Prop)->Prop
 | [],_,H,Q=>Q [] H
 | (tk,tv)::r,σ,H,Q=>tk σ H fun x H1=>tv σ H1 fun y H2=>d4 r σ H2 fun ps H3=>Q ((x,y)::ps) H3
abbrev VV:List (V×V)->List (Value×Value)->Prop:=Paired fun p q=>RelV p.1 q.1/\RelV p.2 q.2
def PPs(X:Cx)(pos:Pos)(keys:List (Option Expr))(values:List Expr)(trs:List (TE×TE)):Prop:=
 ∀(pins:List (Addr×Obj)) (s:Shared) (σ:St) (H:Hp) (Q:List (V×V)->Hp->Prop),Inv X pins σ H s->d4 trs σ H Q->
  wpAny (model X.prog X.w) X.A (evalPairs (pairTrees keys values X.env pos)) (fun vs s'=>∃ps H',Inv X pins σ H' s'/\VV ps vs/\Q ps H') X.xe s
theorem pJ{X:Cx}{pos:Pos}:PPs X pos [] [] []:=fun pins s σ H Q I h=>pairTrees_nil_walk (zB ([]) H I .nil h)
theorem eS{X:Cx}{pos:Pos}{k v:Expr}{ks:List (Option Expr)}{vs:List Expr}{tk tv:TE}{trs:List (TE×TE)}(hk:PE X k tk)(hv:PE X v tv)(hr:PPs X pos ks vs trs):
  PPs X pos (some k::ks) (v::vs) ((tk,tv)::trs):=fun pins s σ H Q I h=>
 pairTrees_cons_walk (thn (hk pins s σ H _ I h) fun u s1 ⟨x,H1,I1,rx,q1⟩=>thn (hv pins s1 σ H1 _ I1 q1) fun w2 s2 ⟨y,H2,I2,ry,q2⟩=>thn (hr pins s2 σ H2 _ I2 q2) fun ws s3 ⟨ps,H3,I3,rel,q3⟩=>zB ((x,y)::ps) H3 I3 (.cons ⟨rx,ry⟩ rel) q3)
def cw(kvs more:List (Key×V)):List (Key×V):=more.foldl (fun acc kv=>b6 acc kv.1 kv.2) kvs
theorem KV.merge:∀{more:List (Key×V)} {rs:List (Key×Value)} {kvs:List (Key×V)} {vs:List (Key×Value)},KV more rs->KV kvs vs->KV (cw kvs more) (merged vs rs):=by
 intro more rs kvs vs r;unfold KV at r
 induction r generalizing kvs vs with
 |nil=>intro q;exact q
 | @cons p q ps qs h t ih=>
  intro r0;have e:KV (b6 kvs p.1 p.2) (stored vs q.1 q.2):=by have:=r0.put p.1 h.2;rw [<- h.1];exact this
  exact ih e
theorem cR:∀(more kvs:List (Key×V)),(cw kvs more).length<=kvs.length+more.length
 | [],kvs=>by show kvs.length<=kvs.length+0;omega
 |p::r,kvs=>by have h1:=cR r (b6 kvs p.1 p.2);have h2:=bR kvs p.1 p.2;show (cw (b6 kvs p.1 p.2) r).length<=_;rw [bW];omega
theorem eC{P:Program}{w:World}:∀{kvs:List (Key×V)} {ws:List (Value×Value)},VV (kvs.map fun kv=>(kV kv.1,kv.2)) ws->∃rs,Carries (aV P w) ws rs/\KV kvs rs
 | [],_,r=>by rw [uu] at r;cases r;exact zA ([]) True.intro .nil
 |p::kvs,_,r=>by
  rw [c5] at r
  cases r with
  | @cons a b as bs h t=>obtain ⟨rs,c,q⟩:=eC (P:=P) (w:=w) t;obtain ⟨b1,b2⟩:=b;exact zA ((p.1,b2)::rs) (zC (jJ h.1) rfl c) (.cons ⟨rfl,h.2⟩ q)
def rp(trs:List (TE×TE)):TE:=fun σ H Q=>∀p,H p=none->d4 trs σ (upd H p (.dK [])) fun ps H2=>H2 p=some (.dK [])/\∃kvs:List (Key×V),ps=kvs.map (fun kv=>(kV kv.1,kv.2))/\kvs.length<=15/\Q (.ref p) (upd H2 p (.dK (cw [] kvs)))
def IsD(H:Hp)(a:Addr):Prop:=(∃kvs,Rd H a (.dK kvs))\/∃kvs,Rd H a (.dT kvs)
theorem rW{X:Cx}{pins:List (Addr×Obj)}{σ:St}{H:Hp}{s:Shared}{a:Addr}(I:Inv X pins σ H s)(d:IsD H a):
  s.TypeIs (.ref a) "dict"/\(∀b,Value.ref a=.ref b->∃ob,s.heap.get? b=some ob/\ob.dict=none)/\(a==sysModules)=false:=by
 rcases d with ⟨kvs,e⟩ | ⟨kvs,e⟩
 ·obtain ⟨_,hd,vs,_,dd⟩:=fL I.hok e;refine zC dd.typeIs (fun b q=>?_) hd
  cases q
  obtain ⟨ob,_,_,h1,h2,_⟩:=dd;exact zA ob h1 h2.2.1
 ·obtain ⟨_,hd,xs,_,dd⟩:=jE I.hok e;refine zC dd.typeIs (fun b q=>?_) hd
  cases q
  obtain ⟨ob,_,_,h1,h2,_⟩:=dd;exact zA ob h1 h2.2.1
section
variable {X:Cx} {pins:List (Addr×Obj)} {σ:St} {H:Hp} {s:Shared} {a:Addr} {y d:V} {u r:Value} {o:Option V} {A:Around} {E:Value->Shared->Prop}
end
section
variable {X:Cx} {o e f:Expr} {apos cpos:Pos} {td ty tx:TE}
end
section
variable {X:Cx} {pins:List (Addr×Obj)} {σ:St} {H:Hp} {s:Shared} {a:Addr} {kvs:List (Key×V)} {A:Around} {E:Value->Shared->Prop}
end
section
variable {X:Cx} {pins:List (Addr×Obj)} {σ:St} {H:Hp} {s:Shared} {a:Addr} {y:V} {u:Value} {A:Around} {E:Value->Shared->Prop}
end
end L2
end
namespace Att
open PySem PySem.W PySem.Calls PyProof.Rows
theorem dW{P:Params}{h:Heap}:∀(ns:List Int)(vs:List Value),WellAll P h vs (ns.map WData.int)->IntsAre vs ns:=by
 intro ns
 induction ns with
 |nil=>
  intro vs w;rw [uu] at w
  cases w
  exact .nil
 |cons n ns ih=>
  intro vs w;rw [c5] at w
  cases w with
  |cons a b=>
   cases a
   exact .cons _ _ (ih _ b)
theorem lj{l:OpenLaw}{n:Nat}(hn:l.most=some n){P:Params}{h:Heap}{args:List WData}{vals:List Value}
  (hpre:l.row.toRowW.claim.pre args=true) (hwl:WellAll P h vals args) :
  ∃a vs ns,vals=[Value.ref a]/\args=[WData.list (ns.map WData.int)]/\h.get? a=some {cls:=.type "list",data:=.seq vs.toArray}/\IntsAre vs ns/\ns.length<=n:=by
 have hsh:WShape.hasAll [] args [.list .int]=true:=(pre_splitW hpre).1;have hc:l.pre.holds [] {args:=args}=true:=(pre_splitW hpre).2;obtain ⟨d,r,rfl,h1,h2⟩:=hasAllW_cons hsh;obtain rfl:=hasAllW_nil h2;obtain ⟨xs,rfl,h3⟩:=hasW_list h1;obtain ⟨ns,rfl⟩:=items_int h3;have hlen:ns.length<=n:=by
  unfold OpenLaw.pre at hc;have h4:(WTm.not (.lt (.lit (.int (n:Int))) (.len (.arg 0)))).holds [] {args:=[.list (ns.map .int)]}=true:=by have h4:=(holds_andW hc).1;rw [hn] at h4;exact h4
  have h5:=condW_of h4 (w_not (w_lt w_lit (w_len_list (w_arg rfl))));rw [ck] at h5;refine Nat.le_of_not_lt fun q=>?_;have q':(n:Int)<((ns.length:Nat):Int):=by omega
  first
   | (rw [cm q'] at h5;exact absurd h5 Jm)
   | (simp at h5;omega)
 cases hwl with
 |cons w1 w2=>
  cases w2
  cases w1 with
  |list ho hall=>exact zJ _ _ ns rfl rfl ho (dW ns _ hall) hlen
theorem kZ(l:OpenLaw)(args:List WData):l.row.toRowW.claim.post args (.bool true) args=true:=
 postW_of (r:=l.row.toRowW) (X:=(true==true))
  (show WShape.has [] (.bool true) .bool=true by first | rfl | decide | simp [WShape.has,WShape.arms,WShape.armsAll])
  (show (WTm.eq .res (.lit (.bool true))).value [] {args:=args,res:=some (.bool true),after:=args}=some (.bool (true==true)) from w_eq_bool (w_res rfl) w_lit) rfl
section
variable {prog:Program} {w:World} {A:Around} {E:Value->Shared->Prop} {s:Shared} {K:Frag}
end
end Att
namespace L2
open PySem PySem.Spec PyProof.Rows
theorem g0:∀{vs:List Value} {ns:List Int},IntsAre vs ns->Vals (ns.map V.int) vs
 |_,_,.nil=>.nil
 |_,_,.cons n t h=>.cons ⟨t,rfl⟩ (g0 h)
def rN(H:Hp):Prop:=∀b,H b=none\/∃o xs,H b=some (.frz o (.lst xs))
theorem mB{P:Program}{w:World}{K:W.Frag}{mg mb:Str->Option Value}{CX:CXT}{k:Nat}{fa a:Addr}{fd:FuncData}{x:Str}{sp:Sp}{s₁:Shared}{vs:List Value}{ns:List Int}
  (KX:K.In s₁.heap) (hns:s₁.heap.Ns mainGlobals mg) (hb:s₁.heap.Ns builtinsNs mb) (hbb:∀x:Str,x≠"__name__"->mb x=bootBuiltins x) (hlim:s₁.heap.NoLimit) (hg:s₁.gens=#[])
  (ha:s₁.heap.get? a=some {cls:=.type "list",data:=.seq vs.toArray}) (hi:IntsAre vs ns) (hl:ns.length<=sizeLine) (hr:Room k callerA)
  (F:∀base:Heap,K.In base->base.Ns mainGlobals mg->FnOk P w K mg base CX k fa fd [x] sp) (hbind:∀(s:Shared)(u:Value),BindsTo s fd ⟨[u],[]⟩ [(x,u)])
  (hsp:∀H:Hp,rN H->SqL K H a (ns.map V.int)->sp [.ref a] H (fun v _=>v=.bl true) fun _ _ _=>False)
  (hCX:∀H e s',CX [] H s₁ (fun _ _ _=>False) e s'->False) :
  codeAny (model P w) callerA (.call (.ref fa) ⟨[.ref a],[]⟩) (fun r s'=>r=.ok (.ret (.bool true))/\OldK s₁.heap s'.heap/\s'.os=s₁.os/\AllBare s'.gens) s₁:=by
 have rv:=g0 hi;have lenV:=hi.length;have core:∀H:Hp,rN H->SqL K H a (ns.map V.int)->HOk P w H s₁.heap->(∀b,H b≠none->b=a)->(H a≠none->K.lookup a=none)->
   codeAny (model P w) callerA (.call (.ref fa) ⟨[.ref a],[]⟩) (fun r s'=>r=.ok (.ret (.bool true))/\OldK s₁.heap s'.heap/\s'.os=s₁.os/\AllBare s'.gens) s₁:=by
  intro H hO hS hok hA hK;have base_of:∀{b:Addr} {o:Obj},s₁.heap.get? b=some o->H b=none->(gz s₁.heap H).get? b=some o:=fun e n=>mx e n;have noA:∀{b:Addr} {o:Obj} {es:Array DictEntry} {ep:Nat},s₁.heap.get? b=some o->o.data=.dict es ep->H b=none:=fun {b o es ep} e d=>by
   cases q:H b with
   |none=>rfl
   |some u=>
    have e':b=a:=hA b (by rw [q];simp);subst e';rw [ha] at e;cases e;have d':Data.seq vs.toArray _=Data.dict es ep:=d
    cases d'
  have nsK:∀{b:Addr} {m:Str->Option Value},s₁.heap.Ns b m->(gz s₁.heap H).Ns b m:=fun {b m} ⟨o,es,ep,e,d,r⟩=>zV o es ep (base_of e (noA e d)) d r
  have hKb:K.In (gz s₁.heap H):=fun b o e=>base_of (KX b o e) (by
   cases q:H b with
   |none=>rfl
   |some u=>have e':b=a:=hA b (by rw [q];simp);subst e';rw [hK (by rw [q];simp)] at e;cases e)
  have hM:Mod K mg (gz s₁.heap H):=⟨hKb,nsK hns,zA mb (nsK hb) hbb,let ⟨mc,h1,h2⟩:=hlim;(zA mc (nsK h1) h2)⟩
  have e0:Env0 P w K mg (gz s₁.heap H) callerA [] s₁ H:=⟨rfl,hM,fun b o e=>pj e,qz (kI _ _),trivial,fun b hb=>absurd (show b∈([]:List Addr) from hb) Jo,hok,.of_eq hg⟩
  refine codeAny_mono ((F _ hKb (nsK hns)).run callerA [] s₁ H ⟨[.ref a],[]⟩ [.ref a] [.ref a] _ _ hr e0 (hbind s₁ (.ref a)) (.cons rfl .nil) (hsp H hO hS)) fun r s' h=>?_
  cases r with
  |error e=>exact (hCX H e s' h).elim
  |ok fl=>
   cases fl with
   |next=>exact False.elim h
   |brk=>exact False.elim h
   |cont=>exact False.elim h
   |ret u=>
    obtain ⟨v,H',os,bare,un,hok',r',q⟩:=h;have q':v=.bl true:=q;subst q';obtain rfl:u=Value.bool true:=r';refine zG rfl (OldK.of_keep fun b o e=>?_) os bare
    cases q:H b with
    |none=>exact un.keep b o e q (by intro z;exact absurd (show b∈([]:List Addr) from z) Jo) Jo
    |some u=>
     rcases hO b with z | ⟨ob,xs,z⟩
     ·rw [q] at z;cases z
     ·have z2:=un.frzs b ob _ z;obtain ⟨e1,_⟩:=hok b _ z;obtain ⟨e2,_⟩:=hok' b _ z2;rw [e] at e1;cases e1;exact e2
 cases hk:K.lookup a with
 |some o=>
  have e:=KX a o hk;rw [ha] at e
  cases e
  refine core (fun _=>none) (fun _=>.inl rfl) (.inr (zO _ vs.toArray _ (zI hk rfl rfl rfl (by rw [cN,lenV];exact hl) (by simpa using rv)))) (fun b u z=>by have z':(none:Option HO)=some u:=z;cases z') (fun b z=>absurd rfl z) fun z=>absurd rfl z
 |none=>
  refine core (fun b=>if b=a then some (.frz {cls:=.type "list",data:=.seq vs.toArray} (.lst (ns.map V.int))) else none) (fun b=>?_) (.inl (.inr ⟨{cls:=.type "list",data:=.seq vs.toArray},zq2 rfl⟩)) (fun b u z=>?_) (fun b z=>?_) fun _=>hk
  ·by_cases hb:b=a
   ·exact .inr (zR _ _ (zq2 hb))
   ·exact .inl (zq1 hb)
  ·by_cases hb:b=a
   ·have z':=(zq2 hb).symm.trans z
    cases z'
    subst hb;exact zC ha (by rw [ck];exact hl) (zE vs _ rv ha)
   ·have z':=(zq1 hb).symm.trans z
    cases z'
  ·by_cases hb:b=a
   ·exact hb
   ·exact absurd (zq1 hb) z
end L2
namespace L2
open PySem PySem.Spec PyProof.Rows
end L2
/- THE LAST THEOREM (shape;LID,My.* are yours):
   My.Adr: a structure of the addresses that your layer names (classes,functions);My.Txt K t: a structure (Prop) of the equations over K;
   My.txt_mk:{K} {implicit addresses ..} (e1:nsIn K mainGlobals "law"=some (some (.ref f))) (e2:K.lookup f=some ⟨oc,od,.func (fnOf "law" "law" params body scope dV kV doc pm an cdv ct),sl⟩) (e3:codeIn K cdv "law"=true) ..:∃t,My.Txt K t
set_option maxRecDepth 100000 in
set_option maxHeartbeats 0 in
theorem PySem.Challenge.cw_LID_holds:PySem.Challenge.rw_LID.Holds:=by
 w_on;o_law;k_head;(case hw=>w_witness2)
 k_fill
 refine L2.walk_of (l:=PySem.Challenge.rw_LID) (n:=63) (k:=40) (x:="script") (CX:=fun w=>..) (sp:=fun _=>My.sp_law) rfl Jm rfl ⟨rfl,Jm,Jm⟩ (fun w h Y=>W.kIn_of Y) ?F ?S ?C
 case F=>
  intro w mg fa h KX G hmg;have T:∃t,My.Txt (L2.KOf KX) t:=by
   dsimp only [L2.KOf]                          -- K must stand as «<heap const> w.params» for k_is;refine' My.txt_mk ?e1 ?e2 ?e3 ..
   (case e1=>W.k_is)                    -- in the order: a name->its address->its object->its parts
   (case e2=>W.k_is)
   ..
  obtain ⟨t,T⟩:=T;have e0:=hmg.symm.trans (W.mg_of KX G T.law)
  cases e0                                       -- fa is the law's own address
  exact ⟨_,fun s u=>.of_eq rfl,fun base kb nb=>My.law_fn T kb nb⟩     -- if «.of_eq rfl» comes too early: refine' ⟨_,?b,fun base kb nb=>My.law_fn T kb nb⟩;exact fun s u=>.of_eq rfl
 case S=>exact fun w H a ns hl hO hS=>..
 case C=>exact ..
(the tactic k_is has no namespace: write k_is) -/
section
open PySem PySem.Spec PyProof.Rows
namespace L2
variable {f:Addr} {qual x:Str}
def c8(s:Stmt)(j:Nat):Stmt:=match s with
 | .ClassDef _ _ _ body _ _ _ _ _ _ _=>body.getD j (.Pass ⟨0,0,0,0⟩)
 |_=>.Pass ⟨0,0,0,0⟩
def bD(s:Stmt):Arguments:=match s with
 | .FunctionDef _ a _ _ _ _ _ _ _ _=>a
 |_=>{posonlyargs:=[],args:=[],vararg:=none,kwonlyargs:=[],kw_defaults:=[],kwarg:=none,defaults:=[]}
def bu(s:Stmt):List Stmt:=match s with
 | .FunctionDef _ _ b _ _ _ _ _ _ _=>b
 |_=>[]
def ap(s:Stmt):Scope:=match s with
 | .FunctionDef _ _ _ _ _ _ sc _ _ _=>sc
 |_=>{kind:=.function,names:=[],isGenerator:=false,isCoroutine:=false}
abbrev CX0:CXT:=fun _ _ _ _ _ _=>False
abbrev E0:XK:=fun _ _ _=>False
theorem jO{X:Cx}:cn CX0 X E0:=fun _ _ _ _ _ _ _ h=>h.elim
structure Fun(K:W.Frag)(x qual:Str)(st:Stmt)(f:Addr)(fd:FuncData):Prop where
 ex:∃(oc:Value)(od:Option Addr)(kV doc pm:Value)(an:Option Addr)(cdv ct:Value)(osl:Array (Option Value)),
  fd=W.fnOf x qual (bD st) (bu st) (ap st) .none kV doc pm an cdv ct/\K.lookup f=some ⟨oc,od,.func fd,osl⟩/\W.codeIn K cdv qual=true
 kp:W.keepIn K (.ref f)=true
section
variable {P:Program} {w:World} {K:W.Frag} {mg:Str->Option Value} {base:Heap}
theorem Fun.ok{st:Stmt}{fd:FuncData}{N ps:List Str}{k:Nat}{sp:Sp}(F:Fun K x qual st f fd)(S:az N ps (ap st))(len:∀vs H Q E,sp vs H Q E->vs.length=ps.length)
 (hbody:∀(cdv:Value)(A:Around)(outer:List Env)(s:Shared)(H:Hp)(vs:List V)(Q:VK)(E:XK),Room k (A.deeper (envOfC qual (ap st) s.heap.objs.size f cdv))->sp vs H Q E->
 ∃t,PSs (cL CX0 P w K mg base N qual (ap st) f cdv A outer s H E).nox (bu st) t/\t {nx:=fun _ H'=>Q .non H',rt:=Q} (aM N vs) H):FnOk P w K mg base CX0 (k+1) f fd ps sp:=by
 obtain ⟨oc,od,kV,doc,pm,an,cdv,ct,osl,rfl,lk,hcd⟩:=F.ex;refine qR lk hcd S len fun A outer s H vs Q E hr hsp=>?_;obtain ⟨t,h,q⟩:=hbody cdv A outer s H vs Q E hr hsp;exact zA t h.nox q
theorem Fun.binds{st:Stmt}{fd:FuncData}{ps:List Str}(F:Fun K x qual st f fd)
 (h:∀(kV doc pm:Value)(an:Option Addr)(cdv ct:Value)(us:List Value),us.length=ps.length->bindArgs (W.fnOf x qual (bD st) (bu st) (ap st) .none kV doc pm an cdv ct) ⟨us,[]⟩=pure (ps.zip us)):Binds K fd ps []:=by
 obtain ⟨oc,od,kV,doc,pm,an,cdv,ct,osl,rfl,lk,hcd⟩:=F.ex;exact .all (h kV doc pm an cdv ct)
theorem gx{st:Stmt}{oc:Value}{od an:Option Addr}{osl:Array (Option Value)}{kV doc pm cdv ct:Value}(l:K.lookup f=some ⟨oc,od,.func (W.fnOf x qual (bD st) (bu st) (ap st) .none kV doc pm an cdv ct),osl⟩)
 (c:W.codeIn K cdv qual=true) (k:W.keepIn K (.ref f)=true):Fun K x qual st f (W.fnOf x qual (bD st) (bu st) (ap st) .none kV doc pm an cdv ct):=⟨zZ oc od kV doc pm an cdv ct osl (zC rfl l c),k⟩
end
theorem fO{A:Around}{k:Nat}(hr:Room k A):A.units+1<cLine:=jo (qD (by decide:1<=64) _) hr.units
section
variable {X:Cx}
end
theorem wo{A B:Prop}(h:B):if false=true then A else B:=by rw [zq1 zq6];exact h
theorem wq{A B:Prop}(h:A):if true=true then A else B:=by rw [zq2 rfl];exact h
def Same(H H':Hp):Prop:=∀b o,H b=some o->H' b=some o
theorem Same.refl(H:Hp):Same H H:=fun _ _ h=>h
theorem Same.trans{H H1 H2:Hp}(a:Same H H1)(b:Same H1 H2):Same H H2:=fun c o h=>b c o (a c o h)
theorem Same.free{H H':Hp}(e:Same H H'){l:Addr}(h:H' l=Option.none):H l=Option.none:=by
 cases q:H l with
 |none=>rfl
 |some o=>
  rw [e l o q] at h
  cases h
end L2
namespace L2
section
variable {X:Cx}
end
section
variable {κ:Type} [DecidableEq κ]
theorem nZ{kvs:List (κ×V)}{k:κ}(h:aN kvs k=none):¬k∈kvs.map (·.1):=by intro m;obtain ⟨p,hp,e⟩:=zq34.mp m;have q:(kvs.any fun kv=>decide (kv.1=k))=true:=List.any_eq_true.mpr (zA p hp (cm e));rw [bC,h] at q;exact absurd q Jo
theorem jL:∀{l:List κ} {k:κ},l.Nodup->¬k∈l->(l++[k]).Nodup
 | [],k,_,_=>by simp
 |a::r,k,h,hk=>by
  obtain ⟨h1,h2⟩:=zq30.mp h;show (a::(r++[k])).Nodup;refine zq30.mpr ⟨fun m=>?_,jL h2 fun m=>hk (zq8.mpr (Or.inr m))⟩;rcases zq23.mp m with q | q
  ·exact h1 q
  ·exact hk (zq8.mpr (Or.inl (zq28.mp q).symm))
theorem pd{kvs:List (κ×V)}{k:κ}(v:V)(hn:(kvs.map (·.1)).Nodup)(h:aN kvs k=none):((b6 kvs k v).map (·.1)).Nodup:=by rw [ii v h,fm];exact jL hn (nZ h)
end
end L2
namespace L2
section
variable {X:Cx}
def CDivB(i j:Int):Prop:=0<j/\j.natAbs.log2<9000
theorem mU:OpR X (binaryOp .FloorDiv) (rI CDivB fun i j=>.int (i / j)):=opI fun i j _ _ _ _ _ hc q=>by have h1:(0:Int)<j:=hc.1;exact floordiv_int Jn (by rw [Int.fdiv_eq_ediv_of_nonneg i Jn];exact q) (.inl (PyProof.noPylong_of_log2 hc.2))
theorem pD:OpR X (binaryOp .Mult) (rI IntMulOk fun i j=>.int (i * j)):=opI fun _ _ _ _ _ _ _ hc q=>mul_int q hc
theorem CDivB.small{i j:Int}(h:0<j)(h2:j<1073741824):CDivB i j:=⟨h,by have h3:j.natAbs.log2<30:=(Nat.log2_lt Jn).mpr Jn;omega⟩
end
theorem aA{c A B:Prop}[Decidable c](h1:c->A)(h2:¬c->B):if decide c=true then A else B:=by
 by_cases h:c
 ·rw [zq2 (cm h)];exact h1 h
 ·rw [zq1 (fun q=>h (of_decide_eq_true q))];exact h2 h
theorem hX{c A B:Prop}[Decidable c](h1:¬c->A)(h2:c->B):if (! decide c)=true then A else B:=by
 by_cases h:c
 ·rw [cm h];exact wo (h2 h)
 ·rw [zq7 h];exact wq (h1 h)
structure ba(K:W.Frag)(mg:Str->Option Value)(x:Str)(st:Stmt)(ps:List Str)(f:Addr)(fd:FuncData):Prop where
 F:Fun K x x st f fd
 B:Binds K fd ps []
 M:mg x=some (.ref f)
theorem mZ{X:Cx}{k:Nat}{f:Addr}{fd:FuncData}{ps:List Str}{sp:Sp}{x:Str}{st:Stmt}{p pos:Pos}{e:Expr}{es:List Expr}{t:TA}(D:ba X.K X.mg x st ps f fd)(G:FnOk X.prog X.w X.K X.mg X.base CX0 k f fd ps sp)(hr:Room k X.A)
  (ha:PA X (e::es) t) (hg:Gl X x:=by rfl) (hdb:(x==("__debug__":Str))=false:=by decide) (he:starEach (e::es) X.env=(false,eval e X.env)::starEach es X.env:=by rfl) (hpl:(backTo pos (starEach es X.env)).any (·.1)=false:=by rfl) :
  PE X (.Call (.Name x p) (e::es) [] pos) (iC sp [] E0 t):=pG G hr hg D.M D.F.kp D.B .nil jO ha hdb he hpl
theorem gQ{ns:List Int}(h:W.WData.layableAll [W.WData.list (ns.map W.WData.int)]=true):∀n∈ns,Builtin.Int.intBits n<=2 ^ 20:=fun n hn=>by have h1:=(W.layW_cons h).1;have h2:=W.layableW_item h1 (W.WData.int n) (zq34.mpr (zA n hn rfl));exact PyData.bits_of_layable (W.layable0_of_all (W.lay0_int h2))
section
open PySem.W PySem.Calls
theorem oh{l:W.OpenLaw}{n k:Nat}{q:Program}{loose:List Str}{XP:(Str->Option Value)->Heap->Prop}{YP:World->Heap->Prop}{d:DefRec}{K:Params->W.Frag}{CX:World->CXT}{sp:World->Sp}{x:Str}
  (hn:l.most=some n) (hn2:n<=sizeLine) (hdf:d.params.defaults=[]) (hr:Room k callerA)
  (hY:∀(w:World)(h:Heap),YP w h->(K w.params).In h)
  (F:∀(w:World)(mg:Str->Option Value)(fa:Addr)(h:Heap),(K w.params).In h->h.Ns mainGlobals mg->mg d.name=some (.ref fa)->
   ∃fd:FuncData,(∀(s:Shared)(u:Value),BindsTo s fd ⟨[u],[]⟩ [(x,u)])/\
    ∀base:Heap,(K w.params).In base->base.Ns mainGlobals mg->FnOk l.prog w (K w.params) mg base (CX w) k fa fd [x] (sp w))
  (hsp:∀(w:World)(H:Hp)(a:Addr)(ns:List Int),ns.length<=n->(∀z∈ns,Builtin.Int.intBits z<=2 ^ 20)->rN H->SqL (K w.params) H a (ns.map V.int)->sp w [.ref a] H (fun v _=>v=.bl true) fun _ _ _=>False)
  (hCX:∀(w:World)(H:Hp)(s:Shared)(e:Value)(s':Shared),CX w [] H s (fun _ _ _=>False) e s'->False) :
  W.WalkO q loose XP YP l.row.toRowW d [] (fun f vs=>PySem.call f vs):=by
 intro w s₀ s₁ mg mb G Y fa o pm cd doc dV kV ho hd hcd hD hmg hg args vals as hpre hlay hrd hwl hlo;obtain rfl:dV=.none:=Dflts.none hD hdf;obtain rfl:kV=.none:=Dflts.noKw hD;obtain ⟨a,vs,ns,rfl,rfl,hobj,hints,hlen⟩:=Att.lj hn hpre hwl;have KX:=hY w _ Y;obtain ⟨fd,hb,hF⟩:=F w mg fa _ KX G.T.g hmg;refine enter_call (codeAny_mono (mB KX G.T.g G.T.b G.T.builtins G.T.nolimit hg hobj hints (bO hlen hn2) hr hF hb (fun H hO hS=>hsp w H a ns hlen (gQ hlay) hO hS) fun H e s'=>hCX w H s₁ e s') fun r s' hq=>?_);obtain ⟨rfl,h2,h3,h4⟩:=hq;exact zG (.inl (zJ (.bool true) (.bool true) ([]) rfl (fun _=>rfl) (.bool true) (Att.kZ l _) fun _=>⟨List.Pairwise.nil,fun _ hm=>(nomatch hm)⟩)) h2 h3 h4
end
end L2
namespace L2
variable {a0 a1 a2 a3 a4 a5 a6 a7:Option V} {i j:Int} {p:Addr} {r:St} {ta te:TE}
section
variable {H:Hp} {Q:VK} {σ:St} {D:bK}
theorem wC{v:V}{b:Option V}{Z:St->Hp->Prop}:bc 0 v (b::r) H Z=Z (some v::r) H:=rfl
theorem wD{v:V}{b:Option V}{Z:St->Hp->Prop}:bc 1 v (a0::b::r) H Z=Z (a0::some v::r) H:=rfl
theorem wF{v:V}{b:Option V}{Z:St->Hp->Prop}:bc 2 v (a0::a1::b::r) H Z=Z (a0::a1::some v::r) H:=rfl
theorem wG{v:V}{b:Option V}{Z:St->Hp->Prop}:bc 3 v (a0::a1::a2::b::r) H Z=Z (a0::a1::a2::some v::r) H:=rfl
theorem wH{v:V}{b:Option V}{Z:St->Hp->Prop}:bc 4 v (a0::a1::a2::a3::b::r) H Z=Z (a0::a1::a2::a3::some v::r) H:=rfl
theorem wI{v:V}{b:Option V}{Z:St->Hp->Prop}:bc 5 v (a0::a1::a2::a3::a4::b::r) H Z=Z (a0::a1::a2::a3::a4::some v::r) H:=rfl
theorem wJ{v:V}{b:Option V}{Z:St->Hp->Prop}:bc 6 v (a0::a1::a2::a3::a4::a5::b::r) H Z=Z (a0::a1::a2::a3::a4::a5::some v::r) H:=rfl
theorem wK{v:V}{b:Option V}{Z:St->Hp->Prop}:bc 7 v (a0::a1::a2::a3::a4::a5::a6::b::r) H Z=Z (a0::a1::a2::a3::a4::a5::a6::some v::r) H:=rfl
theorem wL{v:V}{b:Option V}{Z:St->Hp->Prop}:bc 8 v (a0::a1::a2::a3::a4::a5::a6::a7::b::r) H Z=Z (a0::a1::a2::a3::a4::a5::a6::a7::some v::r) H:=rfl
theorem wM{v:V}{b:Option V}{Z:St->Hp->Prop}{a8:Option V}:bc 9 v (a0::a1::a2::a3::a4::a5::a6::a7::a8::b::r) H Z=Z (a0::a1::a2::a3::a4::a5::a6::a7::a8::some v::r) H:=rfl
theorem vg{v:V}{b:Option V}{Z:St->Hp->Prop}{a8:Option V}{a9:Option V}:bc 10 v (a0::a1::a2::a3::a4::a5::a6::a7::a8::a9::b::r) H Z=Z (a0::a1::a2::a3::a4::a5::a6::a7::a8::a9::some v::r) H:=rfl
theorem r_c{v:V}:tC v σ H Q=Q v H:=rfl
theorem wR{r:R2}{tb:TE}:tOp r ta tb σ H Q=ta σ H fun x H1=>tb σ H1 fun y H2=>r x y H2 Q:=rfl
theorem gW:decide (V.int i=V.int j)=decide (i=j):=by
 by_cases h:i=j
 ·rw [cm h,cm (congrArg V.int h)]
 ·rw [zq7 h,zq7 fun q=>h (V.int.inj q)]
theorem m9{i j:Str}:decide (V.str i=V.str j)=decide (i=j):=by
 by_cases h:i=j
 ·rw [cm h,cm (congrArg V.str h)]
 ·rw [zq7 h,zq7 fun q=>h (V.str.inj q)]
theorem v9:rEq (.int i) (.int j) H Q=Q (.bl (decide (i=j))) H:=by show (nR (.int i) (.int j)=true/\Q (.bl (decide (V.int i=V.int j))) H)=_;rw [gW];exact propext ⟨fun h=>h.2,fun h=>⟨rfl,h⟩⟩
theorem vd{i j:Str}:rEq (.str i) (.str j) H Q=Q (.bl (decide (i=j))) H:=by show (nR (.str i) (.str j)=true/\Q (.bl (decide (V.str i=V.str j))) H)=_;rw [m9];exact propext ⟨fun h=>h.2,fun h=>⟨rfl,h⟩⟩
theorem vp:rNe (.int i) (.int j) H Q=Q (.bl (! decide (i=j))) H:=by show (nR (.int i) (.int j)=true/\Q (.bl (! decide (V.int i=V.int j))) H)=_;rw [gW];exact propext ⟨fun h=>h.2,fun h=>⟨rfl,h⟩⟩
theorem t9{c:Bool}{Z:Bool->Prop}:(∃k,V.bl c=V.bl k/\Z k)=Z c:=propext ⟨by rintro ⟨_,e,q⟩;cases e;exact q,by intro q;exact zA c rfl q⟩
theorem pS{c:Int}{Z:Int->Prop}:(∃k,V.int c=V.int k/\Z k)=Z c:=propext ⟨by rintro ⟨_,e,q⟩;cases e;exact q,by intro q;exact zA c rfl q⟩
theorem tP{t:TE}{Z:Bool->Hp->Prop}:rC t σ H Z=t σ H fun x H'=>∃k,x=.bl k/\Z k H':=rfl
theorem r_B{t:TE}{Z:Bool->Hp->Prop}:tB t σ H Z=t σ H fun x H'=>∃k,x=.bl k/\Z k H':=rfl
theorem wU{t u:TT}{Z:Bool->Hp->Prop}:tOr t u σ H Z=t σ H fun c H1=>if c=true then Z true H1 else u σ H1 Z:=rfl
theorem vr{t:TT}{Z:Bool->Hp->Prop}:w9 t σ H Z=t σ H fun c H1=>Z (! c) H1:=rfl
theorem wN{t:TT}{tb:TE}:tIf t ta tb σ H Q=t σ H fun c H1=>if c=true then ta σ H1 Q else tb σ H1 Q:=rfl
theorem tK:rA D σ H=D.nx σ H:=rfl
theorem rh{t u:TS}:tX t u D σ H=t {D with nx:=u D} σ H:=rfl
theorem sZ:rq te D σ H=te σ H fun _ H1=>D.nx σ H1:=rfl
theorem vt:wc te D σ H=te σ H D.rt:=rfl
theorem vh{c:TT}{t u:TS}:w5 c t u D σ H=c σ H fun b H1=>if b=true then t D σ H1 else u D σ H1:=rfl
theorem v5{g:TG}:tU te g D σ H=te σ H fun x H1=>g x σ H1 D.nx:=rfl
theorem wz{r:List V->Hp->VK->Prop}{t:TA}:tCB r t σ H Q=t σ H fun vs H1=>r vs H1 Q:=rfl
theorem vq{Z:List V->Hp->Prop}:lu σ H Z=Z [] H:=rfl
theorem sV{tr:TA}{Z:List V->Hp->Prop}:nU ta tr σ H Z=ta σ H fun x H1=>tr σ H1 fun xs H2=>Z (x::xs) H2:=rfl
theorem sU{sp:Sp}{E:XK}{t:TA}:iC sp [] E t σ H Q=t σ H fun vs H1=>sp vs H1 Q E:=by show (t σ H fun vs H1=>sp (vs++[]) H1 Q E)=_;simp only [List.append_nil]
theorem vy{t:TA}:we t σ H Q=t σ H fun xs H1=>xs.length<=sizeLine/\∀p,H1 p=none->Q (.ref p) (upd H1 p (.tup xs)):=rfl
theorem vo{t:TA}:w6 t σ H Q=t σ H fun xs H1=>xs.length<=sizeLine/\∀p,H1 p=none->Q (.ref p) (upd H1 p (.lst xs)):=rfl
theorem wV{Z:List (V×V)->Hp->Prop}:d4 [] σ H Z=Z [] H:=rfl
theorem wW{tk tv:TE}{r:List (TE×TE)}{Z:List (V×V)->Hp->Prop}:d4 ((tk,tv)::r) σ H Z=tk σ H fun x H1=>tv σ H1 fun y H2=>d4 r σ H2 fun ps H3=>Z ((x,y)::ps) H3:=rfl
theorem sX{trs:List (TE×TE)}:rp trs σ H Q=∀p,H p=none->d4 trs σ (upd H p (.dK [])) fun ps H2=>H2 p=some (.dK [])/\∃kvs:List (Key×V),ps=kvs.map (fun kv=>(kV kv.1,kv.2))/\kvs.length<=15/\Q (.ref p) (upd H2 p (.dK (cw [] kvs))):=rfl
theorem sW{td ty:TE}:rm td ty σ H Q=td σ H fun x H1=>ty σ H1 fun y H2=>∃a v,x=.ref a/\oI H2 a y (some v)/\Q v H2:=rfl
theorem wX{r:V->Option Int->Option Int->Hp->VK->Prop}{tl th:TO}:tSl r te tl th σ H Q=te σ H fun x H1=>tl σ H1 fun l H2=>th σ H2 fun u H3=>r x l u H3 Q:=rfl
theorem nG{Z:Option Int->Hp->Prop}:kg σ H Z=Z none H:=rfl
theorem tM{Z:Option Int->Hp->Prop}:rB te σ H Z=te σ H fun x H1=>∃i,x=.int i/\Z (some i) H1:=rfl
theorem wQ:(! true)=false:=rfl
theorem wO:(! false)=true:=rfl
theorem tq:(([]:List V).length<=sizeLine)=True:=eq_true (by show 0<=sizeLine;decide)
theorem tu{a0:V}:(([a0]:List V).length<=sizeLine)=True:=eq_true (by show 1<=sizeLine;decide)
theorem tw{a0 a1:V}:(([a0,a1]:List V).length<=sizeLine)=True:=eq_true (by show 2<=sizeLine;decide)
theorem tD{a0 a1 a2:V}:(([a0,a1,a2]:List V).length<=sizeLine)=True:=eq_true (by show 3<=sizeLine;decide)
theorem tE{a0 a1 a2 a3:V}:(([a0,a1,a2,a3]:List V).length<=sizeLine)=True:=eq_true (by show 4<=sizeLine;decide)
theorem tF{a0 a1 a2 a3 a4:V}:(([a0,a1,a2,a3,a4]:List V).length<=sizeLine)=True:=eq_true (by show 5<=sizeLine;decide)
theorem tG{a0 a1 a2 a3 a4 a5 a6 a7:V}:(([a0,a1,a2,a3,a4,a5,a6,a7]:List V).length<=sizeLine)=True:=eq_true (by show 8<=sizeLine;decide)
end
def oJ(J:It)(g:TG)(tb:TS)(D:bK)(σ:St)(H1:Hp):Prop:=∃W:Nat->Nat->St->Hp->Prop,(∃m,W 0 m σ H1)/\∀i m σ H,W i m σ H->
 (J.stop i H/\D.nx σ H)\/(J.go i H/\∃N:St->Hp->Prop,(∀σ' H',N σ' H'->∃m',m'<m/\W (i+1) m' σ' H')/\∀x H',J.yld i H x H'->g x σ H' fun σ2 H2=>tb {D with nx:=N,ct:=N,bk:=D.nx} σ2 H2)
section
variable {g:TG} {tb:TS} {D:bK} {σ:St} {H:Hp}
theorem vf{wi:TI}:tV wi g tb D σ H=wi σ H fun J H1=>oJ J g tb D σ H1:=rfl
theorem pT{K:W.Frag}{tl:TE}{R:It->Hp->Prop}:qS K tl σ H R=tl σ H fun x H1=>∃a,x=.ref a/\(∃xs,SqL K H1 a xs)/\R (Itl K a) H1:=rfl
theorem ti{K:W.Frag}{tl:TE}{R:It->Hp->Prop}:uO K tl σ H R=tl σ H fun x H1=>∃a,x=.ref a/\(∃xs,SqT K H1 a xs)/\R (Itt K a) H1:=rfl
theorem pU{ta:TA}{R:It->Hp->Prop}:qT ta σ H R=ta σ H fun vs H1=>∃j:Int,vs=[.int j]/\-(2 ^ 62)<=j/\j<2 ^ 62/\R (Itr 0 j.toNat) H1:=rfl
theorem t4{c:Int}{Z:Int->Prop}:(∃k,[V.int c]=[V.int k]/\Z k)=Z c:=propext ⟨by rintro ⟨_,e,q⟩;cases e;exact q,by intro q;exact zA c rfl q⟩
theorem ve{c:Addr}{Z:Addr->Prop}:(∃k,V.ref c=V.ref k/\Z k)=Z c:=propext ⟨by rintro ⟨_,e,q⟩;cases e;exact q,by intro q;exact zA c rfl q⟩
theorem mn{lo:Int}{n:Nat}(Pv:Nat->St->Hp->Prop)(h0:Pv 0 σ H)
 (hs:∀(i:Nat)σ H,i<n->Pv i σ H->g (.int (lo+i)) σ H fun σ2 H2=>tb {D with nx:=Pv (i+1),ct:=Pv (i+1),bk:=D.nx} σ2 H2) (hd:∀σ H,Pv n σ H->D.nx σ H):oJ (Itr lo n) g tb D σ H:=kF Pv h0 hs hd
theorem cE{n:Nat}(Pv:Nat->St->Hp->Prop)(h0:Pv 0 σ H)
 (hs:∀(i:Nat)σ H,i<n->Pv i σ H->g (.int (i:Int)) σ H fun σ2 H2=>tb {D with nx:=Pv (i+1),ct:=Pv (i+1),bk:=D.nx} σ2 H2) (hd:∀σ H,Pv n σ H->D.nx σ H):oJ (Itr 0 n) g tb D σ H:=
 mn Pv h0 (fun i σ H hi p=>by rw [qE];exact hs i σ H hi p) hd
theorem p6{K:W.Frag}{a:Addr}{xs:List V}(Pv:Nat->St->Hp->Prop)(h0:Pv 0 σ H)(hl:∀i σ H,i<=xs.length->Pv i σ H->SqL K H a xs)
 (hs:∀(i:Nat)x σ H,xs[i]?=some x->Pv i σ H->g x σ H fun σ2 H2=>tb {D with nx:=Pv (i+1),ct:=Pv (i+1),bk:=D.nx} σ2 H2) (hd:∀σ H,Pv xs.length σ H->D.nx σ H):oJ (Itl K a) g tb D σ H:=mm Pv h0 hl hs hd
theorem Same.upd{H:Hp}{o:HO}(h:H p=none):Same H (upd H p o):=fun b u e=>by rw [aj (am e h)];exact e
theorem Same.seqT{K:W.Frag}{H H':Hp}{a:Addr}{xs:List V}(e:Same H H')(h:SqT K H a xs):SqT K H' a xs:=by
 rcases h with (h | ⟨o,h⟩) | h
 ·exact .inl (.inl (e _ _ h))
 ·exact .inl (.inr ⟨o,e _ _ h⟩)
 ·exact .inr h
end
section
variable {H:Hp} {Q:VK} {σ:St} {D:bK} {K:W.Frag}
theorem wB{T:String}{r:V->List V->Hp->VK->Prop}{to:TE}{t:TA}:tBM K T r to t σ H Q=to σ H fun x H1=>tyV K T x H1/\t σ H1 fun xs H2=>r x xs H2 Q:=rfl
theorem v6{T:String}{r:V->List V->Hp->VK->Prop}{to:TE}:vY K T r to σ H Q=to σ H fun x H1=>tyV K T x H1/\r x [] H1 Q:=rfl
theorem vm{z:Str}:v1 (.str z) (.int i) H Q=(z.length<=sizeLine/\∃c,atI z.cps.toList i=some c/\Q (.str ⟨#[c]⟩) H):=propext ⟨by rintro ⟨_,_,c,e1,e2,h1,h2,q⟩;cases e1;cases e2;exact ⟨h1,zA c h2 q⟩,by rintro ⟨h1,c,h2,q⟩;exact zJ _ _ c rfl rfl h1 h2 q⟩
theorem vk:v0 K (.ref p) (.int i) H Q=∃xs v,SqL K H p xs/\atI xs i=some v/\Q v H:=propext ⟨by rintro ⟨_,xs,_,v,e1,e2,h1,h2,q⟩;cases e1;cases e2;exact zB xs v h1 h2 q,by rintro ⟨xs,v,h1,h2,q⟩;exact zN _ xs _ v rfl rfl h1 h2 q⟩
theorem vn:v2 K (.ref p) (.int i) H Q=∃xs v,SqT K H p xs/\atI xs i=some v/\Q v H:=propext ⟨by rintro ⟨_,xs,_,v,e1,e2,h1,h2,q⟩;cases e1;cases e2;exact zB xs v h1 h2 q,by rintro ⟨xs,v,h1,h2,q⟩;exact zN _ xs _ v rfl rfl h1 h2 q⟩
theorem v8{a b:Addr}:uY (.ref a) (.ref b) H Q=∃xs zs,H a=some (.lst xs)/\H b=some (.lst zs)/\xs.length+zs.length<=sizeLine/\∀p,H p=none->Q (.ref p) (upd H p (.lst (xs++zs))):=propext ⟨by rintro ⟨_,_,xs,zs,e1,e2,h⟩;cases e1;cases e2;exact zR xs zs h,by rintro ⟨xs,zs,h⟩;exact zS _ _ xs zs (zC rfl rfl h)⟩
theorem vv{a:Addr}{lo hi:Option Int}:v3 K (.ref a) lo hi H Q=∃xs,SqL K H a xs/\∀p,H p=none->Q (.ref p) (upd H p (.lst (cj xs lo hi))):=propext ⟨by rintro ⟨_,xs,e1,h⟩;cases e1;exact ⟨xs,h⟩,by rintro ⟨xs,h⟩;exact zE _ xs rfl h⟩
theorem nB{a:Addr}{y:V}:jR (.ref a) [y] H Q=∃xs,H a=some (.lst xs)/\xs.length<sizeLine/\Q .non (upd H a (.lst (xs++[y]))):=propext ⟨by rintro ⟨_,xs,_,e1,e2,h⟩;cases e1;cases e2;exact ⟨xs,h⟩,by rintro ⟨xs,h⟩;exact zV _ xs _ rfl rfl h⟩
theorem t8{a b:Str}{Z:Str->Str->Prop}:(∃i j,V.str a=V.str i/\V.str b=V.str j/\Z i j)=Z a b:=propext ⟨by rintro ⟨_,_,e1,e2,q⟩;cases e1;cases e2;exact q,by intro q;exact zB a b rfl rfl q⟩
theorem t5{a:Addr}{Z:Addr->List V->Prop}:(∃p ys,[V.ref a]=[V.ref p]/\Z p ys)=∃ys,Z a ys:=propext ⟨by rintro ⟨_,ys,e1,q⟩;cases e1;exact ⟨ys,q⟩,by rintro ⟨ys,q⟩;exact zE a ys rfl q⟩
theorem tj{c:Bool}{Z:Int->Prop}{Y:Bool->Prop}:((∃i,[V.bl c]=[V.int i]/\Z i)\/∃k,[V.bl c]=[V.bl k]/\Y k)=Y c:=propext ⟨fun h=>(by rcases h with ⟨_,e,q⟩ | ⟨_,e,q⟩<;>cases e<;>exact q),fun q=>Or.inr (zA c rfl q)⟩
end
end L2
namespace L2
section
variable {prog:Program} {w:World} {A:Around} {R:Result->Shared->Prop} {s:Shared}
end
end L2
namespace L2
inductive Dq (K:W.Frag) (H:Hp):Nat->V->V->Bool->Prop where
 |flat {n:Nat} {x y:V} (fx:bi x=true) (fy:bi y=true):Dq K H n x y (eqV x y)
 |same {n:Nat} {a:Addr}:Dq K H n (.ref a) (.ref a) true
 |lists {n:Nat} {a b:Addr} {xs ys:List V} (e:Nat->Bool) (ne:a≠b) (ha:SqL K H a xs) (hb:SqL K H b ys) (hl:xs.length=ys.length)
   (he:∀(j:Nat)x y,xs[j]?=some x->ys[j]?=some y->Dq K H n x y (e j)):Dq K H (n+1) (.ref a) (.ref b) ((List.range xs.length).all e)
 |lens {n:Nat} {a b:Addr} {xs ys:List V} (ne:a≠b) (ha:SqL K H a xs) (hb:SqL K H b ys) (hl:¬xs.length=ys.length):Dq K H (n+1) (.ref a) (.ref b) false
 |tups {n:Nat} {a b:Addr} {xs ys:List V} (e:Nat->Bool) (ne:a≠b) (ha:SqT K H a xs) (hb:SqT K H b ys)
   (he:∀(j:Nat)x y,xs[j]?=some x->ys[j]?=some y->Dq K H n x y (e j)):Dq K H (n+1) (.ref a) (.ref b) ((List.range (min xs.length ys.length)).all e&&xs.length==ys.length)
section
variable {X:Cx} {pins:List (Addr×Obj)} {σ:St} {H:Hp} {s:Shared}
theorem dI{xs:List V}{its:List Value}(r:Vals xs its){j:Nat}(h:j<its.toArray.size):∃x,xs[j]?=some x/\RelV x its.toArray[j]:=by
 have hl:=r.length;have hj:j<xs.length:=by simpa [hl] using h
 obtain ⟨u,hu,ru⟩:=r.get (oB hj);have e:its.toArray[j]=u:=by
  have h2:its[j]?=some u:=hu;have h3:j<its.length:=by simpa using h
  rw [oB h3] at h2;simpa using h2
 exact zA (xs[j]) (oB hj) (by rw [e];exact ru)
theorem Dq.at(I:Inv X pins σ H s){n:Nat}{x y:V}{b:Bool}(d:Dq X.K H n x y b):∀{A:Around} {v u:Value},RelV x v->RelV y u->A.units+n<cLine->SeqAt.EqAt A s v u b:=by
 induction d with
 |flat fx fy=>intro A v u rv ru _;exact gw rv ru fx fy
 |same=>intro A v u rv ru _;cases rv;cases ru;exact SeqAt.EqAt.same _
 | @lists n a b xs ys e ne ha hb hl he ih=>
  intro A v u rv ru hu
  cases rv;cases ru
  obtain ⟨its,r,p,_⟩:=I.list ha;obtain ⟨its2,r2,p2,_⟩:=I.list hb;have e1:=r.length;have e2:=r2.length;have z:=SeqAt.RcAt.lists (A:=A) (e:=e) p.isList p2.isList (by simp;omega) Jn fun j h1 h2=>by obtain ⟨x,hx,rx⟩:=dI r h1;obtain ⟨y,hy,ry⟩:=dI r2 h2;exact ih j x y hx hy rx ry (by show A.units+1+n<cLine;omega)
  have e3:its.toArray.size=xs.length:=by simp [e1]
  rw [e3] at z;exact SeqAt.EqAt.of_refs ne z
 | @lens n a b xs ys ne ha hb hl=>
  intro A v u rv ru hu
  cases rv;cases ru
  obtain ⟨its,r,p,_⟩:=I.list ha;obtain ⟨its2,r2,p2,_⟩:=I.list hb;have e1:=r.length;have e2:=r2.length;exact SeqAt.EqAt.of_refs ne (SeqAt.RcAt.lists_lengths (A:=A) p.isList p2.isList (by simp;omega) Jn)
 | @tups n a b xs ys e ne ha hb he ih=>
  intro A v u rv ru hu
  cases rv;cases ru
  obtain ⟨its,r,p,_⟩:=I.tuple ha;obtain ⟨its2,r2,p2,_⟩:=I.tuple hb;have e1:=r.length;have e2:=r2.length;have z:=SeqAt.RcAt.tuples (A:=A) (e:=e) (show s.heap.IsTuple a its.toArray from p) (show s.heap.IsTuple b its2.toArray from p2) Jn fun j h1 h2=>by obtain ⟨x,hx,rx⟩:=dI r h1;obtain ⟨y,hy,ry⟩:=dI r2 h2;exact ih j x y hx hy rx ry (by show A.units+1+n<cLine;omega)
  have e3:its.toArray.size=xs.length:=by simp [e1]
  have e4:its2.toArray.size=ys.length:=by simp [e2]
  rw [e3,e4] at z;exact SeqAt.EqAt.of_refs ne z
end
inductive Rq (K:W.Frag) (H:Hp) (n:Nat):V->V->Bool->Prop where
 |lists {a b:Addr} {xs ys:List V} (e:Nat->Bool) (ha:SqL K H a xs) (hb:SqL K H b ys) (hl:xs.length=ys.length)
   (he:∀(j:Nat)x y,xs[j]?=some x->ys[j]?=some y->Dq K H n x y (e j)):Rq K H n (.ref a) (.ref b) ((List.range xs.length).all e)
 |lens {a b:Addr} {xs ys:List V} (ha:SqL K H a xs) (hb:SqL K H b ys) (hl:¬xs.length=ys.length):Rq K H n (.ref a) (.ref b) false
 |tups {a b:Addr} {xs ys:List V} (e:Nat->Bool) (ha:SqT K H a xs) (hb:SqT K H b ys)
   (he:∀(j:Nat)x y,xs[j]?=some x->ys[j]?=some y->Dq K H n x y (e j)):Rq K H n (.ref a) (.ref b) ((List.range (min xs.length ys.length)).all e&&xs.length==ys.length)
def wx(K:W.Frag)(n:Nat):R2:=fun x y H Q=>∃b,Rq K H n x y b/\Q (.bl b) H
section
variable {X:Cx}
theorem sv{n:Nat}(hu:X.A.units+(n+1)<cLine):OpR X (compareOp .Eq) (wx X.K n):=by
 intro pins s σ H x y v u Q I rx ry h;obtain ⟨b,d,q⟩:=h
 cases d with
 | @lists a c xs ys e ha hb hl he=>
  cases rx;cases ry
  obtain ⟨its,r,p,_⟩:=I.list ha;obtain ⟨its2,r2,p2,_⟩:=I.list hb;have e1:=r.length;have e2:=r2.length;have e3:its.toArray.size=xs.length:=by simp [e1]
  refine SeqAt.eq_listAt (e:=e) p.isList p2.isList (by simp;omega) Jn (fun j h1 h2=>?_) (zB (.bl _) H I rfl (by rw [e3];exact q));obtain ⟨x,hx,rx⟩:=dI r h1;obtain ⟨y,hy,ry⟩:=dI r2 h2;exact (he j x y hx hy).at I rx ry (by show X.A.units+1+n<cLine;omega)
 | @lens a c xs ys ha hb hl=>
  cases rx;cases ry
  obtain ⟨its,r,p,_⟩:=I.list ha;obtain ⟨its2,r2,p2,_⟩:=I.list hb;have e1:=r.length;have e2:=r2.length;exact SeqAt.eq_list_lengthsAt p.isList p2.isList (by simp;omega) Jn (zB (.bl _) H I rfl q)
 | @tups a c xs ys e ha hb he=>
  cases rx;cases ry
  obtain ⟨its,r,p,_⟩:=I.tuple ha;obtain ⟨its2,r2,p2,_⟩:=I.tuple hb;have e1:=r.length;have e2:=r2.length;have e3:its.toArray.size=xs.length:=by simp [e1]
  have e4:its2.toArray.size=ys.length:=by simp [e2]
  refine SeqAt.eq_tupleAt (e:=e) (show s.heap.IsTuple a its.toArray from p) (show s.heap.IsTuple c its2.toArray from p2) Jn (fun j h1 h2=>?_) (zB (.bl _) H I rfl (by rw [e3,e4];exact q));obtain ⟨x,hx,rx⟩:=dI r h1;obtain ⟨y,hy,ry⟩:=dI r2 h2;exact (he j x y hx hy).at I rx ry (by show X.A.units+1+n<cLine;omega)
end
theorem mj{x:V}(h:bi x=true):eqV x x=true:=by cases x<;>first | rfl | (exact absurd h zq6) | (simp [eqV])
theorem lT(n:Nat):(List.range n).all (fun _=>true)=true:=by simp
end L2
namespace L2
def c7(cells:List (Str×Addr)):List (Str×NameKind)->List (Str×Addr)->List (Str×Addr)
 | [],acc=>acc
 | (n,k)::r,acc=>if k==.free then c7 cells r ((n,(cells.lookup n).getD 0)::acc) else c7 cells r acc
theorem cQ{scope:Scope}{env:Env}(h:∀y∈scope.names,y.2=.free->∃c,env.cells.lookup y.1=some c):closureFor scope env=pure (c7 env.cells scope.names []):=by
 have key:∀(names:List (Str×NameKind)) (acc:List (Str×Addr)),(∀y∈names,y.2=.free->∃c,env.cells.lookup y.1=some c)->
   (forIn names acc fun x (r:List (Str×Addr))=>match x with
    | (name,kind)=>if (kind==.free)=true then do let c <- cellOf env name;pure (ForInStep.yield ((name,c)::r)) else pure (ForInStep.yield r))=(pure (c7 env.cells names acc):Sem (List (Str×Addr))):=by
  intro names
  induction names with
  |nil=>intro acc _;rfl
  |cons y r ih=>
   intro acc hy;obtain ⟨n,k⟩:=y;rw [List.forIn_cons]
   cases hk:(k==NameKind.free) with
   |true=>
    have hk':k=.free:=by simpa using hk
    obtain ⟨c,hc⟩:=hy (n,k) cC hk';have e:cellOf env n=pure c:=by unfold cellOf;rw [show env.cells.lookup n=some c from hc]
    simp only [hk,if_true,e,pure_bind];rw [ih _ fun z hz=>hy z (bz _ hz)];simp only [c7,hk,if_true];rw [show env.cells.lookup n=some c from hc];rfl
   |false=>simp only [hk,Bool.false_eq_true,if_false,pure_bind];rw [ih _ fun z hz=>hy z (bz _ hz)];simp only [c7,hk,Bool.false_eq_true,if_false]
 refine (show closureFor scope env=((forIn scope.names [] fun x (r:List (Str×Addr))=>match x with
    | (name,kind)=>if (kind==.free)=true then do let c <- cellOf env name;pure (ForInStep.yield ((name,c)::r)) else pure (ForInStep.yield r)) >>= fun cs=>pure cs) from rfl).trans ?_
 rw [key scope.names [] h];rfl
theorem eF{cells:List (Str×Addr)}:∀{names:List (Str×NameKind)} {acc:List (Str×Addr)},(∀y∈names,y.2=.free->∃c,cells.lookup y.1=some c)->(∀y c,acc.lookup y=some c->cells.lookup y=some c)->
  ∀y c,(c7 cells names acc).lookup y=some c->cells.lookup y=some c
 | [],_,_,ha=>ha
 | (n,k)::r,acc,hn,ha=>by
  intro y c;unfold c7
  split
  ·next hk=>
   refine eF (fun z hz=>hn z (bz _ hz)) (fun z d hz=>?_) y c;obtain ⟨e,he⟩:=hn (n,k) cC (by simpa using hk);rw [qF] at hz
   split at hz
   ·next hq=>
    have:z=n:=by simpa using hq
    subst this;have he':cells.lookup z=some e:=he;rw [he'] at hz ⊢;exact hz
   ·exact ha z d hz
  ·exact eF (fun z hz=>hn z (bz _ hz)) ha y c
theorem eE{cells:List (Str×Addr)}{y:Str}:∀{names:List (Str×NameKind)} {acc:List (Str×Addr)},(∃c,acc.lookup y=some c)->∃c,(c7 cells names acc).lookup y=some c
 | [],_,h=>h
 | (n,k)::r,acc,h=>by
  unfold c7
  split
  ·refine eE ?_;rw [qF]
   split
   ·exact ⟨_,rfl⟩
   ·exact h
  ·exact eE h
theorem cq{cells:List (Str×Addr)}{y:Str}:∀{names:List (Str×NameKind)} {acc:List (Str×Addr)},(y,NameKind.free)∈names->∃c,(c7 cells names acc).lookup y=some c
 | (n,k)::r,acc,h=>by
  unfold c7;rcases zq8.mp h with e | e
  ·cases e
   rw [zq2 Jp];exact eE ⟨(cells.lookup y).getD 0,by rw [qF,beq_self_eq_true]⟩
  ·split
   ·exact cq e
   ·exact cq e
structure Bk where
 C:Addr
 fp:List Addr
 s₂:Shared
 H₂:Hp
def Cx.blk(X:Cx)(N':List Str)(scope:Scope)(b:Bk):Cx:=
 {prog:=X.prog,w:=X.w,K:=X.K,mg:=X.mg,base:=X.base,A:=X.A,N:=N',s₀:=b.s₂,H₀:=b.H₂,env:=compEnvC scope (c7 X.env.cells scope.names []) b.C X.env,outer:=X.stack,stack:=X.stack,ex:=b.fp,fn:=fun _=>false,calm:=X.calm,pn:=[],xe:=fun _ _=>False}
def aJ(os:List (Option V))(ci:List Nat)(σ:St):St:=none::(os++ci.map fun i=>(σ[i]?).join)
def bt(J:It)(g:TG)(tt:TT)(te:TE)(nt:Nat)(ci:List Nat)(σ:St)(acc:Addr)(Q:Hp->Prop)(H0:Hp):Prop:=∃W:Nat->Nat->List V->Hp->Prop,(∃m,W 0 m [] H0)/\∀i m ys H,W i m ys H->
 (J.stop i H/\Q H)\/(J.go i H/\∃N:List V->Hp->Prop,(∀zs H',N zs H'->∃m',m'<m/\W (i+1) m' zs H')/\∀y H' os,os.length=nt->J.yld i H y H'->g y (aJ os ci σ) H' fun σ1 H1=>(∃os',os'.length=nt/\σ1=aJ os' ci σ)/\tt σ1 H1 fun b H2=>if b=true then te σ1 H2 fun z H3=>H3 acc=some (.lst ys)/\ys.length<sizeLine/\N (ys++[z]) (upd H3 acc (.lst (ys++[z]))) else N ys H2)
def jg(wi:TI)(g:Bk->TG)(tt:Bk->TT)(te:Bk->TE)(nt:Nat)(ci:List Nat):TE:=fun σ H Q=>wi σ H fun J H1=>∀acc,H1 acc=none->∀bk:Bk,bt J (g bk) (tt bk) (te bk) nt ci σ acc (fun H'=>Q (.ref acc) H') (upd H1 acc (.lst []))
def oK(X:Cx)(ifs:List Expr)(t:TT):Prop:=
 ∀(pins:List (Addr×Obj)) (s:Shared) (σ:St) (H:Hp) (Q:Bool->Hp->Prop),Inv X pins σ H s->t σ H Q->
  wpAny (model X.prog X.w) X.A (forIn ifs true fun c r=>if r=true then do let ok <- isTrue c X.env (eval c X.env);pure (ForInStep.yield ok) else pure (ForInStep.yield r)) (TP X pins σ Q) X.xe s
def qg:TT:=fun _ H Q=>Q true H
structure CompSc(X:Cx)(scope:Scope)(cns:List Str)(ci:List Nat):Prop where
 kind:scope.kind=.function
 cell:∀y∈scope.names,y.2≠.cell
 names:∀y∈scope.names,y.2=.local->scope.names.lookup y.1=some .local
 free:∀y∈scope.names,y.2=.free->X.env.kindOf y.1=some .cell\/X.env.kindOf y.1=some .free
 cap:∀(j:Nat)x,cns[j]?=some x->∃i,ci[j]?=some i/\X.N[i]?=some x/\(x,NameKind.free)∈scope.names
 len:cns.length=ci.length
 noloc:∀y,(y,NameKind.free)∈scope.names->¬(relabel scope X.env).names.lookup y=some .local
theorem bF{env:Env}:∀{names:List (Str×NameKind)} {y:Str} {k:NameKind},(names.map fun (n,k)=>if (k==NameKind.free&&env.scope.kind==.function&&env.kindOf n==some .cell) then (n,NameKind.cell) else (n,k)).lookup y=some k->k=.cell\/k=.free->
  (∀z∈names,z.2≠.cell)->(y,NameKind.free)∈names
 | [],_,_,h,_,_=>by simp at h
 | (n,k0)::r,y,k,h,hk,hc=>by
  rw [c5,qF] at h
  by_cases hf:(k0==NameKind.free&&env.scope.kind==.function&&env.kindOf n==some .cell)=true
  ·simp only [hf,if_true] at h;have k0f:k0=.free:=by have:=hf;simp only [Bool.and_eq_true] at this;simpa using this.1.1
   split at h
   ·next hq=>
    have:y=n:=by simpa using hq
    subst this;subst k0f;exact cC
   ·exact bz _ (bF h hk fun z hz=>hc z (bz _ hz))
  ·simp only [hf] at h
   split at h
   ·next hq=>
    have:y=n:=by simpa using hq
    subst this;have e:k0=k:=by simpa using h
    subst e;rcases hk with z | z
    ·exact absurd z (hc _ cC)
    ·subst z;exact cC
   ·exact bz _ (bF h hk fun z hz=>hc z (bz _ hz))
section
variable {prog:Program} {w:World} {A:Around} {R:Result->Shared->Prop} {s:Shared}
theorem gm{elt target iter:Expr}{ifs:List Expr}{scope:Scope}{pos:Pos}{it acc:Value}{env:Env}(I:Nat->Shared->Prop)
  (turn:∀n s,I n s->wpAny (model prog w) A (pyNext it) (fun r s₁=>match r with
   |none=>R (.ok .next) s₁
   |some v=>wpAny (model prog w) A (letOwnedTupleGo target it v) (fun _ s₅=>wpAny (model prog w) A (assign target env v) (fun _ s₂=>
     wpAny (model prog w) A (forIn ifs true fun c r=>if r=true then do let ok <- isTrue c env (eval c env);pure (ForInStep.yield ok) else pure (ForInStep.yield r)) (fun ok s₃=>
      if ok=true then wpAny (model prog w) A (eval elt env) (fun x s₄=>wpAny (model prog w) A (call (.builtin "list.append") [acc,x]) (fun _ s₅=>∃m,m<n/\I m s₅) (fun _ _=>False) s₄) (fun _ _=>False) s₃
      else ∃m,m<n/\I m s₃) (fun _ _=>False) s₂) (fun _ _=>False) s₅) (fun _ _=>False) s₁) (fun _ _=>False) s)
  (n:Nat) (h:I n s) :
  codeAny (model prog w) A (.compLoop (.ListComp elt [⟨target,iter,ifs,0⟩] scope pos) 0 it acc env) R s:=by
 refine codeAny_loop rfl I (fun n s hI=>?_) n h;show wpAny _ _ ((compTurn (.ListComp elt [⟨target,iter,ifs,0⟩] scope pos) 0 it acc env).onRaise (fun x=>do noteFrame x env;theTreesLotGoes x)) _ _ s;refine wpAny_noted ?_;rw [compTurn_list];refine zq0 (wpAny_standAt (zq0 (cD (turn n s hI) (fun r s₁ h₁=>?_) fun _ _ h'=>h'.elim)))
 cases r with
 |none=>exact zq3 h₁
 |some v=>
  refine zq0 (cD h₁ (fun _ s₅ h₅=>?_) fun _ _ h'=>h'.elim);refine zq0 (cD h₅ (fun _ s₂ h₂=>zq0 (cD h₂ (fun ok s₃ h₃=>?_) fun _ _ h'=>h'.elim)) fun _ _ h'=>h'.elim)
  cases ok with
  |true=>
   rw [zq2 rfl] at h₃;exact zq0 (zq0 (cD h₃ (fun x s₃ h₃=>zq0 (cD h₃ (fun _ s₄ h₄=>zq3 (zq3 ⟨rfl,h₄⟩)) fun _ _ h'=>h'.elim)) fun _ _ h'=>h'.elim))
  |false=>rw [zq1 zq6] at h₃;exact zq0 (zq3 (zq3 ⟨rfl,h₃⟩))
end
theorem fJ{X:Cx}{elt iter tgt:Expr}{ifs:List Expr}{pos:Pos}{scope:Scope}{g:Bk->TG}{tt:Bk->TT}{te:Bk->TE}{tns cns:List Str}{ci:List Nat}{RR:Value->Addr->Result->Shared->Prop}{E:Value->Shared->Prop}
  {pins:List (Addr×Obj)} {σ:St} {H2:Hp} {s2:Shared} {it:Addr} {fp:List Addr} {tn:Nat->Heap->Prop} {J:It} {Q:Addr->Hp->Prop}
  (hc:X.calm=true) (S:CompSc X scope cns ci)
  (hg:∀bk:Bk,PG (X.blk (".0"::(tns++cns)) scope bk) tgt (g bk))
  (ht:∀bk:Bk,oK (X.blk (".0"::(tns++cns)) scope bk) ifs (tt bk))
  (he:∀bk:Bk,PE (X.blk (".0"::(tns++cns)) scope bk) elt (te bk))
  (I2:Inv X pins σ H2 s2) (T:lS X.prog X.w X.K tgt J fp it tn) (st2:tn 0 s2.heap) (f2:∀b∈fp,gf X pins H2 b)
  (hcw:∀acc,H2 acc=none->∀bk:Bk,bt J (g bk) (tt bk) (te bk) tns.length ci σ acc (Q acc) (upd H2 acc (.lst [])))
  (fin:∀D C s5 H4 m,Inv X pins σ H4 s5->s5.heap.Ns C m->gf X pins H4 C->Q D H4->RR (.ref D) C (.ok .next) s5) :
  wpAny (model X.prog X.w) X.A (newList []) (fun acc s₃=>wpAny (model X.prog X.w) X.A (newFunctionEnv scope X.env.globals (c7 X.env.cells scope.names []) [] X.env.qual none .none (some X.env)) (fun cenv s₄=>codeAny (model X.prog X.w) X.A (.compStart (.ListComp elt [⟨tgt,iter,ifs,0⟩] scope pos) 0 (.ref it) acc {cenv with scope:=relabel scope X.env}) (RR acc cenv.locals) s₄) E s₃) E s2:=by
 have hfc:∀y∈scope.names,y.2=.free->∃c,X.env.cells.lookup y.1=some c:=fun y hy hk=>I2.ok.has _ (S.free y hy hk);have hsub:∀y c,(c7 X.env.cells scope.names []).lookup y=some c->X.env.cells.lookup y=some c:=eF hfc (fun y c e=>by simp at e);refine wpAny_newObj_type (wpAny_newFunctionEnv S.cell (by intro y hy;simp at hy) (fun h₁ hns₁ hsb₁=>?_) S.kind);dsimp only at hns₁ hsb₁ ⊢;generalize hH2:s2.heap.push {cls:=.type "list",dict:=none,data:=.seq ([]:List Value).toArray}=G2 at hns₁ hsb₁ ⊢;have hCz:G2.objs.size=s2.heap.objs.size+1:=by rw [<- hH2,qy]
 have hDC:s2.heap.objs.size≠G2.objs.size:=by rw [hCz];exact bU (ul _)
 have below:∀b,b<s2.heap.objs.size->b≠G2.objs.size:=fun b hb=>by omega
 have old:∀b o,s2.heap.get? b=some o->h₁.get? b=some o:=fun b o e=>hsb₁.extBut b o (below b (zq5 e)) (zq9 _ (hH2 ▸ zq9 _ e));have hacc:h₁.get? s2.heap.objs.size=some {cls:=.type "list",dict:=none,data:=.seq ([]:List Value).toArray}:=hsb₁.extBut _ _ hDC (zq9 _ (hH2 ▸ bV _ rfl));have hnD:H2 s2.heap.objs.size=none:=I2.hok.fresh (zq4 _);have hnC:H2 G2.objs.size=none:=I2.hok.fresh Jn;obtain ⟨W,⟨m0,w0⟩,turn⟩:=hcw s2.heap.objs.size hnD ⟨G2.objs.size,fp,s2,H2⟩;have nlt:∀{b:Addr} {o:Obj},s2.heap.get? b=some o->b≠s2.heap.objs.size:=fun q=>bU (zq5 q);have fpl:∀b∈fp,b<s2.heap.objs.size:=fun b hb=>by obtain ⟨o,e,_⟩:=T.obj _ _ st2 b hb;exact zq5 e
 have clt:∀y c,(c7 X.env.cells scope.names []).lookup y=some c->c<s2.heap.objs.size:=fun y c e=>by obtain ⟨v,q⟩:=I2.cell y c (hsub y c e);exact q.lt
 have hasC:∀y,((relabel scope X.env).names.lookup y=some .cell\/(relabel scope X.env).names.lookup y=some .free)->∃c,(c7 X.env.cells scope.names []).lookup y=some c:=fun y hk=>by
  rcases hk with z | z
  ·exact cq (bF z (.inl rfl) S.cell)
  ·exact cq (bF z (.inr rfl) S.cell)
 have ok:(X.blk (".0"::(tns++cns)) scope ⟨G2.objs.size,fp,s2,H2⟩).Ok:={
  mod:=I2.ok.mod
  kind:=S.kind
  glob:=I2.ok.glob
  blt:=I2.ok.blt
  above:=by show s2.heap.objs.size<=G2.objs.size;omega
  inj:=fun y z c e1 e2=>I2.ok.inj y z c (hsub y c e1) (hsub z c e2)
  has:=fun y hk=>hasC y hk
  cab:=fun y c e=>by
   have e':(false=true):=e
   cases e'
  hd:=I2.ok.hd
  frames:=I2.ok.frames
  stk:=.inl rfl
  exf:=fun b hb=>⟨below b (fpl b hb),fun y c e=>(f2 b hb).2.2.2.2.1 y c (hsub y c e)⟩
  bs:=I2.bs
  bsz:=bO I2.ok.bsz I2.sz
  noex:=fun b o e hb=>by
   rcases (f2 b hb).2.2.2.1 with z | z
   ·exact I2.ok.noex b o e z
   ·exact absurd (cM (zq5 e) (bO I2.ok.bsz z)) (lF _)
  exfs:=fun b hb hf=>by
   rcases zq8.mp (I2.stkSub b hf) with z | z
   ·exact (f2 b hb).2.1 z
   ·exact (f2 b hb).2.2.1 z
  funs:=I2.stack
  frf:=I2.stkFree}
 have hokD:HOk X.prog X.w (upd H2 s2.heap.objs.size (.lst [])) h₁:=I2.hok.laid old (zq4 _) ⟨ce _,zE ([]) 0 .nil hacc⟩;have clD:∀y c,(c7 X.env.cells scope.names []).lookup y=some c->c≠s2.heap.objs.size:=fun y c e=>bU (clt y c e);have I3:Inv (X.blk (".0"::(tns++cns)) scope ⟨G2.objs.size,fp,s2,H2⟩) [] (aJ (List.replicate tns.length none) ci σ) (upd H2 s2.heap.objs.size (.lst [])) {s2 with heap:=h₁,toks:=s2.toks+([]:List (Str×Value)).length}:={
  ok:=ok
  os:=rfl
  bare:=I2.bare
  base:=⟨fun b o e n _ _=>old b o e,fun b o e n _ _=>⟨o.slots,old b o e⟩,fun b o e n _=>by rw [aj (nlt e)];exact n,fun b o e _=>⟨o,old b o e⟩,
   fun b ys e=>by rw [aj (am e hnD)];exact e,fun b o u e=>by rw [aj (am e hnD)];exact e,fun b ps e=>⟨#[],by rw [aj (am e hnD),Array.append_empty];exact e⟩⟩
  loc:=⟨_,hns₁,fun i y v e1 e2 e3=>by
   have e1':((".0":Str)::(tns++cns))[i]?=some y:=e1;unfold aJ at e2
   cases i with
   |zero=>simp at e2
   |succ i=>
    rw [rG] at e1' e2
    by_cases hi:i<tns.length
    ·rw [rE (by simpa using hi),rD,zq2 hi] at e2
     cases e2
    ·rw [uo Jn] at e1';rw [uo (by simp;omega),rF] at e2;obtain ⟨q,hq,hN,hm⟩:=S.cap _ _ e1';rw [jm,hq] at e2;have e2':(σ[q]?).join=some v:=by simpa using e2
     have e4:σ[q]?=some (some v):=by
      cases z:σ[q]? with
      |none=>rw [z] at e2';cases e2'
      |some o=>rw [z] at e2';rw [show o=some v from e2']
     obtain ⟨m,hns,hl⟩:=I2.loc;have hvis:Vis X.env.scope y:=by
      rcases S.free (y,.free) hm rfl with z | z
      ·exact .inr (.inl z)
      ·exact .inr (.inr z)
     obtain ⟨u,ru,lk⟩:=hl q y v hN e4 hvis;refine zA u ru (.inr ?_);have hkk:X.env.kindOf y=some .cell\/X.env.kindOf y=some .free:=S.free (y,.free) hm rfl;rcases lk with ⟨k1,_⟩ | ⟨_,c,hc1,hc2⟩
     ·rcases hkk with z | z<;>(rw [k1] at z;cases z)
     ·obtain ⟨c',hc'⟩:=cq (cells:=X.env.cells) (acc:=[]) hm;have ecc:c'=c:=by have:=hsub y c' hc';rw [hc1] at this;cases this;rfl
      subst ecc;have e3':Vis (relabel scope X.env) y:=e3;refine ⟨?_,zA c' hc' ?_⟩
      ·rcases e3' with z | z | z
       ·exfalso;exact S.noloc y hm z
       ·exact .inl z
       ·exact .inr z
      ·exact hc2.keeps old⟩
  cell:=fun y c e=>by obtain ⟨v,q⟩:=I2.cell y c (hsub y c e);exact ⟨v,q.keeps old⟩
  free:=by show upd H2 s2.heap.objs.size (.lst []) G2.objs.size=none;rw [aj (Ne.symm hDC)];exact hnC
  freeC:=fun y c e=>by rw [aj (clD y c e)];exact I2.freeC y c (hsub y c e)
  pin:=fun p hp=>by have hp':p∈([]:List (Addr×Obj))++[]:=hp;simp at hp'
  hok:=hokD
  len:=by show (aJ _ ci σ).length=((".0":Str)::(tns++cns)).length;unfold aJ;simp [S.len]}
 have st3:tn 0 h₁:=T.keep _ _ _ st2 fun b _ o e=>old b o e;have fr3:∀b∈fp,upd H2 s2.heap.objs.size (.lst []) b=none:=fun b hb=>by rw [aj (bU (fpl b hb))];exact (f2 b hb).1
 have stat:∀{H':Hp},(∀b∈fp,H' b=none)->∀b∈fp,gf (X.blk (".0"::(tns++cns)) scope ⟨G2.objs.size,fp,s2,H2⟩) [] H' b:=fun hn b hb=>zI (hn b hb) (below b (fpl b hb)) (ok.exfs b hb) (.inl hb) (fun y c e=>(f2 b hb).2.2.2.2.1 y c (hsub y c e)) (fun p hp=>by have hp':p∈([]:List (Addr×Obj))++[]:=hp;simp at hp')
 have loop:∀s₃:Shared,s₃={s2 with heap:=h₁,toks:=s2.toks+([]:List (Str×Value)).length}->
   codeAny (model X.prog X.w) X.A (.compLoop (.ListComp elt [⟨tgt,iter,ifs,0⟩] scope pos) 0 (.ref it) (.ref s2.heap.objs.size) (compEnvC scope (c7 X.env.cells scope.names []) G2.objs.size X.env))
    (RR (.ref s2.heap.objs.size) G2.objs.size) s₃:=by
  rintro s₃ rfl;refine gm (fun n s'=>∃(i:Nat)(os:List (Option V)) (ys:List V) (H':Hp),os.length=tns.length/\Inv (X.blk (".0"::(tns++cns)) scope ⟨G2.objs.size,fp,s2,H2⟩) [] (aJ os ci σ) H' s'/\tn i s'.heap/\(∀b∈fp,H' b=none)/\W i n ys H') ?_ m0 (zN 0 _ ([]) _ Jo I3 st3 fr3 w0);rintro n s4 ⟨i,os,ys,H4,hos,I4,st4,fr4,w4⟩;rcases turn i n ys H4 w4 with ⟨stop,q⟩ | ⟨go,N,hN,step⟩
  ·refine thn (T.done (X.blk (".0"::(tns++cns)) scope ⟨G2.objs.size,fp,s2,H2⟩) rfl rfl rfl hc i [] s4 _ H4 (fun _ _=>False) I4 (stat fr4) st4 stop) fun r s5 ⟨hr,I5⟩=>?_;subst hr;obtain ⟨m,hm,_⟩:=I5.loc;have fC:H4 G2.objs.size=none:=I5.free;have ub:Un (frs X.stack) fp H2 H4 s2.heap s5.heap:=I5.base;have IX:Inv X pins σ H4 s5:=I2.call' (s':=s5) (show s5.os=s2.os from I5.os) ub I5.hok I5.bare fun b hb=>zG (f2 b hb).2.2.2.1 (f2 b hb).2.1 (f2 b hb).2.2.2.2.1 (f2 b hb).2.2.2.2.2
   exact fin _ _ s5 H4 m IX hm (I2.fpOk Jn fC) q
  ·refine thn (T.item (X.blk (".0"::(tns++cns)) scope ⟨G2.objs.size,fp,s2,H2⟩) rfl rfl rfl hc i [] s4 _ H4 (fun _ _=>False) I4 (stat fr4) st4 go) fun r s5 ⟨u,hr,h5⟩=>?_;subst hr;refine thn h5 fun _ s6 hhx=>?_;obtain ⟨y,H6,I6,r6,y6,st6,fr6⟩:=hhx;have I6':=I6.pinned (stat fr6) (T.obj _ _ st6);refine thn (hg _ _ s6 _ H6 y u _ I6' r6 (step y H6 os hos y6)) fun _ s7 ⟨σ7,H7,I7,⟨os',hos',e7⟩,q7⟩=>?_;subst e7;have back:∀{H9:Hp} {s9:Shared},Inv (X.blk (".0"::(tns++cns)) scope ⟨G2.objs.size,fp,s2,H2⟩) ([]++dB fp s6.heap) (aJ os' ci σ) H9 s9->tn (i+1) s9.heap/\∀b∈fp,H9 b=none:=fun {H9 s9} I9=>⟨T.keep _ _ _ st6 fun b hb ob e=>(I9.pin (b,ob) (dm _ (dm _ (bL hb e)))).1,fun b hb=>by obtain ⟨ob,e,d⟩:=T.obj _ _ st6 b hb;exact (I9.pin (b,ob) (dm _ (dm _ (bL hb e)))).2.1⟩
   refine thn (ht _ _ s7 _ H7 _ I7 q7) fun b s8 hhx=>?_;obtain ⟨H8,I8,q8⟩:=hhx
   cases b with
   |false=>
    rw [zq1 zq6] at q8 ⊢;obtain ⟨m',hm',w8⟩:=hN _ _ q8;exact zA m' hm' (zN (i+1) os' ys _ hos' I8.unpinned (back I8).1 (back I8).2 w8)
   |true=>rw [zq2 rfl] at q8 ⊢;refine thn (he _ _ s8 _ H8 _ I8 q8) fun zv s8 hhx=>?_;obtain ⟨z,H8,I8,rz,ha8,hl8,n8⟩:=hhx;obtain ⟨m',hm',w8⟩:=hN _ _ n8;refine thn (cF (X:=X.blk (".0"::(tns++cns)) scope ⟨G2.objs.size,fp,s2,H2⟩) _ s8 _ H8 (.ref s2.heap.objs.size) [z] (.ref s2.heap.objs.size) [zv] (fun _ H9=>H9=upd H8 s2.heap.objs.size (.lst (ys++[z]))) I8 rfl (.cons rz .nil) (zJ _ ys z rfl rfl ha8 hl8 rfl)) fun _ s9 hhx=>?_;obtain ⟨_,H9,I9,_,e9⟩:=hhx;subst e9;exact zA m' hm' (zN (i+1) os' (ys++[z]) _ hos' I9.unpinned (back I9).1 (back I9).2 w8)
 exact codeAny_compStart_list (loop _ rfl) (T.self _ 0 _ _ _ st3 (loop _ rfl))
theorem n6{X:Cx}{elt iter tgt:Expr}{ifs:List Expr}{pos:Pos}{scope:Scope}{wi:TI}{g:Bk->TG}{tt:Bk->TT}{te:Bk->TE}{tns cns:List Str}{ci:List Nat}(hc:X.calm=true)(S:CompSc X scope cns ci)(hi:PI X tgt iter wi)
  (hg:∀bk:Bk,PG (X.blk (".0"::(tns++cns)) scope bk) tgt (g bk))
  (ht:∀bk:Bk,oK (X.blk (".0"::(tns++cns)) scope bk) ifs (tt bk))
  (he:∀bk:Bk,PE (X.blk (".0"::(tns++cns)) scope bk) elt (te bk))
  (hs:∀v,foldedSetIterable iter X.env v=pure v:=by intro _;rfl) :
  PE X (.ListComp elt [⟨tgt,iter,ifs,0⟩] scope pos) (jg wi g tt te tns.length ci):=by
 intro pins s σ H Q I h;have hfc:∀y∈scope.names,y.2=.free->∃c,X.env.cells.lookup y.1=some c:=fun y hy hk=>I.ok.has _ (S.free y hy hk);rw [eval_ListComp];refine wpAny_comprehension_free (use:=none) rfl hs (cQ hfc) S.kind S.names (thn (hi pins s σ H _ I h) fun v s1 h1=>thn h1 fun itv s2 h2=>?_);obtain ⟨it,fp,tn,J,H2,rfl,I2,T,st2,f2,hcw⟩:=h2;refine fJ (RR:=fun acc C=>compPost (model X.prog X.w) X.A X.xe none (EP X pins σ Q) acc C) hc S hg ht he I2 T st2 f2 hcw fun D C s5 H4 m I5 hm fo q=>?_;refine zA m hm fun h' hs'=>zB (.ref D) H4 ?_ rfl q;exact I5.turned (t':=s5.toks) (it:=C) (fun b o hb e=>(hs'.2 b hb).trans e) fo.1 fo.2.1 fo.2.2.2.1 fo.2.2.2.2.1 fo.2.2.2.2.2
def eY(i:Nat)(wi:TI)(g:Bk->TG)(tt:Bk->TT)(te:Bk->TE)(nt:Nat)(ci:List Nat):TS:=fun D σ H=>wi σ H fun J H1=>∀acc,H1 acc=none->∀bk:Bk,bt J (g bk) (tt bk) (te bk) nt ci σ acc (fun H'=>D.nx (σ.set i (some (.ref acc))) H') (upd H1 acc (.lst []))
theorem jb{X:Cx}{i:Nat}{x:Str}{px pos':Pos}{elt iter tgt:Expr}{ifs:List Expr}{pos:Pos}{scope:Scope}{wi:TI}{g:Bk->TG}{tt:Bk->TT}{te:Bk->TE}{tns cns:List Str}{ci:List Nat}
  (hN:X.N.Nodup) (hx:X.N[i]?=some x) (hl:Loc X.env.scope x) (hf:X.fn x=true) (hsw:swapsWith (.ListComp elt [⟨tgt,iter,ifs,0⟩] scope pos) (some (.Name x px)) pos'.line X.env=pure true)
  (hc:X.calm=true) (S:CompSc X scope cns ci) (hi:PI X tgt iter wi)
  (hg:∀bk:Bk,PG (X.blk (".0"::(tns++cns)) scope bk) tgt (g bk))
  (ht:∀bk:Bk,oK (X.blk (".0"::(tns++cns)) scope bk) ifs (tt bk))
  (he:∀bk:Bk,PE (X.blk (".0"::(tns++cns)) scope bk) elt (te bk))
  (hs:∀v,foldedSetIterable iter X.env v=pure v:=by intro _;rfl) :
  PS X (.Assign [.Name x px] (.ListComp elt [⟨tgt,iter,ifs,0⟩] scope pos) pos') (eY i wi g tt te tns.length ci):=by
 intro pins s σ H D I h;have hfc:∀y∈scope.names,y.2=.free->∃c,X.env.cells.lookup y.1=some c:=fun y hy hk=>I.ok.has _ (S.free y hy hk);rw [exec_Assign_Name_used _ _ _ _ hsw];refine zq0 (wpAny_standAt (zq0 ?_));show wpAny _ _ (do let _ <- comprehension (.ListComp elt [⟨tgt,iter,ifs,0⟩] scope pos) scope X.env _ (newList []) false (eval iter X.env) (some (assign (.Name x px) X.env))) _ _ s;refine zq0 (cD (wpAny_comprehension_free (use:=some (assign (.Name x px) X.env)) (Q:=fun _ s'=>SP X pins D .next s') rfl hs (cQ hfc) S.kind S.names
  (thn (hi pins s σ H _ I h) fun v s1 h1=>thn h1 fun itv s2 h2=>?_)) (fun _ s' hq=>zq3 (zq3 hq)) fun _ _ e=>e)
 obtain ⟨it,fp,tn,J,H2,rfl,I2,T,st2,f2,hcw⟩:=h2;refine fJ (RR:=fun acc C=>compPost (model X.prog X.w) X.A X.xe (some (assign (.Name x px) X.env)) (fun _ s'=>SP X pins D .next s') acc C) hc S hg ht he I2 T st2 f2 hcw fun D' C s5 H4 m I5 hm fo q=>?_;obtain ⟨o,es,ep,ho,hd,hr⟩:=id hm;have IP:Inv X (pins++dB [C] s5.heap) σ H4 s5:=I5.pinned (fp:=[C]) (fun b hb=>by rw [zq28.mp hb];exact fo) fun b hb=>by rw [zq28.mp hb];exact zA o ho (fun v z=>by rw [hd] at z;cases z)
 show wpAny _ _ (assign (.Name x px) X.env (.ref D')) _ _ s5;refine thn (jQ (X:=X) (i:=i) hN hx hl (.inl hf) _ s5 σ H4 (.ref D') (.ref D') (fun σ' H'=>σ'=σ.set i (some (.ref D'))/\H'=H4) IP rfl ⟨rfl,rfl⟩) fun _ s6 hhx=>?_;obtain ⟨σ6,H6,I6,e1,e2⟩:=hhx;subst e1 e2;have hC6:s6.heap.get? C=some o:=(I6.pin (C,o) (dm _ (dm _ (bL (zq28.mpr rfl) ho)))).1;refine zA m (zV o es ep hC6 hd hr) fun h' hs'=>zE _ _ ?_ q;exact I6.unpinned.turned (t':=s6.toks) (it:=C) (fun b o hb e=>(hs'.2 b hb).trans e) fo.1 fo.2.1 fo.2.2.2.1 fo.2.2.2.2.1 fo.2.2.2.2.2
def tR(scope osc:Scope):List (Str×NameKind):=scope.names.map fun (n,k)=>if (k==NameKind.free&&osc.kind==.function&&osc.names.lookup n==some .cell) then (n,NameKind.cell) else (n,k)
def fH(N:List Str)(names:List (Str×NameKind)):List Str->List Nat->Bool
 | [],[]=>true
 |x::xs,i::is=>N[i]?==some x&&names.any (fun y=>y.1==x&&y.2==.free)&&fH N names xs is
 |_,_=>false
def uH(osc:Scope)(N:List Str)(scope:Scope)(cns:List Str)(ci:List Nat):Bool:=
 scope.kind==.function&&scope.names.all (fun y=>y.2 != .cell)&&scope.names.all (fun y=>y.2 != .local || scope.names.lookup y.1==some .local) &&
 scope.names.all (fun y=>y.2 != .free || (osc.names.lookup y.1==some .cell || osc.names.lookup y.1==some .free))&&fH N scope.names cns ci &&
 scope.names.all (fun y=>y.2 != .free || (tR scope osc).lookup y.1 != some .local)
theorem fI{N:List Str}{names:List (Str×NameKind)}:∀{cns:List Str} {ci:List Nat},fH N names cns ci=true->cns.length=ci.length/\∀(j:Nat)x,cns[j]?=some x->∃i,ci[j]?=some i/\N[i]?=some x/\(x,NameKind.free)∈names
 | [],[],_=>⟨rfl,fun j x e=>by simp at e⟩
 | [],_::_,h=>by simp [fH] at h
 |_::_,[],h=>by simp [fH] at h
 |x::xs,i::is,h=>by
  unfold fH at h;rw [dn,dn] at h;obtain ⟨⟨h1,h2⟩,h3⟩:=h;obtain ⟨l,r⟩:=fI h3;refine ⟨by simp [l],fun j y e=>?_⟩
  cases j with
  |zero=>
   have e':x=y:=by simpa using e
   subst e';refine zD i Jo (by simpa using h1) ?_;obtain ⟨z,hz,hq⟩:=List.any_eq_true.mp h2;rw [dn] at hq;obtain ⟨a,b⟩:=z;have e1:a=x:=by simpa using hq.1
   have e2:b=.free:=by simpa using hq.2
   subst e1 e2;exact hz
  |succ j=>obtain ⟨k,hk⟩:=r j y (by simpa using e);exact zA k (by simpa using hk.1) hk.2
theorem CompSc.of{X:Cx}{scope:Scope}{cns:List Str}{ci:List Nat}(h:uH X.env.scope X.N scope cns ci=true):CompSc X scope cns ci:=by
 unfold uH at h;rw [dn,dn,dn,dn,dn] at h;obtain ⟨⟨⟨⟨⟨h1,h2⟩,h3⟩,h4⟩,h5⟩,h6⟩:=h;obtain ⟨l,r⟩:=fI h5;refine ⟨by simpa using h1,fun y hy=>?_,fun y hy hk=>?_,fun y hy hk=>?_,r,l,fun y hy z=>?_⟩
 ·simpa using zq39.mp h2 y hy
 ·have:=zq39.mp h3 y hy;rw [qG] at this;rcases this with q | q
  ·exact absurd hk (by simpa using q)
  ·simpa using q
 ·have:=zq39.mp h4 y hy;rw [qG,qG] at this;rcases this with q | q | q
  ·exact absurd hk (by simpa using q)
  ·exact .inl (show X.env.scope.names.lookup y.1=_ by simpa using q)
  ·exact .inr (show X.env.scope.names.lookup y.1=_ by simpa using q)
 ·have:=zq39.mp h6 _ hy;rw [qG] at this;rcases this with q | q
  ·simp at q
  ·have z':(tR scope X.env.scope).lookup y=some .local:=z;have q':((tR scope X.env.scope).lookup y != some .local)=true:=q;rw [z'] at q';exact absurd q' Jm
section
variable {K:W.Frag} {g:TG} {tt:TT} {te:TE} {nt:Nat} {ci:List Nat} {σ:St} {acc:Addr} {Q:Hp->Prop} {H0:Hp}
theorem jw{a:Addr}{xs:List V}(Pv:Nat->List V->Hp->Prop)(h0:Pv 0 [] H0)(hl:∀i ys H,i<=xs.length->Pv i ys H->SqL K H a xs)
  (hs:∀(i:Nat)x ys H os,xs[i]?=some x->os.length=nt->Pv i ys H->g x (aJ os ci σ) H fun σ1 H1=>(∃os',os'.length=nt/\σ1=aJ os' ci σ)/\tt σ1 H1 fun b H2=>if b=true then te σ1 H2 fun z H3=>H3 acc=some (.lst ys)/\ys.length<sizeLine/\Pv (i+1) (ys++[z]) (upd H3 acc (.lst (ys++[z]))) else Pv (i+1) ys H2)
  (hd:∀ys H,Pv xs.length ys H->Q H):bt (Itl K a) g tt te nt ci σ acc Q H0:=by
 refine zA (fun i m ys H=>m=xs.length-i/\i<=xs.length/\Pv i ys H) (zD xs.length Jo (ce _) h0) ?_;rintro i m ys H ⟨rfl,hi,p⟩;have q:=hl i ys H hi p
 by_cases hlt:i<xs.length
 ·refine .inr ⟨zE xs (xs[i]) q (by simp [hlt]),zA (Pv (i+1)) (fun ys' H' p'=>zM (xs.length-(i+1)) Jn rfl hlt p') fun y H' os ho yl=>?_⟩;obtain ⟨rfl,yl⟩:=yl;exact hs i y ys H' os (yl xs q) ho p
 ·have e:i=xs.length:=by omega
  subst e;exact .inl ⟨zA xs q (zq4 _),hd ys H p⟩
theorem rQ{a:Addr}{xs:List V}(Pv:Nat->List V->Hp->Prop)(h0:Pv 0 [] H0)(hl:∀i ys H,i<=xs.length->Pv i ys H->SqT K H a xs)
  (hs:∀(i:Nat)x ys H os,xs[i]?=some x->os.length=nt->Pv i ys H->g x (aJ os ci σ) H fun σ1 H1=>(∃os',os'.length=nt/\σ1=aJ os' ci σ)/\tt σ1 H1 fun b H2=>if b=true then te σ1 H2 fun z H3=>H3 acc=some (.lst ys)/\ys.length<sizeLine/\Pv (i+1) (ys++[z]) (upd H3 acc (.lst (ys++[z]))) else Pv (i+1) ys H2)
  (hd:∀ys H,Pv xs.length ys H->Q H):bt (Itt K a) g tt te nt ci σ acc Q H0:=by
 refine zA (fun i m ys H=>m=xs.length-i/\i<=xs.length/\Pv i ys H) (zD xs.length Jo (ce _) h0) ?_;rintro i m ys H ⟨rfl,hi,p⟩;have q:=hl i ys H hi p
 by_cases hlt:i<xs.length
 ·refine .inr ⟨zE xs (xs[i]) q (by simp [hlt]),zA (Pv (i+1)) (fun ys' H' p'=>zM (xs.length-(i+1)) Jn rfl hlt p') fun y H' os ho yl=>?_⟩;obtain ⟨rfl,yl⟩:=yl;exact hs i y ys H' os (yl xs q) ho p
 ·have e:i=xs.length:=by omega
  subst e;exact .inl ⟨zA xs q (zq4 _),hd ys H p⟩
theorem gS{lo:Int}{n:Nat}(Pv:Nat->List V->Hp->Prop)(h0:Pv 0 [] H0)
  (hs:∀(i:Nat)ys H os,i<n->os.length=nt->Pv i ys H->g (.int (lo+i)) (aJ os ci σ) H fun σ1 H1=>(∃os',os'.length=nt/\σ1=aJ os' ci σ)/\tt σ1 H1 fun b H2=>if b=true then te σ1 H2 fun z H3=>H3 acc=some (.lst ys)/\ys.length<sizeLine/\Pv (i+1) (ys++[z]) (upd H3 acc (.lst (ys++[z]))) else Pv (i+1) ys H2)
  (hd:∀ys H,Pv n ys H->Q H):bt (Itr lo n) g tt te nt ci σ acc Q H0:=by
 refine zA (fun i m ys H=>m=n-i/\i<=n/\Pv i ys H) (zD n Jo (ce _) h0) ?_;rintro i m ys H ⟨rfl,hi,p⟩
 by_cases hlt:i<n
 ·refine .inr ⟨hlt,zA (Pv (i+1)) (fun ys' H' p'=>zM (n-(i+1)) Jn rfl hlt p') fun y H' os ho yl=>?_⟩;obtain ⟨rfl,rfl⟩:=yl;exact hs i ys H' os hlt ho p
 ·have e:i=n:=by omega
  subst e;exact .inl ⟨zq4 _,hd ys H p⟩
end
end L2
namespace L2
def isiT:List String:=["int","bool","str","list","tuple","dict"]
inductive cO (K:W.Frag) (H:Hp):V->String->Prop where
 |non:cO K H .non "NoneType"
 |bl {b:Bool}:cO K H (.bl b) "bool"
 |int {i:Int}:cO K H (.int i) "int"
 |str {x:Str}:cO K H (.str x) "str"
 |lst {a:Addr} {xs:List V} (h:SqL K H a xs):cO K H (.ref a) "list"
 |tup {a:Addr} {xs:List V} (h:SqT K H a xs):cO K H (.ref a) "tuple"
 |dic {a:Addr} (h:IsD H a):cO K H (.ref a) "dict"
def dw(k T:String):Bool:=k==T || (k=="bool"&&T=="int")
def nz(K:W.Frag):List V->Hp->VK->Prop:=fun xs H Q=>∃x T k,xs=[x,.ty T]/\isiT.contains T=true/\cO K H x k/\Q (.bl (dw k T)) H
section
variable {X:Cx}
theorem lX:cf X (.builtin "isinstance") (nz X.K):=by
 intro pins s σ H xs us Q I r h;obtain ⟨x,T,k,rfl,hT,hk,q⟩:=h;obtain ⟨u,v,rfl,ru,rv⟩:=og r
 cases rv
 have hT':T="int"\/T="bool"\/T="str"\/T="list"\/T="tuple"\/T="dict":=by simpa [isiT] using hT
 have fin:∀{b:Bool},b=dw k T->EP X pins σ Q (.bool b) s:=fun e=>zB (.bl _) H I rfl (by rw [e];exact q)
 have finT:∀{b:Bool},b=dw k T->EP X pins σ Q (.bool b) {s with toks:=s.toks+1}:=fun e=>zB (.bl _) H (I.tok _) rfl (by rw [e];exact q)
 cases hk with
 |non=>
  cases ru
  rcases hT' with rfl | rfl | rfl | rfl | rfl | rfl
  ·exact IsiPair.NoneType_int (finT Jk)
  ·exact IsiPair.NoneType_bool (finT Jk)
  ·exact IsiPair.NoneType_str (finT Jk)
  ·exact IsiPair.NoneType_list (finT Jk)
  ·exact IsiPair.NoneType_tuple (finT Jk)
  ·exact IsiPair.NoneType_dict (finT Jk)
 |bl=>
  cases ru
  rcases hT' with rfl | rfl | rfl | rfl | rfl | rfl
  ·exact IsiPair.bool_int (fin Jk)
  ·exact IsiPair.bool_bool (fin Jk)
  ·exact IsiPair.bool_str (finT Jk)
  ·exact IsiPair.bool_list (finT Jk)
  ·exact IsiPair.bool_tuple (finT Jk)
  ·exact IsiPair.bool_dict (finT Jk)
 |int=>
  obtain ⟨t,rfl⟩:=ru;rcases hT' with rfl | rfl | rfl | rfl | rfl | rfl
  ·exact IsiPair.int_int (fin Jk)
  ·exact IsiPair.int_bool (finT Jk)
  ·exact IsiPair.int_str (finT Jk)
  ·exact IsiPair.int_list (finT Jk)
  ·exact IsiPair.int_tuple (finT Jk)
  ·exact IsiPair.int_dict (finT Jk)
 |str=>
  obtain ⟨t,rfl⟩:=ru;rcases hT' with rfl | rfl | rfl | rfl | rfl | rfl
  ·exact IsiPair.str_int (finT Jk)
  ·exact IsiPair.str_bool (finT Jk)
  ·exact IsiPair.str_str (fin Jk)
  ·exact IsiPair.str_list (finT Jk)
  ·exact IsiPair.str_tuple (finT Jk)
  ·exact IsiPair.str_dict (finT Jk)
 |lst hl=>
  cases ru
  obtain ⟨its,_,⟨o,n,e,c,_⟩,_⟩:=I.list hl;rcases hT' with rfl | rfl | rfl | rfl | rfl | rfl
  ·exact IsiPair.list_int e c (finT Jk)
  ·exact IsiPair.list_bool e c (finT Jk)
  ·exact IsiPair.list_str e c (finT Jk)
  ·exact IsiPair.list_list e c (fin Jk)
  ·exact IsiPair.list_tuple e c (finT Jk)
  ·exact IsiPair.list_dict e c (finT Jk)
 |tup hl=>
  cases ru
  obtain ⟨its,_,⟨o,e,c,_⟩,_⟩:=I.tuple hl;rcases hT' with rfl | rfl | rfl | rfl | rfl | rfl
  ·exact IsiPair.tuple_int e c (finT Jk)
  ·exact IsiPair.tuple_bool e c (finT Jk)
  ·exact IsiPair.tuple_str e c (finT Jk)
  ·exact IsiPair.tuple_list e c (finT Jk)
  ·exact IsiPair.tuple_tuple e c (fin Jk)
  ·exact IsiPair.tuple_dict e c (finT Jk)
 |dic hl=>
  cases ru
  obtain ⟨o,e,c⟩:=(rW I hl).1;rcases hT' with rfl | rfl | rfl | rfl | rfl | rfl
  ·exact IsiPair.dict_int e c (finT Jk)
  ·exact IsiPair.dict_bool e c (finT Jk)
  ·exact IsiPair.dict_str e c (finT Jk)
  ·exact IsiPair.dict_list e c (finT Jk)
  ·exact IsiPair.dict_tuple e c (finT Jk)
  ·exact IsiPair.dict_dict e c (fin Jk)
theorem fg:∀{ns:List Int} {us:List Value},Vals (ns.map V.int) us->∃xs:List (Int×Tok),us=xs.map (fun p=>Value.int p.1 p.2)/\xs.map (·.1)=ns
 | [],_,r=>by cases r;exact zA ([]) rfl rfl
 |n::ns,_,r=>by
  cases r with
  |cons r0 rr=>obtain ⟨t,rfl⟩:=r0;obtain ⟨xs,rfl,rfl⟩:=fg rr;exact zA ((n,t)::xs) rfl rfl
theorem ig(xs:List (Int×Tok)):preSum (numAt xs.toArray) xs.toArray.size=(xs.map (·.1)).sum:=by rw [preSum_eq,qH Jo]
theorem lY(hc:X.calm=true):cf X (.builtin "sum") (fun xs H Q=>∃(a:Addr)(ns:List Int),xs=[.ref a]/\SqL X.K H a (ns.map V.int)/\Q (.int ns.sum) H):=by
 intro pins s σ H xs us Q I r h;obtain ⟨a,ns,rfl,hq,q⟩:=h;obtain ⟨u,rfl,ru⟩:=fZ r
 cases ru
 obtain ⟨its,rv,pl,_⟩:=I.list hq;obtain ⟨ys,rfl,rfl⟩:=fg rv;refine sum_intListG (xs:=ys.toArray) (I.ok.hd hc) (by have:=pl.isList;simpa [intItems] using this) fun h' tk t' hk=>?_;rw [ig];exact zB (.int _) H (I.kept hk) ⟨_,rfl⟩ q
end
section
variable {H:Hp} {Q:VK} {σ:St} {D:bK} {K:W.Frag}
theorem pO{wi:TI}{g:Bk->TG}{tt:Bk->TT}{te:Bk->TE}{nt:Nat}{ci:List Nat}:jg wi g tt te nt ci σ H Q=wi σ H fun J H1=>∀acc,H1 acc=none->∀bk:Bk,bt J (g bk) (tt bk) (te bk) nt ci σ acc (fun H'=>Q (.ref acc) H') (upd H1 acc (.lst [])):=rfl
theorem l8{i:Nat}{wi:TI}{g:Bk->TG}{tt:Bk->TT}{te:Bk->TE}{nt:Nat}{ci:List Nat}:eY i wi g tt te nt ci D σ H=wi σ H fun J H1=>∀acc,H1 acc=none->∀bk:Bk,bt J (g bk) (tt bk) (te bk) nt ci σ acc (fun H'=>D.nx (σ.set i (some (.ref acc))) H') (upd H1 acc (.lst [])):=rfl
theorem vz{Q:Bool->Hp->Prop}:qg σ H Q=Q true H:=rfl
theorem jS{x:V}{T k:String}(hk:cO K H x k)(hT:isiT.contains T=true)(hf:∀k',cO K H x k'->k'=k):nz K [x,.ty T] H Q=Q (.bl (dw k T)) H:=
 propext ⟨by rintro ⟨_,_,k',e,_,h2,q⟩;cases e;rw [hf k' h2] at q;exact q,by intro q;exact zQ x T k rfl hT hk q⟩
theorem r_isi_int_str{i:Int}:nz K [.int i,.ty "str"] H Q=Q (.bl false) H:=(jS (T:="str") .int Jk (fun k h=>by cases h;rfl)).trans (by rw [show dw "int" "str"=false by decide +kernel])
theorem r_isi_str_str{x:Str}:nz K [.str x,.ty "str"] H Q=Q (.bl true) H:=(jS (T:="str") .str Jk (fun k h=>by cases h;rfl)).trans (by rw [show dw "str" "str"=true by decide +kernel])
end
end L2
namespace L2
variable {p:Addr} {x:V}
section
variable {H:Hp} {Q:VK} {σ:St} {D:bK} {K:W.Frag}
theorem vw{a:Addr}{lo hi:Option Int}:v4 K (.ref a) lo hi H Q=∃xs,SqT K H a xs/\¬(HT.sIx xs.length 0 lo=0/\HT.sIx xs.length xs.length hi=xs.length)/\∀p,H p=none->Q (.ref p) (upd H p (.tup (cj xs lo hi))):=propext ⟨by rintro ⟨_,xs,e1,h⟩;cases e1;exact ⟨xs,h⟩,by rintro ⟨xs,h⟩;exact zE _ xs rfl h⟩
theorem vj:rIn K false x (.ref p) H Q=∃xs,(SqL K H p xs\/SqT K H p xs)/\bi x=true/\xs.all bi=true/\Q (.bl (inV x xs)) H:=propext ⟨by rintro ⟨_,xs,e1,h⟩;cases e1;exact ⟨xs,h⟩,by rintro ⟨xs,h⟩;exact zE _ xs rfl h⟩
end
theorem Paired.get{α β:Type}{F:α->β->Prop}:∀{l₁:List α} {l₂:List β} {i:Nat} {a:α},Paired F l₁ l₂->l₁[i]?=some a->∃b,l₂[i]?=some b/\F a b
 |_,_,_,_,.nil,e=>by simp at e
 |_,_,0,_,.cons h _,e=>by simp at e;subst e;exact zA _ rfl h
 |_,_,i+1,a,.cons _ t,e=>by obtain ⟨b,h1,h2⟩:=Paired.get (i:=i) (a:=a) t (by simpa using e);exact zA b (by simpa using h1) h2
theorem Same.updM{H0 H:Hp}{o:HO}(s:Same H0 H)(h:H0 p=none):Same H0 (L2.upd H p o):=fun b u e=>by rw [aj (am e h)];exact s b u e
theorem Same.updN{H0 H:Hp}{o:HO}(s:Same H0 H)(h:H p=none):Same H0 (L2.upd H p o):=s.updM (s.free h)
theorem rR{CX:CXT}{P:Program}{w:World}{K:W.Frag}{mg:Str->Option Value}{base:Heap}{N:List Str}{qual:Str}{scope:Scope}{f:Addr}{cd:Value}{A:Around}{outer:List Env}{s:Shared}{H:Hp}{E:XK}:(cL CX P w K mg base N qual scope f cd A outer s H E).K=K:=rfl
theorem u6{X:Cx}{E:Value->Shared->Prop}:(X.wish E).K=X.K:=rfl
theorem uF{X:Cx}{N':List Str}{scope:Scope}{b:Bk}:(X.blk N' scope b).K=X.K:=rfl
theorem sS{o:Option V}{ci:List Nat}{σ:St}:aJ [o] ci σ=none::o::ci.map fun i=>(σ[i]?).join:=rfl
theorem sT{o o':Option V}{ci:List Nat}{σ:St}:aJ [o,o'] ci σ=none::o::o'::ci.map fun i=>(σ[i]?).join:=rfl
theorem eQ{n k:Nat}{P:Prop}(h:¬HT.sIx n 0 (some (k:Int))=0):¬(HT.sIx n 0 (some (k:Int))=0/\P):=fun z=>h z.1
def rX:V->Bool
 | .str _=>true
 |_=>false
theorem jI{n:Str}:∀{ns:List Str},inV (.str n) (ns.map V.str)=decide (n∈ns)
 | []=>by simp [inV]
 |m::ns=>by
  have ih:=jI (n:=n) (ns:=ns);unfold inV at ih ⊢;rw [c5,lM,ih];have e:eqV (.str m) (.str n)=decide (m=n):=by unfold eqV;rfl
  rw [e]
  by_cases h1:m=n
  ·subst h1;simp
  ·have h2:¬n=m:=fun z=>h1 z.symm;simp [h1,h2]
theorem fN:∀{ns:List Str},(ns.map V.str).all bi=true
 | []=>rfl
 |n::ns=>by rw [c5,oA,fN];rfl
section
variable {K:W.Frag} {tt:TT} {te:TE} {ci:List Nat} {σ:St} {acc:Addr} {Q:Hp->Prop} {H1:Hp} {a:Addr} {xs:List V}
theorem kE(p:V->Bool)(f:V->V){x:V}{ys:List V}{H:Hp}{os:List (Option V)}{i:Nat}{Pv:Nat->List V->Hp->Prop}(ho:os.length=1)(hi:xs[i]?=some x)
  (hp:∀Q',Q' (p x) H->tt (aJ [some x] ci σ) H Q') (hf:∀Q',p x=true->Q' (f x) H->te (aJ [some x] ci σ) H Q') (hacc:H acc=some (.lst ys)) (hlen:ys.length<sizeLine)
  (h1:p x=true->Pv (i+1) (ys++[f x]) (upd H acc (.lst (ys++[f x])))) (h2:p x=false->Pv (i+1) ys H) :
  bc 1 x (aJ os ci σ) H fun σ1 H1=>(∃os',os'.length=1/\σ1=aJ os' ci σ)/\tt σ1 H1 fun b H2=>if b=true then te σ1 H2 fun z H3=>H3 acc=some (.lst ys)/\ys.length<sizeLine/\Pv (i+1) (ys++[z]) (upd H3 acc (.lst (ys++[z]))) else Pv (i+1) ys H2:=by
 have e:(aJ os ci σ).set 1 (some x)=aJ [some x] ci σ:=by
  match os,ho with
  | [o],_=>rfl
 show (∃os',os'.length=1/\(aJ os ci σ).set 1 (some x)=aJ os' ci σ)/\tt ((aJ os ci σ).set 1 (some x)) H _;rw [e];refine ⟨zA ([some x]) rfl rfl,hp _ ?_⟩
 cases hb:p x with
 |true=>rw [zq2 rfl];exact hf _ hb (zC hacc hlen (h1 hb))
 |false=>rw [zq1 zq6];exact h2 hb
theorem cg{p:V->Bool}{f:V->V}{xs:List V}{i:Nat}(hi:xs[i]?=some x):((xs.take (i+1)).filter p).map f=((xs.take i).filter p).map f++(if p x=true then [f x] else []):=by
 obtain ⟨h,e⟩:=zq25.mp hi;rw [qI h,e,List.filter_append,fm];congr 1
 cases hb:p x<;>simp [hb]
theorem ml{p:V->Bool}{f:V->V}{xs:List V}{i:Nat}(hi:xs[i]?=some x)(hz:xs.length<=sizeLine):(((xs.take i).filter p).map f).length<sizeLine:=by obtain ⟨h,e⟩:=zq25.mp hi;rw [ck];have:=List.length_filter_le p (xs.take i);rw [lJ] at this;omega
theorem jv{J:It}(p:V->Bool)(f:V->V)(hz:xs.length<=sizeLine)(hacc:H1 acc=none)
 (hJ:∀(Pv:Nat->List V->Hp->Prop),Pv 0 [] (upd H1 acc (.lst []))->(∀i ys H,Pv i ys H->∃ys',H=upd H1 acc (.lst ys'))->
 (∀(i:Nat)x ys H os,xs[i]?=some x->os.length=1->Pv i ys H->bc 1 x (aJ os ci σ) H fun σ1 H1=>(∃os',os'.length=1/\σ1=aJ os' ci σ)/\tt σ1 H1 fun b H2=>
 if b=true then te σ1 H2 fun z H3=>H3 acc=some (.lst ys)/\ys.length<sizeLine/\Pv (i+1) (ys++[z]) (upd H3 acc (.lst (ys++[z]))) else Pv (i+1) ys H2)->
 (∀ys H,Pv xs.length ys H->Q H)->bt J (bc 1) tt te 1 ci σ acc Q (upd H1 acc (.lst [])))
 (hp:∀x∈xs,∀H Q',Same H1 H->Q' (p x) H->tt (aJ [some x] ci σ) H Q') (hf:∀x∈xs,∀H Q',Same H1 H->p x=true->Q' (f x) H->te (aJ [some x] ci σ) H Q')
 (q:Q (upd H1 acc (.lst ((xs.filter p).map f)))):bt J (bc 1) tt te 1 ci σ acc Q (upd H1 acc (.lst [])):=by
 refine hJ (fun i ys H=>ys=((xs.take i).filter p).map f/\H=upd H1 acc (.lst ys)) ⟨Jo,rfl⟩ (fun i ys H h=>⟨ys,h.2⟩) ?_ ?_
 ·rintro i x ys H os hi ho ⟨rfl,rfl⟩;have hm:=lK hi;refine kE (xs:=xs) (Pv:=fun i ys H=>ys=((xs.take i).filter p).map f/\H=upd H1 acc (.lst ys)) p f ho hi (fun Q' h=>hp x hm _ _ (Same.upd hacc) h) (fun Q' hb h=>hf x hm _ _ (Same.upd hacc) hb h) ac (ml hi hz) (fun hb=>?_) (fun hb=>?_)
  ·rw [cg hi,zq2 hb];exact ⟨rfl,by rw [kj]⟩
  ·rw [cg hi,zq1 (by rw [hb];exact zq6),qA];exact ⟨rfl,rfl⟩
 ·rintro ys H ⟨rfl,rfl⟩;rw [lN];exact q
theorem m3(p:V->Bool)(f:V->V)(hz:xs.length<=sizeLine)(hl:SqT K H1 a xs)(hacc:H1 acc=none)
  (hp:∀x∈xs,∀H Q',Same H1 H->Q' (p x) H->tt (aJ [some x] ci σ) H Q') (hf:∀x∈xs,∀H Q',Same H1 H->p x=true->Q' (f x) H->te (aJ [some x] ci σ) H Q')
  (q:Q (upd H1 acc (.lst ((xs.filter p).map f)))):bt (Itt K a) (bc 1) tt te 1 ci σ acc Q (upd H1 acc (.lst [])):=
 jv p f hz hacc (fun Pv h0 hH hs hd=>rQ Pv h0 (fun i ys H _ h=>by obtain ⟨ys',rfl⟩:=hH i ys H h;exact (Same.upd hacc).seqT hl) hs hd) hp hf q
theorem lZ{lo:Int}{n:Nat}(p:Int->Bool)(f:Int->V)(hz:n<=sizeLine)(hacc:H1 acc=none)
 (hp:∀i:Nat,i<n->∀H Q',Same H1 H->Q' (p (lo+i)) H->tt (aJ [some (.int (lo+i))] ci σ) H Q') (hf:∀i:Nat,i<n->∀H Q',Same H1 H->p (lo+i)=true->Q' (f (lo+i)) H->te (aJ [some (.int (lo+i))] ci σ) H Q')
 (q:Q (upd H1 acc (.lst (((List.range n).filter fun i:Nat=>p (lo+i)).map fun i:Nat=>f (lo+i))))):bt (Itr lo n) (bc 1) tt te 1 ci σ acc Q (upd H1 acc (.lst [])):=by
 have hx:∀(i:Nat),i<n->((List.range n).map fun k:Nat=>V.int (lo+k))[i]?=some (.int (lo+i)):=fun i hi=>by simp [hi]
 have key:=jv (xs:=(List.range n).map fun k:Nat=>V.int (lo+k)) (J:=Itr lo n) (tt:=tt) (te:=te) (ci:=ci) (σ:=σ) (acc:=acc) (Q:=Q) (H1:=H1)
  (fun x=>match x with | .int i=>p i | _=>false) (fun x=>match x with | .int i=>f i | _=>.non) (by simpa using hz) hacc
  (fun Pv h0 hH hs hd=>gS Pv h0 (fun i ys H os hi ho h=>hs i _ ys H os (hx i hi) ho h) (fun ys H h=>hd ys H (by simpa using h)))
  (fun x hm H Q' sm h=>by obtain ⟨k,hk,rfl⟩:=zq34.mp hm;exact hp k (zq46.mp hk) H Q' sm h)
  (fun x hm H Q' sm hb h=>by obtain ⟨k,hk,rfl⟩:=zq34.mp hm;exact hf k (zq46.mp hk) H Q' sm hb h)
 refine key ?_;have e:(((List.range n).map fun k:Nat=>V.int (lo+k)).filter (fun x=>match x with | .int i=>p i | _=>false)).map (fun x=>match x with | .int i=>f i | _=>.non)=((List.range n).filter fun i:Nat=>p (lo+i)).map fun i:Nat=>f (lo+i):=by rw [List.filter_map,qJ];rfl
 rw [e];exact q
end
end L2
end
namespace FB
open PySem L2
inductive Opd where
 |box (n:Str)
 |word (i:Int)
 deriving DecidableEq
def Opd.v:Opd->V
 | .box n=>.str n
 | .word i=>.int i
inductive Deed where
 |tell (a:Opd)
 |copy (d:Str) (a:Opd)
 |op (f d:Str) (a b:Opd)
 deriving DecidableEq
def opsL:List Str:=["plus","less","and","or","xor","below","same"]
def Deed.vs:Deed->List V
 | .tell a=>[.str "tell",a.v]
 | .copy d a=>[.str "copy",.str d,a.v]
 | .op f d a b=>[.str f,.str d,a.v,b.v]
def Deed.fine:Deed->Prop
 | .op f _ _ _=>f∈opsL
 |_=>True
def Deed.writes:Deed->List Str
 | .tell _=>[]
 | .copy d _=>[d]
 | .op _ d _ _=>[d]
def Deed.tells:Deed->Bool
 | .tell _=>true
 |_=>false
end FB
section
open PySem PySem.Spec PyProof.Rows
namespace L2
section
variable {X:Cx}
def oW(ka kb:List (Key×V)):Bool:=ka.length==kb.length&&ka.all fun kv=>match aN kb kv.1 with | none=>false | some y=>eqV kv.2 y
theorem wf{kvs:List (Key×V)}{vs:List (Key×Value)}(r:KV kvs vs)(k:Key):(aN kvs k=none/\valueAt vs k=none)\/∃v u,aN kvs k=some v/\valueAt vs k=some u/\RelV v u:=by
 induction r with
 |nil=>exact .inl ⟨rfl,rfl⟩
 | @cons a b l1 l2 h t ih=>
  obtain ⟨h1,h2⟩:=h
  by_cases e:a.1=k
  ·refine .inr (zB a.2 b.2 (aQ e) ?_ h2);unfold valueAt;rw [List.find?_cons];simp [h1.symm.trans e]
  ·rw [aP e];have e':valueAt (b::l2) k=valueAt l2 k:=by unfold valueAt;rw [List.find?_cons];have:¬b.1=k:=fun z=>e (h1.trans z);simp [this]
   rw [e'];exact ih
theorem jH{A:Around}{s:Shared}{kb:List (Key×V)}{wb:List (Key×Value)}(rb:KV kb wb)(fb:kb.all (fun kv=>bi kv.2)=true):∀{ka:List (Key×V)} {wa:List (Key×Value)},KV ka wa->ka.all (fun kv=>bi kv.2)=true->
  W.KeqHits A s wb wa (ka.all fun kv=>match aN kb kv.1 with | none=>false | some y=>eqV kv.2 y)
 |_,_,.nil,_=>.nil
 |a::ka,b::wa,.cons ⟨h1,h2⟩ t,hf=>by
  rw [oA,dn] at hf;rw [oA];rcases wf rb a.1 with ⟨e1,e2⟩ | ⟨v,u,e1,e2,r⟩
  ·rw [e1];obtain ⟨k,y⟩:=b;have hk:a.1=k:=h1;subst hk;rw [uk];exact .miss e2
  ·rw [e1];obtain ⟨k,y⟩:=b;have hk:a.1=k:=h1;subst hk;refine .hit e2 ?_ (jH rb fb t hf.2);have fv:bi v=true:=by
    have hm:∃kv∈kb,kv.2=v:=by unfold aN at e1;obtain ⟨kv,hkv,e⟩:=zq56.mp e1;exact zA kv (List.mem_of_find?_eq_some hkv) e
    obtain ⟨kv,hm,rfl⟩:=hm;exact zq39.mp fb kv hm
   exact gw h2 r hf.1 fv
theorem kC{ka:List (Key×V)}(hn:(ka.map (·.1)).Nodup)(hf:ka.all (fun kv=>bi kv.2)=true):oW ka ka=true:=by
 unfold oW;rw [beq_self_eq_true,Bool.true_and,zq39];intro kv hm;have e:aN ka kv.1=some kv.2:=by
  clear hf
  induction ka with
  |nil=>cases hm
  |cons p r ih=>
   rw [c5,zq30] at hn;rcases zq8.mp hm with rfl | hm
   ·exact aQ rfl
   ·rw [aP (fun z=>hn.1 (by rw [z];exact zq34.mpr (zA kv hm rfl)))];exact ih hn.2 hm
 rw [e];exact mj (zq39.mp hf kv hm)
end
end L2
namespace L2
variable {H:Hp} {sc:Scope} {σ:St}
section
variable {X:Cx} {x:Str} {p pos:Pos} {e:Expr} {es:List Expr} {t:TA} {id T:String} {r:List V->Hp->VK->Prop}
theorem qv(i:Nat){x:Str}{pos:Pos}(hv:Vis X.env.scope x)(hN:X.N[i]?=some x:=by rfl)(hd:(x==("__debug__":Str))=false:=by kernel_rfl) (hcd:(x==("__classdict__":Str))=false:=by kernel_rfl):PE X (.Name x pos) (tZ i):=sM hN hv hd hcd
theorem vl{x:Str}(h:sc.names.lookup x=some .local:=by kernel_rfl):Vis sc x:=.inl h
theorem vc{x:Str}(h:sc.names.lookup x=some .cell:=by kernel_rfl):Vis sc x:=.inr (.inl h)
theorem ll{x:Str}(h:sc.names.lookup x=some .local:=by kernel_rfl):Loc sc x:=.inl h
theorem gl{X:Cx}{x:Str}(h:X.env.scope.names.lookup x=some .globalImplicit:=by kernel_rfl):Gl X x:=h
theorem gD{x:Str}(h:(x==("__name__":Str))=false:=by kernel_rfl):x≠"__name__":=fun z=>by subst z;exact absurd h Jk
theorem nq{k:Nat}{f:Addr}{fd:FuncData}{ps:List Str}{sp:Sp}{x:Str}{st:Stmt}{p pos:Pos}{e:Expr}{es:List Expr}{t:TA}(D:ba X.K X.mg x st ps f fd)(G:FnOk X.prog X.w X.K X.mg X.base CX0 k f fd ps sp)(hr:Room k X.A)
  (ha:PA X (e::es) t) (hg:Gl X x) (hdb:(x==("__debug__":Str))=false:=by kernel_rfl) (he:starEach (e::es) X.env=(false,eval e X.env)::starEach es X.env:=by rfl) (hpl:(backTo pos (starEach es X.env)).any (·.1)=false:=by rfl) :
  PE X (.Call (.Name x p) (e::es) [] pos) (iC sp [] E0 t):=mZ D G hr ha hg hdb he hpl
def iQ:Expr->Option V
 | .Constant (.int i) _ _=>some (.int i)
 | .Constant (.str x) _ _=>some (.str x)
 | .Constant (.bool b) _ _=>some (.bl b)
 | .Constant .none _ _=>some .non
 |_=>none
def ee:List Expr->Option (List V)
 | []=>some []
 |e::es=>(iQ e).bind fun v=>(ee es).map fun vs=>v::vs
def tVs(vs:List V):TA:=fun _ H Q=>Q vs H
theorem kx{e:Expr}{v:V}(h:iQ e=some v):PE X e (tC v)/\∀es,starEach (e::es) X.env=(false,eval e X.env)::starEach es X.env:=by
 unfold iQ at h
 split at h
 ·cases h;exact ⟨n9,fun _=>rfl⟩
 ·cases h;exact ⟨nh,fun _=>rfl⟩
 ·cases h;exact ⟨uU,fun _=>rfl⟩
 ·cases h;exact ⟨ng,fun _=>rfl⟩
 ·cases h
theorem ie:∀{es:List Expr} {vs:List V},ee es=some vs->PA X es (tVs vs)
 | [],_,h=>by cases h;exact mX
 |e::es,vs,h=>by unfold ee at h;obtain ⟨v,h1,h2⟩:=Option.bind_eq_some_iff.mp h;obtain ⟨ws,h3,h4⟩:=zq56.mp h2;subst h4;obtain ⟨p1,p2⟩:=kx (X:=X) h1;exact jN p1 (ie h3) (p2 es)
theorem wA{vs:List V}{Z:List V->Hp->Prop}:tVs vs σ H Z=Z vs H:=rfl
theorem pQ{Q:VK}:nW σ H Q=∀p,H p=none->Q (.ref p) (upd H p (.dK [])):=rfl
theorem sY{td ty tv:TE}{D:bK}:nP td ty tv D σ H=tv σ H fun v H1=>td σ H1 fun x H2=>ty σ H2 fun y H3=>∃a H4,x=.ref a/\DPut H3 a y v H4/\D.nx σ H4:=rfl
theorem t7{c:Addr}{Z:Addr->Hp->Prop}:(∃a H4,V.ref c=.ref a/\Z a H4)=∃H4,Z c H4:=propext ⟨by rintro ⟨_,H4,e,q⟩;cases e;exact ⟨H4,q⟩,by rintro ⟨H4,q⟩;exact zE c H4 rfl q⟩
def tW(t u:TS):TS:=fun D σ H=>∃Mid:St->Hp->Prop,t {D with nx:=Mid} σ H/\∀σ' H',Mid σ' H'->u D σ' H'
theorem rg{ta tb:TS}{D:bK}:tW ta tb D σ H=∃Mid:St->Hp->Prop,ta {D with nx:=Mid} σ H/\∀σ' H',Mid σ' H'->tb D σ' H':=rfl
end
end L2
namespace L2
variable {dx:Addr}
structure KlsAt(K:W.Frag)(mg:Str->Option Value)(x:Str)(C:Addr):Prop where
 cl:Cls K C
 mks:W.makesIn K C=true
 kp:W.keepIn K (.ref C)=true
 M:mg x=some (.ref C)
structure bo(K:W.Frag)(C:Addr)(m qual:Str)(st:Stmt)(ps:List Str)(f:Addr)(fd:FuncData):Prop where
 F:Fun K m qual st f fd
 B:Binds K fd ps []
 M:ko K C m f
theorem KlsAt.make{K:W.Frag}{mg:Str->Option Value}{x qual:Str}{C f:Addr}{st:Stmt}{ps:List Str}{fd:FuncData}(c:KlsAt K mg x C)(m:bo K C "__init__" qual st ps f fd):Mk K C f:=⟨c.mks,m.M.at_,m.M.fn,c.kp⟩
section
variable {X:Cx} {k:Nat} {f C:Addr} {fd:FuncData} {ps:List Str} {sp:Sp} {x m qual:Str} {st:Stmt} {p pos apos:Pos} {e o:Expr} {es:List Expr} {ta:TE} {t:TA}
theorem nu(c:KlsAt X.K X.mg x C)(D:bo X.K C "__init__" qual st ps f fd) (G:FnOk X.prog X.w X.K X.mg X.base CX0 k f fd ps sp) (hr:Room (k+1) X.A)
  (ha:PA X (e::es) t) (hg:Gl X x) (hdb:(x==("__debug__":Str))=false:=by kernel_rfl) (he:starEach (e::es) X.env=(false,eval e X.env)::starEach es X.env:=by rfl) (hpl:(backTo pos (starEach es X.env)).any (·.1)=false:=by rfl) :
  PE X (.Call (.Name x p) (e::es) [] pos) (iD C sp [] E0 t):=pI (c.make D) G hr hg c.M D.B .nil jO ha hdb he hpl
theorem nv{pl:Sem Bool}(c:Cls X.K C)(D:bo X.K C m qual st ps f fd)(G:FnOk X.prog X.w X.K X.mg X.base CX0 k f fd ps sp)(hr:Room k X.A)(he:PE X o ta)(ha:PA X (e::es) t)
  (hst:starEach (e::es) X.env=(false,eval e X.env)::starEach es X.env:=by rfl) (hpl:(backTo pos (starEach es X.env)).any (·.1)=false:=by rfl)
  (ht:eval (.Call (.Attribute o m apos) (e::es) [] pos) X.env=(do
   let ov <- eval o X.env
   standAt apos.atName
   let (f,first) <- holding [ov] (getMethod ov m pl)
   callWith pos f first (backTo pos (starEach (e::es) X.env)) (backToKw pos (keywordEach [] X.env))):=by rfl) :
  PE X (.Call (.Attribute o m apos) (e::es) [] pos) (dg C m sp [] E0 ta t):=jP he c D.M G hr D.B .nil jO ha hst hpl ht
theorem l6{pl:Sem Bool}(c:Cls X.K C)(D:bo X.K C m qual st ps f fd)(G:FnOk X.prog X.w X.K X.mg X.base CX0 k f fd ps sp)(hr:Room k X.A)(he:PE X o ta)
  (ht:eval (.Call (.Attribute o m apos) [] [] pos) X.env=(do
   let ov <- eval o X.env
   standAt apos.atName
   let (f,first) <- holding [ov] (getMethod ov m pl)
   callWith pos f first (backTo pos (starEach [] X.env)) (backToKw pos (keywordEach [] X.env))):=by rfl) :
  PE X (.Call (.Attribute o m apos) [] [] pos) (dg C m sp [] E0 ta lu):=nc he c D.M G hr D.B .nil jO ht
end
section
variable {H:Hp} {Q:VK} {σ:St} {D:bK} {K:W.Frag}
def lQ(K:W.Frag)(x:V)(f:Str)(y:V)(H:Hp)(Z:Hp->Prop):Prop:=∃a C dx fs,x=.ref a/\H a=some (.ins C dx fs)/\Cls K C/\NoAttr K C f/\fs.length<1000/\Z (upd H a (.ins C dx (bT f y fs)))
def lP(K:W.Frag)(x:V)(f:Str)(H:Hp)(Q:VK):Prop:=∃a C dx fs v,x=.ref a/\H a=some (.ins C dx fs)/\Cls K C/\NoAttr K C f/\fs.lookup f=some v/\Q v H
def iN(C:Addr)(m:Str)(x:V)(H:Hp)(Z:Prop):Prop:=∃a dx fs,x=.ref a/\H a=some (.ins C dx fs)/\fs.lookup m=none/\Z
def uC(C:Addr)(sp:Sp)(vs:List V)(H:Hp)(Q:VK)(E:XK):Prop:=∀x dx,H x=none->H dx=none->dx≠x->sp (.ref x::vs) (upd (upd H dx (.own x)) x (.ins C dx [])) (fun v H2=>v=.non/\Q (.ref x) H2) E
theorem tO{ta tv:TE}{f:Str}:vB K ta tv f D σ H=tv σ H fun y H1=>ta σ H1 fun x H2=>lQ K x f y H2 (D.nx σ):=rfl
theorem tf{ta:TE}{f:Str}:vZ K ta f σ H Q=ta σ H fun x H1=>lP K x f H1 Q:=rfl
theorem tI{C:Addr}{m:Str}{sp:Sp}{E:XK}{ta:TE}{t:TA}:dg C m sp [] E ta t σ H Q=ta σ H fun x H1=>iN C m x H1 (t σ H1 fun vs H2=>sp (x::vs) H2 Q E):=by unfold dg iN;simp only [List.append_nil]
theorem tH{C:Addr}{sp:Sp}{E:XK}{t:TA}:iD C sp [] E t σ H Q=t σ H fun vs H1=>uC C sp vs H1 Q E:=by unfold iD uC;simp only [List.append_nil]
theorem hU{p C:Addr}{fs:List (Str×V)}{f:Str}{y:V}{Z:Hp->Prop}(e:H p=some (.ins C dx fs))(c:Cls K C)(n:NoAttr K C f)(l:fs.length<1000)(h:Z (upd H p (.ins C dx (bT f y fs)))):lQ K (.ref p) f y H Z:=zW p C dx fs rfl e c n l h
theorem bN{p C:Addr}{fs:List (Str×V)}{f:Str}{v:V}(e:H p=some (.ins C dx fs))(c:Cls K C)(n:NoAttr K C f)(l:fs.lookup f=some v)(h:Q v H):lP K (.ref p) f H Q:=zK p C dx fs v (zI rfl e c n l h)
theorem dz{p C:Addr}{fs:List (Str×V)}{m:Str}{Z:Prop}(e:H p=some (.ins C dx fs))(l:fs.lookup m=none)(h:Z):iN C m (.ref p) H Z:=zQ p dx fs rfl e l h
end
end L2
namespace L2
section
variable {K:W.Frag} {h:Heap} {mg:Str->Option Value}
abbrev fnS (x qual:Str) (st:Stmt) (kV doc pm:Value) (an:Option Addr) (cdv ct:Value):FuncData:=W.fnOf x qual (bD st) (bu st) (ap st) .none kV doc pm an cdv ct
abbrev iL (x qual:Str) (st:Stmt) (ps:List Str):Prop:=∀(kV doc pm:Value)(an:Option Addr)(cdv ct:Value)(us:List Value),us.length=ps.length->bindArgs (fnS x qual st kV doc pm an cdv ct) ⟨us,[]⟩=pure (ps.zip us)
theorem cr{x:Str}{st:Stmt}{ps:List Str}{f:Addr}{oc:Value}{od an:Option Addr}{osl:Array (Option Value)}{kV doc pm cdv ct:Value}(X:K.In h)(G:h.Ns mainGlobals mg)(a:W.nsIn K mainGlobals x=some (some (.ref f)))
  (l:K.lookup f=some ⟨oc,od,.func (W.fnOf x x (bD st) (bu st) (ap st) .none kV doc pm an cdv ct),osl⟩) (c:W.codeIn K cdv x=true) (k:W.keepIn K (.ref f)=true) (b:iL x x st ps):ba K mg x st ps f (W.fnOf x x (bD st) (bu st) (ap st) .none kV doc pm an cdv ct):=
 ⟨gx l c k,(gx l c k).binds b,W.mg_of X G a⟩
theorem iZ{C:Addr}{x qual:Str}{st:Stmt}{ps:List Str}{f:Addr}{oc:Value}{od an:Option Addr}{osl:Array (Option Value)}{kV doc pm cdv ct:Value}(a:W.findIn K (.ref C) x=some (some (.ref f)))(i:W.isFn K (.ref f)=true)
  (l:K.lookup f=some ⟨oc,od,.func (W.fnOf x qual (bD st) (bu st) (ap st) .none kV doc pm an cdv ct),osl⟩) (c:W.codeIn K cdv qual=true) (k:W.keepIn K (.ref f)=true) (b:iL x qual st ps):bo K C x qual st ps f (W.fnOf x qual (bD st) (bu st) (ap st) .none kV doc pm an cdv ct):=
 ⟨gx l c k,(gx l c k).binds b,⟨a,i,k⟩⟩
theorem uI{x:Str}{C:Addr}(X:K.In h)(G:h.Ns mainGlobals mg)(a:W.nsIn K mainGlobals x=some (some (.ref C)))(h1:W.plainGet K C Str.empty=true)(h2:W.hasDictIn K C=true)(h3:W.plainOver K C=true)
  (h4:W.findIn K (.ref C) "__setattr__"=some (some (.builtin "object.__setattr__"))) (h5:W.makesIn K C=true) (h6:W.keepIn K (.ref C)=true):KlsAt K mg x C:=⟨⟨h1,h2,h3,h4⟩,h5,h6,W.mg_of X G a⟩
end
section
variable {x qual p q r s t u:Str} {st:Stmt}
theorem bn1(h:∀kV doc pm an cdv ct a,bindArgs (fnS x qual st kV doc pm an cdv ct) ⟨[a],[]⟩=pure [(p,a)]):iL x qual st [p]:=fun kV doc pm an cdv ct us hl=>by
 match us,hl with
 | [a],_=>exact h kV doc pm an cdv ct a
theorem bn2(h:∀kV doc pm an cdv ct a b,bindArgs (fnS x qual st kV doc pm an cdv ct) ⟨[a,b],[]⟩=pure [(p,a),(q,b)]):iL x qual st [p,q]:=fun kV doc pm an cdv ct us hl=>by
 match us,hl with
 | [a,b],_=>exact h kV doc pm an cdv ct a b
theorem bn3(h:∀kV doc pm an cdv ct a b c,bindArgs (fnS x qual st kV doc pm an cdv ct) ⟨[a,b,c],[]⟩=pure [(p,a),(q,b),(r,c)]):iL x qual st [p,q,r]:=fun kV doc pm an cdv ct us hl=>by
 match us,hl with
 | [a,b,c],_=>exact h kV doc pm an cdv ct a b c
theorem bn4(h:∀kV doc pm an cdv ct a b c d,bindArgs (fnS x qual st kV doc pm an cdv ct) ⟨[a,b,c,d],[]⟩=pure [(p,a),(q,b),(r,c),(s,d)]):iL x qual st [p,q,r,s]:=fun kV doc pm an cdv ct us hl=>by
 match us,hl with
 | [a,b,c,d],_=>exact h kV doc pm an cdv ct a b c d
theorem bn5(h:∀kV doc pm an cdv ct a b c d e,bindArgs (fnS x qual st kV doc pm an cdv ct) ⟨[a,b,c,d,e],[]⟩=pure [(p,a),(q,b),(r,c),(s,d),(t,e)]):iL x qual st [p,q,r,s,t]:=fun kV doc pm an cdv ct us hl=>by
 match us,hl with
 | [a,b,c,d,e],_=>exact h kV doc pm an cdv ct a b c d e
end
end L2
namespace L2
section
variable {X:Cx}
end
end L2
namespace L2
section
variable {X:Cx}
end
end L2
namespace L2
open AutoSeq1 (wpAny_loadPart')
theorem jV:mroOf (.type "reversed")=pure [.type "reversed",.type "object"]:=by rw [mroOf_type];kernel_rfl
theorem pZ:typeLookup (.type "reversed") "__new__"=pure (some (.builtin "reversed.__new__")):=by rw [typeLookup_type,builtinLookup_eq_fast];kernel_rfl
theorem nM:Bind.madeBy (.type "reversed")=pure (some "reversed.__new__"):=madeBy_type jV pZ Jk
theorem q9:isSubtype (.type "list_reverseiterator") (.type "reversed")=pure false:=by rw [isSubtype_type];kernel_rfl
theorem nN:isSubtype (.type "reversed") (.type "reversed")=pure true:=by rw [isSubtype_type];kernel_rfl
theorem lc:entryFor table "reversed.__new__"=some Builtin.«reversed.__new__»:=entryFor_of_tree Jl
theorem cY(l:Addr)(items:Array Value)(n:Nat)(dct:Option Addr)(sl:Array (Option Value)):
  Meets (Builtin.«reversed.__new__» ⟨[.type "reversed",.ref l],[]⟩) (fun _ R s=>s.heap.get? l=some {cls:=.type "list",dict:=dct,data:=.seq items n,slots:=sl}/\
   R (.ok (.ret (.ref s.heap.objs.size))) {s with heap:=s.heap.push {cls:=.type "list_reverseiterator",data:=.fields #[.ref l,rawInt (((items.size:Nat):Int)-1)]}}):=
 .of_wp fun prog w A R s h=>by
  obtain ⟨hp,g,d,tk,os⟩:=s;obtain ⟨hl,h⟩:=h;have hsub:=nN;have hL:Heap.IsList (Shared.heap ⟨hp,g,d,tk,os⟩) l items:=zD _ hl rfl ⟨n,rfl⟩
  wp_walk using wpAny_loadPart' hl
  refine wpAny_of_eq PySem.F.slot_list_reversed.lookup ?_;refine zq0 ?_;unfold bindSpecial;refine zq0 (wpAny_of_eq PySem.F.type_list_reversed ?_);rw [zq2 Jm];refine zq3 ?_;show wpAny _ _ (if (Value.builtin "list.__reversed__"==Value.none)=true then _ else _) _ _ _;rw [zq1 Jm];refine zq0 (wpAny_rule ?_);refine zq0 ?_;show wpAny (model prog w) A.in1 (call (.builtin "list.__reversed__") [.ref l]) _ _ _;refine wpAny_call_entry PySem.F.slot_list_reversed hL.typeIs PySem.F.entry_list_reversed ?_ (PySem.F.args_list_reversed_1 _)
  wp_walk using wpAny_loadPart' hl
  exact zA _ rfl (zq3 (zA _ rfl h))
def IsRev(h:Heap)(it l:Addr)(k:Int):Prop:=∃o,h.get? it=some o/\o.cls=.type "list_reverseiterator"/\o.data=.fields #[.ref l,.int k 0]
section
variable {prog:Program} {w:World} {A:Around} {E:Value->Shared->Prop} {s:Shared}
theorem cU{l:Addr}{items:Array Value}{Q:Value->Shared->Prop}(hL:s.heap.IsList l items)
  (h:∀h',IsRev h' s.heap.objs.size l (((items.size:Nat):Int)-1)->h'.objs.size=s.heap.objs.size+1->(∀b o,s.heap.get? b=some o->h'.get? b=some o)->Q (.ref s.heap.objs.size) {s with heap:=h'}) :
  wpAny (model prog w) A (call (.type "reversed") [.ref l]) Q E s:=by
 obtain ⟨⟨c,dct,dt,sl⟩,hl,hc,n,hd⟩:=hL;replace hc:c=.type "list":=hc;replace hd:dt=.seq items n:=hd;subst hc hd;have hmro:=jV;have hmade:=nM;have hsub:=q9;refine wpAny_call (codeAny_of_tree ?_);show wpAny _ _ (callAny (.type "reversed") _) _ _ _;refine zq3 ⟨Code.quiet_builtin _ Jk,uv F.entry_type_call ?_⟩;rw [Around.under_plain (weight_type_call_type "reversed" [.ref l] []) (units_type_call_type "reversed" [.ref l] [])];have h1:(Value.type "reversed"==Value.type "type")=false:=by decide +kernel
 have h2:((Manifest.find? "reversed").bind (·.mro.findSome? fun t=>(Manifest.find? t).bind fun b=>if b.noNew then some true else if b.attrs.any (·.1=="__new__") then some false else none)).getD false=false:=by decide +kernel
 have hct:checkTypeCall "reversed" ⟨[.ref l],[]⟩=pure ():=by kernel_rfl
 have hcn:checkBuiltinCall "reversed.__new__" ⟨[.type "reversed",.ref l],[]⟩=pure ():=by kernel_rfl
 repeat (any_goals (first | assumption | wp_step))
 have key:=cY l items n dct sl prog w A.in1 (wants (fun v s'=>v=.ref s.heap.objs.size/\s'={s with heap:=s.heap.push {cls:=.type "list_reverseiterator",data:=.fields #[.ref l,rawInt (((items.size:Nat):Int)-1)]}}) E) s (zC hl rfl rfl);refine codeAny_mono (codeAny_call_builtin Jk lc (wpAny_of_eq hcn key)) fun r s₁ hr=>?_
 cases r with
 |error e=>exact hr
 |ok fl=>
  cases fl with
  |ret obj=>
   obtain ⟨rfl,rfl⟩:=hr;have hT:Shared.TypeIs {s with heap:=s.heap.push {cls:=.type "list_reverseiterator",data:=.fields #[.ref l,rawInt (((items.size:Nat):Int)-1)]}} (.ref s.heap.objs.size) "list_reverseiterator":=zA _ (bV _ rfl) rfl
   repeat (any_goals (first | assumption | wp_step))
   exact h _ (zD _ (bV _ rfl) rfl rfl) (qy ..) (fun b o x=>zq9 _ x)
  |_=>exact hr.elim
end
end L2
namespace L2
variable {it l:Addr}
theorem slot_rev_next:Slot "list_reverseiterator" "__next__" "list_reverseiterator.__next__":=
 .of (owner:="list_reverseiterator") (n:="__next__") (by rw [typeLookup_type,builtinLookup_eq_fast];kernel_rfl) Jk Jk Jk
  (by first | exact .inl Jk | exact .inr Jk) (by rw [isSubtype_type];kernel_rfl)
theorem cS:Slot "list_reverseiterator" "__iter__" "list_reverseiterator.__iter__":=
 .of (owner:="list_reverseiterator") (n:="__iter__") (by rw [typeLookup_type,builtinLookup_eq_fast];kernel_rfl) Jk Jk Jk
  (by first | exact .inl Jk | exact .inr Jk) (by rw [isSubtype_type];kernel_rfl)
theorem cu:entryFor table "list_reverseiterator.__next__"=some Builtin.«list_reverseiterator.__next__»:=entryFor_of_tree Jl
theorem eJ:entryFor table "list_reverseiterator.__iter__"=some Builtin.«dict_keyiterator.__iter__»:=
 entryFor_alias (id':="dict_keyiterator.__iter__") Jl (by first | rfl | decide +kernel | (unfold String.splitOn;simp +decide [String.splitOnAux])) Jk Jl
theorem cP(a:Value):argsOk "list_reverseiterator.__next__" ⟨[a],[]⟩:=by unfold argsOk;kernel_rfl
theorem fq(a:Value):argsOk "list_reverseiterator.__iter__" ⟨[a],[]⟩:=by unfold argsOk;kernel_rfl
theorem IsRev.typeIs{s:Shared}{k:Int}(x:IsRev s.heap it l k):s.TypeIs (.ref it) "list_reverseiterator":=let ⟨o,ho,hc,_⟩:=x;(zA o ho hc)
section
variable {prog:Program} {w:World} {A:Around} {E:Value->Shared->Prop} {s:Shared}
theorem eT{k:Int}{Q:Value->Shared->Prop}(hi:IsRev s.heap it l k)(h:Q (.ref it) s):wpAny (model prog w) A (pyIter (.ref it)) Q E s:=by refine wpAny_pyIter_slot hi.typeIs cS (wpAny_call_entry cS hi.typeIs eJ ?_ (fq _));show wpAny _ _ (ret (.ref it)) _ _ s;exact zq3 (zA _ rfl (zB ("list_reverseiterator") _ hi.typeIs slot_rev_next.lookup h))
theorem dY{i:Nat}{items:Array Value}{x:Value}{Q:Option Value->Shared->Prop}(hit:IsRev s.heap it l (i:Int))(hl:s.heap.IsList l items)(hx:items[i]?=some x)
 (hQ:∀h',IsRev h' it l ((i:Int)-1)->Heap.SameBut it s.heap h'->Q (some x) {s with heap:=h'}):wpAny (model prog w) A (pyNext (.ref it)) Q E s:=by
 obtain ⟨o,ho,hc,hd⟩:=id hit;obtain ⟨ol,hol,_,nl,hdl⟩:=hl;unfold pyNext;refine zq0 (wpAny_attempt (wpAny_callSpecial?_slot (name:=Str.ofString "__next__") hit.typeIs slot_rev_next (wpAny_call_entry slot_rev_next hit.typeIs cu ?_ (cP _))));show wpAny _ _ (field (.ref it) 1 >>= _) _ _ s;refine zq0 (wpAny_field ho hd (x:=.int i 0) rfl ?_);show wpAny _ _ (if (i:Int)<0 then _ else _) _ _ s;rw [zq1 Jn];show wpAny _ _ (field (.ref it) 0 >>= _) _ _ s;refine zq0 (wpAny_field ho hd (x:=.ref l) rfl ?_);show wpAny _ _ (seqItems? (.ref l) >>= _) _ _ s;refine zq0 (wpAny_seqItems hol hdl ?_);simp only [Int.toNat_natCast,hx];refine zq0 (wpAny_setField ho hd Jo (zq3 (zA x rfl (zq3 (hQ _ ?_ (Heap.SameBut.update ..))))));exact zD _ (oC _ ho (Obj.isFreed_of_fields (Obj.data_mapFields hd _))) ((Obj.cls_mapFields ..).trans hc) (by rw [Obj.data_mapFields hd];simp [rawInt])
theorem eV{Q:Option Value->Shared->Prop}(hh:A.handled=none)(hit:IsRev s.heap it l (-1))
 (hQ:∀h',Heap.ExtBut it s.heap h'->Q none {s with heap:=h'}):wpAny (model prog w) A (pyNext (.ref it)) Q E s:=by
 obtain ⟨o,ho,hc,hd⟩:=id hit;unfold pyNext;refine zq0 (wpAny_attempt (wpAny_callSpecial?_slot (name:=Str.ofString "__next__") hit.typeIs slot_rev_next (wpAny_call_entry slot_rev_next hit.typeIs cu ?_ (cP _))));show wpAny _ _ (field (.ref it) 1 >>= _) _ _ s;refine zq0 (wpAny_field ho hd (x:=.int (-1) 0) rfl ?_);show wpAny _ _ (if (-1:Int)<0 then _ else _) _ _ s;rw [zq2 Jm];refine zq0 (wpAny_rule ?_);refine zq0 ?_;show wpAny _ _ (newExc (.type "StopIteration") [] >>= _) _ _ _;refine zq0 ?_;simp only [newExc,newTuple];refine zq0 (wpAny_newObj_type ?_ (by size_fits));refine zq0 (m:=firstArgMember _ _) (wpAny_of_eq (a:=Value.none) (by first | rfl | (simp only [firstArgMember];rfl)) ?_);refine wpAny_newObj_type ?_ (by size_fits);simp only [raiseNew];refine zq0 (wpAny_handled ?_);rw [show A.in1.handled=none from hh];refine zq0 (zq3 (wpAny_throw ?_));refine zq0 (wpAny_isInstance (T:="StopIteration") (b:=true) ⟨_,bV _ rfl,rfl⟩ isSubtype_stop ?_);exact zq3 (hQ _ (fun b o _ e=>zq9 _ (zq9 _ e)))
end
end L2
namespace L2
theorem IsRev.keep{h h':Heap}{it l:Addr}{k:Int}(x:IsRev h it l k)(hk:∀o,h.get? it=some o->h'.get? it=some o):IsRev h' it l k:=let ⟨o,ho,r⟩:=x;(zA o (hk o ho) r)
section
variable {g:TG} {tb:TS} {D:bK} {σ:St} {H:Hp}
end
end L2
namespace L2
theorem lg:typeLookup (.type "list_reverseiterator") "__len__"=pure none:=by rw [typeLookup_type,builtinLookup_eq_fast];kernel_rfl
theorem nL:typeLookup (.type "list_reverseiterator") "__length_hint__"=pure (some (.builtin "list_reverseiterator.__length_hint__")):=by rw [typeLookup_type,builtinLookup_eq_fast];kernel_rfl
section
variable {prog:Program} {w:World} {A:Around} {E:Value->Shared->Prop} {s:Shared}
theorem my{r:Addr}{Q:Bool->Shared->Prop}(hT:s.TypeIs (.ref r) "list_reverseiterator") (h:Q false s):wpAny (model prog w) A (Builtin.List.listLengthHint (.ref r)) Q E s:=by
 unfold Builtin.List.listLengthHint;refine zq0 (wpAny_specialOf hT lg ?_);refine jp (fun hab=>absurd hab Jm) (fun _=>?_);refine jp (fun hab=>absurd hab Jm) (fun _=>?_);refine zq0 (wpAny_specialOf hT nL ?_);generalize hid:("list_reverseiterator.__length_hint__":String)=id0
 wp_delta
 rw [show splitId id0=some ("list_reverseiterator","__length_hint__") from by subst hid;decide +kernel];subst hid;refine zq0 (wpAny_isInstance (T:="list_reverseiterator") (b:=true) hT (by rw [isSubtype_type];kernel_rfl) ?_);refine jp (fun hab=>absurd hab Jm) (fun _=>?_);refine jp (fun _=>?_) (fun hab=>absurd Jk hab);refine jp (fun hab=>absurd hab Jk) (fun _=>?_);exact zq3 h
theorem lB(hh:A.handled=none)(it l:Addr)(hne:it≠l)(items:Array Value):Walks prog w A it [it,l] [it] items.size (fun i v=>items[items.size-1-i]?=some v) (fun i h=>i<=items.size/\IsRev h it l ((items.size:Int)-1-(i:Nat))/\h.IsList l items) where
 sub:=by intro b hb;rw [zq28.mp hb];simp
 frame:=fun i h h' st k=>zC st.1 (st.2.1.keep fun o e=>k it Jo o e) (let ⟨o,ho,r⟩:=st.2.2;(zA o (k l Jo o ho) r))
 item:=by
  intro i s Q E hi st hQ;obtain ⟨x,hx⟩:∃x,items[items.size-1-i]?=some x:=⟨_,oE Jn⟩
  have st0:IsRev s.heap it l ((items.size-1-i:Nat):Int):=by have:=st.2.1;rw [show ((items.size:Int)-1-(i:Nat))=((items.size-1-i:Nat):Int) by omega] at this;exact this
  refine dY st0 st.2.2 hx fun h' st' sb=>hQ x h' s.toks hx (zC hi ?_ ?_) (fun b o hb e=>(sb.2 b (fun z=>hb (by simp [z]))).trans e)
  ·rw [show ((items.size:Int)-1-((i+1:Nat):Int))=((items.size-1-i:Nat):Int)-1 by omega];exact st'
  ·obtain ⟨o,ho,r⟩:=st.2.2;exact zA o ((sb.2 l (Ne.symm hne)).trans ho) r
 done:=by
  intro s Q E st hQ;have st0:IsRev s.heap it l (-1):=by have:=st.2.1;rw [show ((items.size:Int)-1-((items.size:Nat):Int))=-1 by omega] at this;exact this
  exact eV hh st0 fun h' eb=>hQ h' s.toks (fun b o hb e=>eb b o (fun z=>hb (by simp [z])) e)
 self:=fun i s Q E st h=>eT st.2.1 h
theorem oZ{R:Result->Shared->Prop}{it l S:Addr}{items:Array Value}(hh:A.handled=none)(hit:IsRev s.heap it l ((items.size:Int)-1))(hL:s.heap.IsList l items)(hil:it≠l)(hSi:S≠it)(hSl:S≠l)(res:Value)(c₀:Nat)(hS:s.heap.get? S=some {cls:=.type "list",data:=.seq #[] c₀})
  (hR:∀h' tk acc' c',(∀b o,b≠S->b≠it->s.heap.get? b=some o->h'.get? b=some o)->h'.get? S=some {cls:=.type "list",dict:=none,data:=.seq acc' c',slots:=#[]}->ItemsOf (fun i v=>items[items.size-1-i]?=some v) acc' items.size->R (.ok (.ret res)) {s with heap:=h',toks:=tk}) (hn:items.size<=sizeLine) :
  wpAny (model prog w) A.in1 (Builtin.List.listExtendWith (.ref S) (.ref it) res)
   (fun fin s'=>match fin with | .done f=>R (.ok f) s' | .again c'=>c'.quiet=true/\codeAny (model prog w) A c' R s') (fun e s'=>R (.error e) s') s:=by
 have W:=lB (prog:=prog) (w:=w) (A:=A.in1) hh it l hil items;have hSf:S∉[it,l]:=by simp only [List.mem_cons,List.not_mem_nil,or_false,not_or];exact ⟨hSi,hSl⟩
 have st0:(0:Nat)<=items.size/\IsRev s.heap it l ((items.size:Int)-1-((0:Nat):Int))/\s.heap.IsList l items:=zC (ce _) (by rw [show ((items.size:Int)-1-((0:Nat):Int))=(items.size:Int)-1 by omega];exact hit) hL
 unfold Builtin.List.listExtendWith;refine zq0 (wpAny_typeOf (T:="list_reverseiterator") hit.typeIs ?_);have h1:Builtin.List.listSameRef (.ref S) (.ref it)=false:=by simp [Builtin.List.listSameRef,hSi]
 have n1:(Value.type "list_reverseiterator"==Value.type "list")=false:=by decide
 have n2:(Value.type "list_reverseiterator"==Value.type "tuple")=false:=by decide
 simp only [h1,n1,n2,Bool.or_false,Bool.false_eq_true,if_false];refine zq0 (eT hit ?_);refine zq0 (lL (my hit.typeIs ?_));refine jp (fun hab=>absurd hab Jk) (fun _=>zq3 ⟨plainId_quiet PySem.F.plain_extend_loop _,?_⟩);refine codeAny_extend_loopS W.toS hn S hSf res items.size 0 _ #[] c₀ rfl (ce _) st0 hS (ItemsOf.nil _) fun s' acc' c' hm hS' hacc=>?_;rw [Moved.eq_with hm];refine hR s'.heap s'.toks acc' c' (fun b o hb hb2 e=>hm.heap b o (fun hmem=>?_) e) hS' hacc;rcases zq8.mp hmem with e' | hmem
 ·exact hb e'
 ·exact hb2 (zq28.mp hmem)
theorem fu{it l:Addr}{items:Array Value}{Q:Value->Shared->Prop}(hh:A.handled=none)(hit:IsRev s.heap it l ((items.size:Int)-1))(hL:s.heap.IsList l items)(hil:it≠l)(hn:items.size<=sizeLine)
  (hQ:∀h' tk acc' c',(∀b o,b≠it->s.heap.get? b=some o->h'.get? b=some o)->h'.get? s.heap.objs.size=some {cls:=.type "list",dict:=none,data:=.seq acc' c',slots:=#[]}->ItemsOf (fun i v=>items[items.size-1-i]?=some v) acc' items.size->Q (.ref s.heap.objs.size) {s with heap:=h',toks:=tk}) :
  wpAny (model prog w) A (call (.type "list") [.ref it]) Q E s:=by
 refine callType_codes (Q₁:=fun obj s₁=>obj=.ref s.heap.objs.size/\s₁={s with heap:=s.heap.push {cls:=.type "list",data:=.seq #[]}}) PySem.F.called_list (PySem.F.typeCall_list_1 _) PySem.F.entry_list_init
  (code_list_new _ ⟨rfl,rfl⟩) fun obj s₁ h₁=>?_
 obtain ⟨rfl,rfl⟩:=h₁;have hS:(s.heap.push {cls:=.type "list",data:=.seq #[]}).get? s.heap.objs.size=some {cls:=.type "list",data:=.seq #[]}:=bV _ rfl;obtain ⟨oi,hoi,ri⟩:=id hit;obtain ⟨ol,hol,rl⟩:=id hL;have li:=zq5 hoi;have ll:=zq5 hol;refine zC (zA _ hS rfl) (PySem.F.args_list_init_2 _ _) ?_;show wpAny _ _ (do let old <- Builtin.List.listItems (.ref s.heap.objs.size);Builtin.List.listUpdate (.ref s.heap.objs.size) (fun _=>#[]);letGo old.toList.reverse;Builtin.List.listExtendWith (.ref s.heap.objs.size) (.ref it) .none) _ _ _;refine zq0 ?_;unfold Builtin.List.listItems;refine zq0 (wpAny_seqItems hS rfl (zq3 ?_));show wpAny _ _ (updateSeq s.heap.objs.size (fun _=>#[]) >>= fun _=>letGo (#[]:Array Value).toList.reverse >>= fun _=>Builtin.List.listExtendWith (.ref s.heap.objs.size) (.ref it) .none) _ _ _;refine zq0 (wpAny_updateSeq hS rfl ?_);have hS₂:=oC (Obj.mapSeq (fun _=>(#[]:Array Value))) hS rfl;have oth:∀b o,b≠s.heap.objs.size->(s.heap.push {cls:=.type "list",data:=.seq #[]}).get? b=some o->((s.heap.push {cls:=.type "list",data:=.seq #[]}).update s.heap.objs.size (Obj.mapSeq (fun _=>(#[]:Array Value)))).get? b=some o:=
  fun b o hb e=>(fk _ _ (Ne.symm hb)).trans e
 have ki:∀b o,s.heap.get? b=some o->((s.heap.push {cls:=.type "list",data:=.seq #[]}).update s.heap.objs.size (Obj.mapSeq (fun _=>(#[]:Array Value)))).get? b=some o:=fun b o e=>oth b o (bU (zq5 e)) (zq9 _ e);refine zq0 (wpAny_letGo ?_);refine oZ (A:=A.in1) hh (zA oi (ki _ _ hoi) ri) (zA ol (ki _ _ hol) rl) hil (lI li) (lI ll) .none _ hS₂ (fun h' tk acc' c' hk hS' hacc=>?_) hn;exact ⟨rfl,hQ h' tk acc' c' (fun b o hb e=>hk b o (bU (zq5 e)) hb (ki b o e)) hS' hacc⟩
end
end L2
namespace L2
theorem Paired.app{α β:Type}{F:α->β->Prop}:∀{l₁:List α} {l₂:List β} {m₁:List α} {m₂:List β},Paired F l₁ l₂->Paired F m₁ m₂->Paired F (l₁++m₁) (l₂++m₂)
 |_,_,_,_,.nil,h=>h
 |_,_,_,_,.cons h t,h2=>.cons h (Paired.app t h2)
theorem Paired.rev{α β:Type}{F:α->β->Prop}:∀{l₁:List α} {l₂:List β},Paired F l₁ l₂->Paired F l₁.reverse l₂.reverse
 |_,_,.nil=>.nil
 |_,_,.cons h t=>by rw [List.reverse_cons,List.reverse_cons];exact Paired.app (Paired.rev t) (.cons h .nil)
theorem kL{its:List Value}{acc:Array Value}(h:ItemsOf (fun i v=>its.toArray[its.toArray.size-1-i]?=some v) acc its.toArray.size):acc=its.reverse.toArray:=by
 obtain ⟨h1,h2⟩:=h;apply Array.ext_getElem?;intro j;have e1:its.toArray.size=its.length:=by simp
 rw [e1] at h1 h2
 by_cases hj:j<acc.size
 ·have z:=h2 j acc[j] (by simp [hj]);rw [oE hj,oF,List.getElem?_reverse Jn];have z2:its.toArray[its.length-1-j]?=some acc[j]:=z;rw [oF] at z2;exact z2.symm
 ·rw [rH Jn,oF,qK (by simp;omega)]
def f7(K:W.Frag)(ta:TA):TE:=fun σ H Q=>ta σ H fun vs H1=>∃a xs,vs=[.ref a]/\SqL K H1 a xs/\∀l,H1 l=none->Q (.ref l) (upd H1 l (.lst xs.reverse))
theorem j7{X:Cx}{a:Expr}{ta:TA}{p p2 pos pos2:Pos}(hc:X.calm=true)(hm:X.mg "list"=none) (hm2:X.mg "reversed"=none) (ha:PA X [a] ta) (hg:Gl X "list") (hg2:Gl X "reversed") (hs:starEach [a] X.env=[(false,eval a X.env)]:=by rfl)
  (hs2:starEach [.Call (.Name "reversed" p2) [a] [] pos2] X.env=[(false,eval (.Call (.Name "reversed" p2) [a] [] pos2) X.env)]:=by rfl) :
  PE X (.Call (.Name "list" p) [.Call (.Name "reversed" p2) [a] [] pos2] [] pos) (f7 X.K ta):=by
 intro pins s σ H Q I h;refine Call_ (cX I hg hm boot_list (PyProof.Rows.callWith_type1 ?_ hs2 rfl));rw [hs2];show wpAny _ _ (spliced ((false,eval (.Call (.Name "reversed" p2) [a] [] pos2) X.env)::[])) _ _ s;refine Calls.spliced_cons (Call_ (cX I hg2 hm2 boot_reversed (PyProof.Rows.callWith_type1 (thn (ha pos2 pins s σ H _ I h) fun us s1 hhx=>?_) hs rfl)));obtain ⟨vs,H1,I1,r1,q1⟩:=hhx;obtain ⟨l,xs,e,hq,q⟩:=q1;subst e
 cases r1 with
 |cons r rr=>
  cases rr
  cases r
  obtain ⟨its,rv,pl,hz⟩:=I1.list hq;have hlen:=rv.length;refine cU pl.isList fun h' hit hsz hk=>Calls.spliced_nil ?_;obtain ⟨o,ho,ro⟩:=pl.isList;have hlt:=zq5 ho;refine fu (I.ok.hd hc) hit (zA o (hk _ _ ho) ro) (lI hlt) (by simp;omega) fun h2 tk acc c' hk2 hS hacc=>?_;have eacc:=kL hacc;subst eacc;have kp:∀b u,s1.heap.get? b=some u->h2.get? b=some u:=fun b u e=>hk2 b u (bU (zq5 e)) (hk b u e);refine zB (.ref h'.objs.size) _ (I1.laid (t':=tk) kp (show s1.heap.objs.size<=h'.objs.size by omega) (show ObjOk X.prog X.w _ h2 _ (.lst xs.reverse) from ⟨by rw [uw];exact hz,zE its.reverse c' (Paired.rev rv) hS⟩)) rfl (q _ (I1.hok.fresh Jn))
theorem l7{K:W.Frag}{ta:TA}{σ:St}{H:Hp}{Q:VK}:f7 K ta σ H Q=ta σ H fun vs H1=>∃a xs,vs=[.ref a]/\SqL K H1 a xs/\∀l,H1 l=none->Q (.ref l) (upd H1 l (.lst xs.reverse)):=rfl
section
variable {X:Cx}
end
theorem jK:∀{kvs:List (Key×V)} {ws:List (Key×Value)},KV kvs ws->Vals (kvs.map (·.2)) (ws.map (·.2))
 |_,_,.nil=>.nil
 |_,_,.cons h t=>.cons h.2 (jK t)
end L2
namespace L2
end L2
namespace L2
variable {X:Cx} {apos p pos pos':Pos} {e iter o tg:Expr} {es:List Expr} {f:Addr} {i:Nat} {ps:List Str} {qual x:Str} {sp:Sp} {tA:TT} {ta te:TE} {wi:TI}
structure XE(X:Cx)(e:Expr)(t:TE):Prop where
 h:PE X e t
structure XT(X:Cx)(e:Expr)(t:TT):Prop where
 h:PT X e t
structure XW(X:Cx)(e:Expr)(t:TT):Prop where
 h:PW X e t
structure XA(X:Cx)(es:List Expr)(t:TA):Prop where
 h:PA X es t
structure XS(X:Cx)(st:Stmt)(t:TS):Prop where
 h:PS X st t
structure XSs(X:Cx)(st:List Stmt)(t:TS):Prop where
 h:PSs X st t
structure XG(X:Cx)(target:Expr)(t:TG):Prop where
 h:PG X target t
structure XI(X:Cx)(tg iter:Expr)(wi:TI):Prop where
 h:PI X tg iter wi
structure XO(X:Cx)(e:Option Expr)(t:TO):Prop where
 h:PO X e t
structure rO(X:Cx)(ifs:List Expr)(t:TT):Prop where
 h:oK X ifs t
theorem ae{i j pos}:XE X (.Constant (.int i) j pos) (tC (.int i)):=⟨n9⟩
theorem cI{j pos}:XE X (.Constant .none j pos) (tC .non):=⟨ng⟩
theorem aq{x j pos}:XE X (.Constant (.str x) j pos) (tC (.str x)):=⟨nh⟩
theorem ao{a b:Expr}{tb:TE}{op:Operator}{r:R2}(ho:OpR X (binaryOp op) r)(ha:XE X a ta)(hb:XE X b tb):XE X (.BinOp a op b pos) (tOp r ta tb):=⟨by intro pins s σ H Q I h;exact wpAny_BinOp (rP ha.h hb.h I h fun v u s2 x y H2 I2 rx ry q=>ho pins s2 σ H2 x y v u Q I2 rx ry q)⟩
theorem fh{a b:Expr}{tb:TE}{op:CmpOp}{r:R2}(ho:OpR X (compareOp op) r)(ha:XE X a ta)(hb:XE X b tb)(hm:behindInMarks op b=false):XE X (.Compare a [op] [b] pos) (tOp r ta tb):=⟨by intro pins s σ H Q I h;exact wpAny_Compare1 (rP ha.h hb.h I h fun v u s2 x y H2 I2 rx ry q=>ho pins s2 σ H2 x y v u Q I2 rx ry q) hm⟩
theorem bA{a b:Expr}{tb:TE}{c:Expr}(hc:XT X c tA)(ha:XE X a ta)(hb:XE X b tb):XE X (.IfExp c a b pos) (tIf tA ta tb):=⟨by
 intro pins s σ H Q I h;refine wpAny_IfExp (thn (hc.h pins s σ H _ I h) fun d s1 hhx=>?_);obtain ⟨H1,I1,q1⟩:=hhx
 cases d with
 |true=>exact ha.h pins s1 σ H1 Q I1 q1
 |false=>exact hb.h pins s1 σ H1 Q I1 q1⟩
theorem bj{t:TA}(h:XA X es t):XE X (.List es pos) (w6 t):=⟨by intro pins s σ H Q I hq;refine wpAny_List_spliced (thn (h.h pos pins s σ H _ I hq) fun us s1 ⟨xs,H1,I1,r,z,q⟩=>⟨by rw [<- r.length];exact z,?_⟩);have hf:H1 s1.heap.objs.size=none:=I1.hok.fresh (zq4 _);refine zB (.ref s1.heap.objs.size) (upd H1 s1.heap.objs.size (.lst xs)) (I1.laid (t':=s1.toks) (fun b u e=>zq9 _ e) (zq4 _) ?_) rfl (q _ hf);exact ⟨z,zE us 0 r (bV _ rfl)⟩⟩
theorem aL{t:TA}{x1}(h:XA X es t):XE X (.Tuple es x1 pos) (we t):=⟨by intro pins s σ H Q I hq;refine wpAny_Tuple_spliced (thn (h.h pos pins s σ H _ I hq) fun us s1 ⟨xs,H1,I1,r,z,q⟩=>⟨by rw [<- r.length];exact z,?_⟩);have hf:H1 s1.heap.objs.size=none:=I1.hok.fresh (zq4 _);refine zB (.ref s1.heap.objs.size) (upd H1 s1.heap.objs.size (.tup xs)) (I1.laid (t':=s1.toks) (fun b u e=>zq9 _ e) (zq4 _) ?_) rfl (q _ hf);exact ⟨z,zA us r (zD _ (bV _ rfl) rfl ⟨_,rfl⟩)⟩⟩
theorem g7:XE X (.Dict [] [] pos) nW:=⟨fun pins s σ H Q I h=>wpAny_Dict_empty (zB (.ref s.heap.objs.size) _ (I.laid (a:=s.heap.objs.size) (o:=.dK []) (t':=s.toks) (fun _ _ q=>zq9 _ q) (zq4 _) (gZ s.heap I.big)) rfl (h _ (I.hok.fresh (zq4 _))))⟩
theorem bI{e:Expr}{t:TA}{id:String}{r:List V->Hp->VK->Prop}(hc:cf X (.builtin id) r)(hg:Gl X x)(hm:X.mg x=none)(hv:bootBuiltins x=some (.builtin id))(ha:XA X (e::es) t)(hn:(x==("__name__":Str))=false:=by kernel_rfl) (hdb:(x==("__debug__":Str))=false:=by kernel_rfl) (he:starEach (e::es) X.env=(false,eval e X.env)::starEach es X.env:=by rfl) (hpl:(backTo pos (starEach es X.env)).any (·.1)=false:=by rfl):XE X (.Call (.Name x p) (e::es) [] pos) (tCB r t):=⟨mY hc hg hm hv ha.h (gD hn) hdb he hpl⟩
theorem bM{e:Expr}{t:TA}{T:String}{r:List V->Hp->VK->Prop}(hc:cf X (.type T) r)(hg:Gl X x)(hm:X.mg x=none)(hv:bootBuiltins x=some (.type T))(ha:XA X (e::es) t)(hn:(x==("__name__":Str))=false:=by kernel_rfl) (hdb:(x==("__debug__":Str))=false:=by kernel_rfl) (he:starEach (e::es) X.env=(false,eval e X.env)::starEach es X.env:=by rfl) (hpl:(backTo pos (starEach es X.env)).any (·.1)=false:=by rfl):XE X (.Call (.Name x p) (e::es) [] pos) (tCB r t):=⟨kY hc hg hm hv ha.h (gD hn) hdb he hpl⟩
theorem ay{k:Nat}{fd:FuncData}{st:Stmt}{e:Expr}{t:TA}(D:ba X.K X.mg x st ps f fd)(G:FnOk X.prog X.w X.K X.mg X.base CX0 k f fd ps sp)(hr:Room k X.A)(ha:XA X (e::es) t)(hg:Gl X x)(hdb:(x==("__debug__":Str))=false:=by kernel_rfl) (he:starEach (e::es) X.env=(false,eval e X.env)::starEach es X.env:=by rfl) (hpl:(backTo pos (starEach es X.env)).any (·.1)=false:=by rfl):XE X (.Call (.Name x p) (e::es) [] pos) (iC sp [] E0 t):=⟨nq D G hr ha.h hg hdb he hpl⟩
theorem gL{e:Expr}{to:TE}{t:TA}{name:Str}{cpos:Pos}{T id:String}{r:V->List V->Hp->VK->Prop}(pa:PlainAttrs T)(slot:Slot T name id)(hty:typeOf (.builtin id)=pure (.type "method_descriptor")) (hm:MtR X id r) (ho:XE X o to) (ha:XA X (e::es) t) (hbase:attributeBase o name X.env (eval o X.env)=eval o X.env:=by rfl) (hfew:((backTo cpos (starEach (e::es) X.env)).all (fun x=>! x.1)&&(backToKw cpos (keywordEach [] X.env)).all (fun x=>x.1.isSome)
 && decide ((e::es).length+([]:List Keyword).length+(if ([]:List Keyword).isEmpty then 0 else 1)<30))=true:=by rfl) (hline:(apos.endLine==cpos.line)=true:=by rfl) (hs:starEach (e::es) X.env=(false,eval e X.env)::starEach es X.env:=by rfl) (hplain:(backTo cpos (starEach es X.env)).any (·.1)=false:=by rfl):XE X (.Call (.Attribute o name apos) (e::es) [] cpos) (tBM X.K T r to t):=⟨uV pa slot hty hm ho.h ha.h hbase hfew hline hs hplain⟩
theorem ql{to:TE}{name:Str}{cpos:Pos}{T id:String}{r:V->List V->Hp->VK->Prop}(pa:PlainAttrs T)(slot:Slot T name id)(hty:typeOf (.builtin id)=pure (.type "method_descriptor")) (hm:MtR X id r) (ho:XE X o to) (hbase:attributeBase o name X.env (eval o X.env)=eval o X.env:=by rfl) (hline:(apos.endLine==cpos.line)=true:=by rfl):XE X (.Call (.Attribute o name apos) [] [] cpos) (vY X.K T r to):=⟨by intro pins s σ H Q I h;refine wpAny_Call_method0_late hbase hline (thn (ho.h pins s σ H _ I h) fun v s1 hhx=>?_);obtain ⟨x,H1,I1,r1,ty,q1⟩:=hhx;obtain ⟨h1,h2⟩:=jl I1 r1 ty;exact zY T id pa slot hty h1 h2 (Calls.callWith_builtin rfl (PySem.evalArgs_none (hm pins s1 σ H1 x [] v [] Q I1 r1 .nil q1)))⟩
theorem bH{lo hi:Option Expr}{tl th:TO}{p2:Pos}{r:V->Option Int->Option Int->Hp->VK->Prop}(hr:SlR X r)(he:XE X e te)(hl:XO X lo tl)(hu:XO X hi th):XE X (.Subscript e (.Slice lo hi none p2) pos) (tSl r te tl th):=⟨by intro pins s σ H Q I h;refine Subscript_ (thn (he.h pins s σ H _ I h) fun v s1 hhx=>?_);obtain ⟨x,H1,I1,r1,q1⟩:=hhx;refine wpAny_Slice (thn (hl.h pins s1 σ H1 _ I1 q1) fun vl s2 ⟨l,H2,I2,pl,q2⟩=>thn (hu.h pins s2 σ H2 _ I2 q2) fun vu s3 hhx=>?_);obtain ⟨u,H3,I3,pu,q3⟩:=hhx;rw [evalPart_none];refine zq3 ?_;have I4:Inv X pins σ H3 {s3 with heap:=s3.heap.push {cls:=.type "slice",data:=.fields #[vl,vu,.none]}}:=I3.kept (t':=s3.toks) fun b ob q=>zq9 _ q;obtain ⟨T,id,hT,ht,hg⟩:=hr pins {s3 with heap:=s3.heap.push {cls:=.type "slice",data:=.fields #[vl,vu,.none]}} σ H3 x v vl vu l u s3.heap.objs.size Q I4 r1 (Heap.IsSliceOf.new ..) pl pu q3;show wpAny (model X.prog X.w) X.A (subscriptTail e (.Slice lo hi none p2) v (.ref s3.heap.objs.size)) (EP X pins σ Q) X.xe {s3 with heap:=s3.heap.push {cls:=.type "slice",data:=.fields #[vl,vu,.none]}};exact tail_any (ops:=[.ref s3.heap.objs.size,v]) ht hT hg (by with_unfolding_all rfl)⟩
theorem dh{i:Expr}{td ty:TE}(hu:X.A.units+1<cLine)(ho:XE X o td)(hi:XE X i ty)(hs:rM i):XE X (.Subscript o i pos) (rm td ty):=⟨by intro pins s σ H Q I h;refine kf PySem.F.slot_dict_getitem.lookup hs (thn (ho.h pins s σ H _ I h) fun u s1 ⟨x,H1,I1,rx,q1⟩=>thn (hi.h pins s1 σ H1 _ I1 q1) fun iv s2 hhx=>?_);obtain ⟨y,H2,I2,ry,a,v,ex,g,q2⟩:=hhx;subst ex;obtain rfl:u=Value.ref a:=rx;exact ⟨gY I2 g,kA hu I2 g ry fun w' s3 I3 rw'=>zB v H2 I3 rw' q2⟩⟩
theorem av{a b:Expr}{tb:TE}{r:R2}(hr:IxR X r)(ha:XE X a ta)(hb:XE X b tb)(hs:oN b:=by intro _ _;rfl):XE X (.Subscript a b pos) (tOp r ta tb):=⟨by intro pins s σ H Q I h;exact Subscript_ (rP ha.h hb.h I h fun v u s2 x y H2 I2 rx ry q=>hr a b pins s2 σ H2 x y v u Q I2 rx ry q (hs _ _))⟩
theorem aI{f:Str}(he:XE X e ta)(hb:attributeBase e f X.env (eval e X.env)=eval e X.env):XE X (.Attribute e f pos) (vZ X.K ta f):=⟨by intro pins s σ H Q I h;refine oP hb (thn (he.h pins s σ H _ I h) fun u s1 hhx=>?_);obtain ⟨x,H1,I1,rx,a,C,dx,fs,v,ex,ea,c,n,l,q⟩:=hhx;subst ex;obtain rfl:u=Value.ref a:=rx;exact iV I1 ea c n l fun u' s2 I2 ru=>zB v H1 I2 ru q⟩
theorem cH{elt tgt:Expr}{ifs:List Expr}{scope:Scope}{g:Bk->TG}{tt:Bk->TT}{te:Bk->TE}{tns cns:List Str}{ci:List Nat}(hc:X.calm=true)(S:CompSc X scope cns ci)(hi:XI X tgt iter wi)(hg:∀bk:Bk,XG (X.blk (".0"::(tns++cns)) scope bk) tgt (g bk)) (ht:∀bk:Bk,rO (X.blk (".0"::(tns++cns)) scope bk) ifs (tt bk)) (he:∀bk:Bk,XE (X.blk (".0"::(tns++cns)) scope bk) elt (te bk)) (hs:∀v,foldedSetIterable iter X.env v=pure v:=by intro _;rfl):XE X (.ListComp elt [⟨tgt,iter,ifs,0⟩] scope pos) (jg wi g tt te tns.length ci):=⟨n6 hc S hi.h (fun bk=>(hg bk).h) (fun bk=>(ht bk).h) (fun bk=>(he bk).h) hs⟩
theorem ow{v:V}{u:Value}(hg:Gl X x)(hm:X.mg x=none)(hv:bootBuiltins x=some u)(r:RelV v u)(hn:(x==("__name__":Str))=false:=by kernel_rfl) (hd:(x==("__debug__":Str))=false:=by kernel_rfl):XE X (.Name x pos) (tC v):=⟨pF hg hm hv r (gD hn) hd⟩
theorem c4{v:V}{u:Value}(hg:Gl X x)(hm:X.mg x=some u)(r:RelV v u)(hd:(x==("__debug__":Str))=false:=by kernel_rfl):XE X (.Name x pos) (tC v):=⟨pH hg hm r hd⟩
theorem aw{a b:Expr}{tb:TE}{op:CmpOp}{r:R2}(ho:OpR X (compareOp op) r)(ha:XE X a ta)(hb:XE X b tb)(hm:behindInMarks op b=false):XT X (.Compare a [op] [b] pos) (rC (tOp r ta tb)):=⟨by
 intro pins s σ H Q I h;refine wpAny_isTrue_Compare1 (thn (ha.h pins s σ H _ I h) fun v s1 ⟨x,H1,I1,r1,q1⟩=>thn (hb.h pins s1 σ H1 _ I1 q1) fun u s2 ⟨y,H2,I2,r2,q2⟩=>thn (ho pins s2 σ H2 x y v u _ I2 r1 r2 q2) fun c s3 ⟨z,H3,I3,r3,k,e,q3⟩=>?_) hm
 subst e
 cases r3
 exact wpAny_truthy_bool (zA H3 I3 q3)⟩
theorem eA{t:TE}(h:XE X e t)(he:∀whole,isTrue e X.env whole=(do let v <- whole;standAt e.pos;holding [v] (truthy v)):=by intro _;rfl):XT X e (tB t):=⟨by
 intro pins s σ H Q I hw;refine isTrue_plain (thn (h.h pins s σ H _ I hw) fun v s1 hhx=>?_) (he _);obtain ⟨x,H1,I1,r1,q1⟩:=hhx;obtain ⟨d,rfl,q⟩:=q1
 cases r1
 exact wpAny_truthy_bool (zA H1 I1 q)⟩
theorem qo{a:Expr}(ha:XT X a tA):XT X (.UnaryOp .Not a pos) (w9 tA):=⟨by intro pins s σ H Q I h;exact isTrue_not (ha.h pins s σ H (fun c H1=>Q (! c) H1) I h)⟩
theorem uc{t:TT}(h:XW X e t):XT X e t:=⟨PW.pt h.h⟩
theorem ue{a b:Expr}{tB':TT}{d9:List Expr}(ha:XT X a tA)(hb:XW X (.BoolOp .Or (b::d9) pos) tB'):XW X (.BoolOp .Or (a::b::d9) pos) (tOr tA tB'):=⟨by
 intro wh pins s σ H Q I h;refine isTrue_or (thn (ha.h pins s σ H _ I h) fun c s1 hhx=>?_);obtain ⟨H1,I1,q1⟩:=hhx
 cases c with
 |true=>exact zA H1 I1 q1
 |false=>exact hb.h wh pins s1 σ H1 Q I1 q1⟩
theorem qp{a:Expr}(ha:XT X a tA):XW X (.BoolOp .Or [a] pos) tA:=⟨by
 intro wh pins s σ H Q I h;refine isTrue_or (thn (ha.h pins s σ H Q I h) fun c s1 e=>?_)
 cases c with
 |false=>exact isTrue_or_nil e
 |true=>exact e⟩
theorem ai:XA X [] lu:=⟨mX⟩
theorem aa{e:Expr}{t:TA}(ha:XE X e te)(hr:XA X es t)(hs:starEach (e::es) X.env=(false,eval e X.env)::starEach es X.env:=by rfl):XA X (e::es) (nU te t):=⟨jN ha.h hr.h hs⟩
theorem bZ:XO X none kg:=⟨by intro pins s σ H Q I h;rw [evalPart_none];exact zq3 (zB none H I .none h)⟩
theorem c3(h:XE X e te):XO X (some e) (rB te):=⟨by intro pins s σ H Q I hw;rw [evalPart_some];refine thn (h.h pins s σ H _ I hw) fun u s1 hhx=>?_;obtain ⟨x,H1,I1,r1,q1⟩:=hhx;obtain ⟨i,rfl,q⟩:=q1;obtain ⟨t,rfl⟩:=r1;exact zB (some i) H1 I1 (.int i t) q⟩
theorem bh(hN:X.N.Nodup)(hi:X.N[i]?=some x)(hx:Loc X.env.scope x)(hf:X.fn x=true\/X.env.scope.names.lookup x=some .local:=by first | exact .inl rfl | exact .inr rfl | assumption):XG X (.Name x pos) (bc i):=⟨jQ hN hi hx hf⟩
theorem bp{a:Expr}{ta:TA}(hg:Gl X "range") (hm:X.mg "range"=none) (ha:XA X [a] ta) (hs:starEach [a] X.env=[(false,eval a X.env)]:=by rfl):XI X tg (.Call (.Name "range" p) [a] [] pos) (qT ta):=⟨by
 intro pins s σ H R I h;refine Call_ (cX I hg hm boot_range (PyProof.Rows.callWith_type1 (thn (ha.h pos pins s σ H _ I h) fun us s1 hhx=>?_) hs rfl));obtain ⟨vs,H1,I1,r1,q1⟩:=hhx;obtain ⟨j,e,q1,q2,q⟩:=q1;subst e
 cases r1 with
 |cons r rr=>
  cases rr
  obtain ⟨t,rfl⟩:=r;exact call_range_1 (nK I1 Jn Jn q1 q2 (by simpa using q))⟩
theorem fi{l:Expr}{tl:TE}(hl:XE X l tl):XI X tg l (qS X.K tl):=⟨by
 intro pins s σ H R I h;refine thn (hl.h pins s σ H _ I h) fun v s1 hhx=>?_;obtain ⟨x,H1,I1,r1,q1⟩:=hhx;obtain ⟨a,e,⟨xs,hq⟩,q⟩:=q1;subst e
 cases r1
 obtain ⟨its,rv,p,hz⟩:=I1.list hq;refine wpAny_pyIter_list p.isList ?_;refine zK s1.heap.objs.size ([s1.heap.objs.size]) _ _ H1 (zI rfl (I1.kept (t':=s1.toks) fun b o e=>zq9 _ e) (lz a _) (zD _ (bV _ rfl) rfl rfl) (fun b hb=>?_) q);have e:b=s1.heap.objs.size:=by simpa using hb
 subst e;exact I1.fpOk (zq4 _) (I1.hok.fresh (zq4 _))⟩
theorem qm{l:Expr}{tl:TE}(hl:XE X l tl):XI X tg l (uO X.K tl):=⟨by
 intro pins s σ H R I h;refine thn (hl.h pins s σ H _ I h) fun v s1 hhx=>?_;obtain ⟨x,H1,I1,r1,q1⟩:=hhx;obtain ⟨a,e,⟨xs,hq⟩,q⟩:=q1;subst e
 cases r1
 obtain ⟨its,rv,p,hz⟩:=I1.tuple hq;refine wpAny_pyIter_tuple (show s1.heap.IsTuple a its.toArray from p) ?_;refine zK s1.heap.objs.size ([s1.heap.objs.size]) _ _ H1 (zI rfl (I1.kept (t':=s1.toks) fun b o e=>zq9 _ e) (jk a _) (zD _ (bV _ rfl) rfl rfl) (fun b hb=>?_) q);have e:b=s1.heap.objs.size:=by simpa using hb
 subst e;exact I1.fpOk (zq4 _) (I1.hok.fresh (zq4 _))⟩
theorem au(hN:X.N.Nodup)(hi:X.N[i]?=some x)(hx:Loc X.env.scope x)(he:XE X e te)(hs:swapsWith e (some (.Name x pos')) pos.line X.env=pure false:=by rfl)(hf:X.fn x=true\/X.env.scope.names.lookup x=some .local:=by first | exact .inl rfl | exact .inr rfl | assumption):XS X (.Assign [.Name x pos'] e pos) (tU te (bc i)):=⟨sP hN hi hx he.h hs hf⟩
theorem dQ{px:Pos}{elt tgt:Expr}{ifs:List Expr}{scope:Scope}{g:Bk->TG}{tt:Bk->TT}{te:Bk->TE}{tns cns:List Str}{ci:List Nat}(hN:X.N.Nodup)(hx:X.N[i]?=some x)(hl:Loc X.env.scope x)(hf:X.fn x=true)(hsw:swapsWith (.ListComp elt [⟨tgt,iter,ifs,0⟩] scope pos) (some (.Name x px)) pos'.line X.env=pure true)(hc:X.calm=true)(S:CompSc X scope cns ci)(hi:XI X tgt iter wi)(hg:∀bk:Bk,XG (X.blk (".0"::(tns++cns)) scope bk) tgt (g bk)) (ht:∀bk:Bk,rO (X.blk (".0"::(tns++cns)) scope bk) ifs (tt bk)) (he:∀bk:Bk,XE (X.blk (".0"::(tns++cns)) scope bk) elt (te bk)) (hs:∀v,foldedSetIterable iter X.env v=pure v:=by intro _;rfl):XS X (.Assign [.Name x px] (.ListComp elt [⟨tgt,iter,ifs,0⟩] scope pos) pos') (eY i wi g tt te tns.length ci):=⟨jb hN hx hl hf hsw hc S hi.h (fun bk=>(hg bk).h) (fun bk=>(ht bk).h) (fun bk=>(he bk).h) hs⟩
theorem bS{value:Expr}{f:Str}{tv:TE}(ha:XE X o ta)(hv:XE X value tv)(hs:swapsWith value (some (.Attribute o f pos')) pos.line X.env=pure false):XS X (.Assign [.Attribute o f pos'] value pos) (vB X.K ta tv f):=⟨by intro pins s σ H D I h;refine plainObj_wpAny_Assign_Attribute (thn (hv.h pins s σ H _ I h) fun u s1 ⟨y,H1,I1,ry,q⟩=>thn (ha.h pins s1 σ H1 _ I1 q) fun ov s2 hhx=>?_) hs;obtain ⟨x,H2,I2,rx,a,C,dx,fs,ex,ea,c,n,l,q2⟩:=hhx;subst ex;obtain rfl:ov=Value.ref a:=rx;exact jf I2 ea c n l ry fun s3 I3=>zE σ _ I3 q2⟩
theorem iI{i value:Expr}{td ty tv:TE}(hu:X.A.units+1<cLine)(ho:XE X o td)(hi:XE X i ty)(hv:XE X value tv)(hs:swapsWith value (some (.Subscript o i pos')) pos.line X.env=pure false):XS X (.Assign [.Subscript o i pos'] value pos) (nP td ty tv):=⟨pK hu ho.h hi.h hv.h hs⟩
theorem ax(he:XE X e te):XS X (.Return (some e) pos) (wc te):=⟨by intro pins s σ H D I h;exact wpAny_Return_some (thn (he.h pins s σ H _ I h) fun v s1 ⟨x,H1,I1,r1,q1⟩=>zV x σ H1 I1 r1 q1)⟩
theorem bw(he:XE X e te)(hs:swapsWith e none pos.line X.env=pure false:=by rfl):XS X (.Expr e pos) (rq te):=⟨by intro pins s σ H D I h;exact wpAny_Expr_any (thn (he.h pins s σ H _ I h) fun v s1 ⟨x,H1,I1,r1,q1⟩=>zE σ H1 I1 q1) I.quiet hs⟩
theorem aO{t u:TS}{c:Expr}{a b:List Stmt}{tc:TT}(hc:XT X c tc)(ha:XSs X a t)(hb:XSs X b u):XS X (.If c a b pos) (w5 tc t u):=⟨by
 intro pins s σ H D I h;refine wpAny_If (thn (hc.h pins s σ H _ I h) fun d s1 hhx=>?_);obtain ⟨H1,I1,q1⟩:=hhx
 cases d with
 |true=>exact ha.h pins s1 σ H1 D I1 q1
 |false=>exact hb.h pins s1 σ H1 D I1 q1⟩
theorem di{body:List Stmt}{g:TG}{tb:TS}(hp:PassesOwn (model X.prog X.w) X.A X.env X.xe)(hc:X.calm=true)(hi:XI X tg iter wi)(hg:XG X tg g)(hb:XSs X body tb)(hs:∀x,foldedSetIterable iter X.env x=pure x:=by intro _;rfl):XS X (.For tg iter body [] pos) (tV wi g tb):=⟨sO hp hc hi.h hg.h hb.h hs⟩
theorem aC:XSs X [] rA:=⟨fun _ _ σ H _ I h=>wpAny_execs_nil (zE σ H I h)⟩
theorem ak{st:Stmt}{t:TS}(h1:XS X st t):XSs X [st] t:=⟨by
 intro pins s σ H D I h;refine wpAny_execs_cons (thn (h1.h pins s σ H D I h) fun f s1 q=>?_)
 cases f with
 |next=>exact wpAny_execs_nil q
 |ret v=>exact q
 |brk=>exact q
 |cont=>exact q⟩
theorem af{st:Stmt}{d9:List Stmt}{t u:TS}(h1:XS X st t)(h2:XSs X d9 u):XSs X (st::d9) (tX t u):=⟨by
 intro pins s σ H D I h;refine wpAny_execs_cons (thn (h1.h pins s σ H {D with nx:=u D} I h) fun f s1 q=>?_)
 cases f with
 |next=>
  obtain ⟨σ',H',I',q⟩:=q;exact h2.h pins s1 σ' H' D I' q
 |ret v=>exact q
 |brk=>exact q
 |cont=>exact q⟩
theorem ou{st:Stmt}{ss:List Stmt}{ta tb:TS}(h1:XS X st ta)(h2:XSs X ss tb):XSs X (st::ss) (tW ta tb):=⟨by
 intro pins s σ H D I h;obtain ⟨Mid,a,b⟩:=h;refine wpAny_execs_cons (thn (h1.h pins s σ H {D with nx:=Mid} I a) fun f s1 q=>?_)
 cases f with
 |next=>
  obtain ⟨σ',H',I',q⟩:=q;exact h2.h pins s1 σ' H' D I' (b σ' H' q)
 |ret v=>exact q
 |brk=>exact q
 |cont=>exact q⟩
theorem cJ:rO X [] qg:=⟨fun pins s σ H Q I h=>wpAny_tests_nil (zA H I h)⟩
theorem wj{CX:CXT}{k:Nat}{C:Addr}{fd:FuncData}{dvs:List V}{ds:List Value}{E:XK}{m:Str}{e:Expr}{t:TA}{pl:Sem Bool}(he:XE X o ta)(c:Cls X.K C)(hm:ko X.K C m f)(F:FnOk X.prog X.w X.K X.mg X.base CX k f fd ps sp)(hr:Room k X.A)(hb:Binds X.K fd ps ds)(hd:Vals dvs ds)(hx:cn CX X E)(ha:XA X (e::es) t)(hst:starEach (e::es) X.env=(false,eval e X.env)::starEach es X.env:=by rfl)(hpl:(backTo pos (starEach es X.env)).any (·.1)=false:=by rfl)(ht:eval (.Call (.Attribute o m apos) (e::es) [] pos) X.env=(do
 let ov <- eval o X.env
 standAt apos.atName
 let (f,first) <- holding [ov] (getMethod ov m pl)
 callWith pos f first (backTo pos (starEach (e::es) X.env)) (backToKw pos (keywordEach [] X.env))):=by rfl):XE X (.Call (.Attribute o m apos) (e::es) [] pos) (dg C m sp dvs E ta t):=⟨jP he.h c hm F hr hb hd hx ha.h hst hpl ht⟩
theorem om{keys:List (Option Expr)}{values:List Expr}{trs:List (TE×TE)}(h:PPs X pos keys values trs)(hall:keys.all (·.isSome)=true)(hl:keys.length=values.length)(h0:keys≠[])(h15:keys.length<=15):XE X (.Dict keys values pos) (rp trs):=⟨by
 intro pins s σ H Q I q;have hn:=I.hok.fresh (zq4 s.heap.objs.size);have I1:=I.laid (a:=s.heap.objs.size) (o:=.dK []) (h':=s.heap.push {cls:=.type "dict",data:=.dict #[]}) (t':=s.toks) (fun _ _ q=>zq9 _ q) (zq4 _) (gZ s.heap I.big);refine wpAny_Dict_walk (knd:=aV X.prog X.w) hall hl h0 h15 (thn (h pins _ σ _ _ I1 (q _ hn)) fun ws s2 hhx=>?_);obtain ⟨ps,H2,I2,rel,e,kvs,ep,lk,q2⟩:=hhx;subst ep;obtain ⟨rs,c,rk⟩:=eC (P:=X.prog) (w:=X.w) rel;obtain ⟨z,hd,vs0,r0,dd⟩:=me I2.hok e
 cases r0
 refine zD rs c dd fun h' dd' hs=>zB (.ref s.heap.objs.size) _ ?_ rfl q2;have hz:(cw [] kvs).length<=sizeLine:=by have h1:=cR kvs [];rw [ut] at h1;rw [bP];omega
 have he:∃q,h'.get? s.heap.objs.size=some q:=let ⟨q,_,_,hq,_⟩:=dd';⟨q,hq⟩;exact ef I2 (by rw [e];exact True.intro) hs he (md hz hd (rk.merge .nil) dd')⟩
theorem g8{k:Nat}{C:Addr}{fd:FuncData}{st:Stmt}{e:Expr}{t:TA}(c:KlsAt X.K X.mg x C)(D:bo X.K C "__init__" qual st ps f fd) (G:FnOk X.prog X.w X.K X.mg X.base CX0 k f fd ps sp) (hr:Room (k+1) X.A) (ha:XA X (e::es) t) (hg:Gl X x) (hdb:(x==("__debug__":Str))=false:=by kernel_rfl) (he:starEach (e::es) X.env=(false,eval e X.env)::starEach es X.env:=by rfl) (hpl:(backTo pos (starEach es X.env)).any (·.1)=false:=by rfl):XE X (.Call (.Name x p) (e::es) [] pos) (iD C sp [] E0 t):=⟨nu c D G hr ha.h hg hdb he hpl⟩
theorem cK{k:Nat}{C:Addr}{fd:FuncData}{m:Str}{st:Stmt}{e:Expr}{t:TA}{pl:Sem Bool}(c:Cls X.K C)(D:bo X.K C m qual st ps f fd)(G:FnOk X.prog X.w X.K X.mg X.base CX0 k f fd ps sp)(hr:Room k X.A)(he:XE X o ta)(ha:XA X (e::es) t)(hst:starEach (e::es) X.env=(false,eval e X.env)::starEach es X.env:=by rfl)(hpl:(backTo pos (starEach es X.env)).any (·.1)=false:=by rfl)(ht:eval (.Call (.Attribute o m apos) (e::es) [] pos) X.env=(do
 let ov <- eval o X.env
 standAt apos.atName
 let (f,first) <- holding [ov] (getMethod ov m pl)
 callWith pos f first (backTo pos (starEach (e::es) X.env)) (backToKw pos (keywordEach [] X.env))):=by rfl):XE X (.Call (.Attribute o m apos) (e::es) [] pos) (dg C m sp [] E0 ta t):=⟨nv c D G hr he.h ha.h hst hpl ht⟩
theorem fj{k:Nat}{C:Addr}{fd:FuncData}{m:Str}{st:Stmt}{pl:Sem Bool}(c:Cls X.K C)(D:bo X.K C m qual st ps f fd)(G:FnOk X.prog X.w X.K X.mg X.base CX0 k f fd ps sp)(hr:Room k X.A)(he:XE X o ta)(ht:eval (.Call (.Attribute o m apos) [] [] pos) X.env=(do
 let ov <- eval o X.env
 standAt apos.atName
 let (f,first) <- holding [ov] (getMethod ov m pl)
 callWith pos f first (backTo pos (starEach [] X.env)) (backToKw pos (keywordEach [] X.env))):=by rfl):XE X (.Call (.Attribute o m apos) [] [] pos) (dg C m sp [] E0 ta lu):=⟨l6 c D G hr he.h ht⟩
theorem lC{vs:List V}(h:ee es=some vs):XA X es (tVs vs):=⟨ie h⟩
end L2
namespace L2
theorem dP  {X:Cx} {a:Expr} {ta:TA} {p p2 pos pos2:Pos} (hc:X.calm=true) (hm:X.mg "list"=none) (hm2:X.mg "reversed"=none) (ha:XA X [a] ta) (hg:Gl X "list") (hg2:Gl X "reversed") (hs:starEach [a] X.env=[(false,eval a X.env)]:=by rfl) (hs2:starEach [.Call (.Name "reversed" p2) [a] [] pos2] X.env=[(false,eval (.Call (.Name "reversed" p2) [a] [] pos2) X.env)]:=by rfl):XE X (.Call (.Name "list" p) [.Call (.Name "reversed" p2) [a] [] pos2] [] pos) (f7 X.K ta):=⟨j7 hc hm hm2 ha.h hg hg2 hs hs2⟩
end L2
namespace L2
section
variable {X:Cx}
end
section
variable {X:Cx} {e:Expr} {x:Str} {p apos cpos:Pos} {ty:TE} {a:Addr} {kvs:List (Key×V)} {pr:Params}
end
end L2
namespace L2
section
variable {prog:Program} {w:World} {A:Around} {E:Value->Shared->Prop} {s:Shared}
open AutoSeq1 (wpAny_loadPart') in
end
section
variable {K:W.Frag} {a:Addr} {xs:List V}
end
section
variable {K:W.Frag} {a b:Addr} {H:Hp} {Q:VK}
end
end L2
namespace L2
variable {a0 a1 a2 a3 a4 a5 a6 a7:Option V} {r:St}
def qf:Nat->St->Option V
 |0,o::_=>o
 |n+1,_::r=>qf n r
 |_,[]=>none
theorem iA:∀{n:Nat} {σ:St} {v:V},qf n σ=some v->σ[n]?=some (some v)
 |0,o::_,v,h=>by rw [show qf 0 (o::_)=o from rfl] at h;rw [h];rfl
 |n+1,_::r,v,h=>by rw [rG];exact iA h
 |0,[],_,h=>by cases h
 |_+1,[],_,h=>by cases h
def dk(i:Nat):TE:=fun σ H Q=>match qf i σ with
 |some v=>Q v H
 |none=>False
theorem qq{i:Nat}{σ:St}{H:Hp}{Q:VK}(h:dk i σ H Q):tZ i σ H Q:=by
 unfold dk at h
 split at h
 ·next v e=>exact zA v (iA e) h
 ·exact h.elim
theorem yqv{X:Cx}(i:Nat){x:Str}{pos:Pos}(hv:Vis X.env.scope x)(hN:X.N[i]?=some x:=by rfl)(hd:(x==("__debug__":Str))=false:=by kernel_rfl) (hcd:(x==("__classdict__":Str))=false:=by kernel_rfl):XE X (.Name x pos) (dk i):=
 ⟨fun pins s σ H Q I h=>qv i hv hN hd hcd pins s σ H Q I (qq h)⟩
def yI0(g:Int->Int->V):R2:=fun x y H Q=>match x,y with
 | .int i,.int j=>Q (g i j) H
 |_,_=>False
def yI(C:Int->Int->Prop)(g:Int->Int->V):R2:=fun x y H Q=>match x,y with
 | .int i,.int j=>C i j/\Q (g i j) H
 |_,_=>False
theorem cB{g:Int->Int->V}{x y:V}{H:Hp}{Q:VK}(h:yI0 g x y H Q):rI0 g x y H Q:=by
 unfold yI0 at h
 split at h
 ·exact zB _ _ rfl rfl h
 ·exact h.elim
theorem g9{C:Int->Int->Prop}{g:Int->Int->V}{x y:V}{H:Hp}{Q:VK}(h:yI C g x y H Q):rI C g x y H Q:=by
 unfold yI at h
 split at h
 ·exact zB _ _ rfl rfl h
 ·exact h.elim
section
variable {X:Cx}
theorem OpR.le{f:Value->Value->Sem Value}{r r':R2}(h:OpR X f r)(le:∀{x y:V} {H:Hp} {Q:VK},r' x y H Q->r x y H Q):OpR X f r':=fun pins s σ H x y v u Q I rx ry q=>h pins s σ H x y v u Q I rx ry (le q)
theorem b8:OpR X (binaryOp .Add) (yI0 fun i j=>.int (i+j)):=OpR.le sr cB
theorem eB:OpR X (binaryOp .Sub) (yI0 fun i j=>.int (i-j)):=OpR.le sJ cB
theorem bB:OpR X (binaryOp .Mult) (yI CMul fun i j=>.int (i * j)):=OpR.le sF g9
theorem aX:OpR X (binaryOp .Mod) (yI (fun _ j=>0<j) fun i j=>.int (i % j)):=OpR.le sE g9
theorem km:OpR X (binaryOp .Pow) (yI lO fun i j=>.int (i ^ j.toNat)):=OpR.le sG g9
theorem kn:OpR X (binaryOp .LShift) (yI lO fun i j=>.int (i * 2 ^ j.toNat)):=OpR.le sI g9
theorem qr:OpR X (binaryOp .BitAnd) (yI0 fun i j=>.int (Builtin.bitAnd i j)):=OpR.le su cB
theorem uh:OpR X (binaryOp .BitOr) (yI0 fun i j=>.int (Builtin.bitOr i j)):=OpR.le uT cB
theorem qt:OpR X (binaryOp .BitXor) (yI0 fun i j=>.int (Builtin.bitXor i j)):=OpR.le sL cB
theorem ug:OpR X (compareOp .Lt) (yI0 fun i j=>.bl (decide (i<j))):=OpR.le uS cB
theorem oy:OpR X (compareOp .Gt) (yI0 fun i j=>.bl (decide (j<i))):=OpR.le uR cB
theorem uf:OpR X (compareOp .GtE) (yI0 fun i j=>.bl (decide (j<=i))):=OpR.le uQ cB
theorem bJ:OpR X (binaryOp .FloorDiv) (yI CDivB fun i j=>.int (i / j)):=OpR.le mU g9
theorem oz:OpR X (binaryOp .Mult) (yI IntMulOk fun i j=>.int (i * j)):=OpR.le pD g9
end
section
variable {H:Hp} {Q:VK}
theorem xc{v:V}:dk 0 (some v::r) H Q=Q v H:=rfl
theorem xf{v:V}:dk 1 (a0::some v::r) H Q=Q v H:=rfl
theorem xg{v:V}:dk 2 (a0::a1::some v::r) H Q=Q v H:=rfl
theorem xh{v:V}:dk 3 (a0::a1::a2::some v::r) H Q=Q v H:=rfl
theorem xi{v:V}:dk 4 (a0::a1::a2::a3::some v::r) H Q=Q v H:=rfl
theorem xj{v:V}:dk 5 (a0::a1::a2::a3::a4::some v::r) H Q=Q v H:=rfl
theorem xk{v:V}:dk 6 (a0::a1::a2::a3::a4::a5::some v::r) H Q=Q v H:=rfl
theorem xl{v:V}:dk 7 (a0::a1::a2::a3::a4::a5::a6::some v::r) H Q=Q v H:=rfl
theorem xm{v:V}:dk 8 (a0::a1::a2::a3::a4::a5::a6::a7::some v::r) H Q=Q v H:=rfl
theorem xn{v:V}{a8:Option V}:dk 9 (a0::a1::a2::a3::a4::a5::a6::a7::a8::some v::r) H Q=Q v H:=rfl
theorem wk{v:V}{a8:Option V}{a9:Option V}:dk 10 (a0::a1::a2::a3::a4::a5::a6::a7::a8::a9::some v::r) H Q=Q v H:=rfl
theorem xb{g:Int->Int->V}{i j:Int}:yI0 g (.int i) (.int j) H Q=Q (g i j) H:=rfl
theorem y_I{C:Int->Int->Prop}{g:Int->Int->V}{i j:Int}:yI C g (.int i) (.int j) H Q=(C i j/\Q (g i j) H):=rfl
end
end L2
end
set_option maxHeartbeats 4000000
namespace FA
open PySem L2 PyProof.Rows
def d8(c k:Int):Int:=
 if 10 ^ Int.toNat 40<=c then (c-10 ^ Int.toNat 40) / (1 * 2 ^ (100 * (k % 60)).toNat) % (1 * 2 ^ Int.toNat 100)
 else ((c * c+3 * c+7919 * k+1) * 48271 % 2147483629 * ((c * c+3 * c+7919 * k+1) * 48271 % 2147483629)+7) % 2147483587
theorem i7(c k:Int):0<=d8 c k:=by
 unfold d8
 split
 ·exact dD _ Jm
 ·exact dD _ Jm
theorem CDivB.pow{i:Int}{n:Nat}(h:n<9000):CDivB i (1 * 2 ^ n):=by rw [Int.one_mul];refine ⟨qL Jm,?_⟩;rw [Int.natAbs_pow];show (2 ^ n).log2<9000;rw [Nat.log2_two_pow];exact h
def ltr(z:Int):Nat:=97+(z % 26).toNat
def kR(m pl k:Int)(j:Nat):Int:=m / 36+j * j+(if decide ((j:Int)=pl)=true then 1 else 0) * k
def nm(m pl k:Int):Nat->Str
 |0=>""
 |j+1=>nm m pl k j++⟨#[ltr (kR m pl k j)]⟩
theorem mG(m pl k:Int):∀j,(nm m pl k j).length=j
 |0=>by show ("":Str).length=0;decide +kernel
 |j+1=>by rw [nm,strLen_append,mG m pl k j];rfl
def nms(m:Int)(n:Nat):List Str:=(List.range n).map fun (k:Nat)=>nm m (m / 6 % (1+m % 6)) k (1+m % 6).toNat
theorem mI(m:Int)(n:Nat):nms m (n+1)=nms m n++[nm m (m / 6 % (1+m % 6)) n (1+m % 6).toNat]:=by unfold nms;rw [oG,fm,List.map_singleton]
def wu:List Str:=["tell","end","if","in","box","while","else","plus"]
def eM(c:Int):List Str:=if d8 c 3 / 1000 % 5=1 then wu else nms (d8 c 3) 8
theorem uP:∀n:Nat,n<26->atI ("abcdefghijklmnopqrstuvwxyz":Str).cps.toList (n:Int)=some (97+n):=by decide +kernel
theorem sh(z:Int):atI ("abcdefghijklmnopqrstuvwxyz":Str).cps.toList (z % 26)=some (ltr z):=by have h0:0<=z % 26:=dD _ Jm;have h1:z % 26<26:=gN _ Jm;unfold ltr;obtain ⟨n,hn⟩:=iK h0;rw [hn];exact uP n Jn
end FA
namespace L2
open PySem PyProof.Rows
variable {H:Hp}
theorem kJ{A:Around}{k n:Nat}(h:n<=64)(hr:Room k A):A.units+n<cLine:=jo (qD h _) hr.units
theorem gp{xs:List V}{k:Int}(h:0<=k):cj xs none (some k)=xs.take k.toNat:=by
 obtain ⟨n,rfl⟩:=iK h;unfold cj;rw [HT.io,HT.jW,List.drop_zero,gM,Nat.sub_zero]
 by_cases hn:n<=xs.length
 ·rw [Nat.min_eq_left hn]
 ·rw [Nat.min_eq_right Jn,lN,qH Jn]
theorem kz{xs:List V}{k:Int}(h:0<=k):cj xs (some k) none=xs.drop k.toNat:=by
 obtain ⟨n,rfl⟩:=iK h;unfold cj;rw [HT.io,HT.jW,gM]
 by_cases hn:n<=xs.length
 ·rw [Nat.min_eq_left hn,qH Jo]
 ·rw [Nat.min_eq_right Jn,rJ (zq4 _),rJ Jn];simp
section
variable {K:W.Frag} {te:TE} {ci:List Nat} {σ:St} {acc:Addr} {Q:Hp->Prop} {H1:Hp} {a:Addr} {xs:List V}
theorem eK{α:Type}(xs:List α):xs.filter (fun _=>true)=xs:=by simp
theorem oV(f:V->V)(hz:xs.length<=sizeLine)(hl:SqT K H1 a xs)(hacc:H1 acc=none)(hf:∀x∈xs,∀H Q',Same H1 H->Q' (f x) H->te (aJ [some x] ci σ) H Q')
  (q:Q (upd H1 acc (.lst (xs.map f)))):bt (Itt K a) (bc 1) qg te 1 ci σ acc Q (upd H1 acc (.lst [])):=
 m3 (fun _=>true) f hz hl hacc (fun _ _ _ _ _ h=>h) (fun x hm H Q' s _ h=>hf x hm H Q' s h) (by rw [eK];exact q)
theorem jx{n:Nat}(f:Nat->V)(hz:n<=sizeLine)(hacc:H1 acc=none)(hf:∀i:Nat,i<n->∀H Q',Same H1 H->Q' (f i) H->te (aJ [some (.int (i:Int))] ci σ) H Q')
 (q:Q (upd H1 acc (.lst ((List.range n).map f)))):bt (Itr 0 n) (bc 1) qg te 1 ci σ acc Q (upd H1 acc (.lst [])):=by
 refine lZ (fun _=>true) (fun i=>f i.toNat) hz hacc (fun _ _ _ _ _ h=>h) (fun i hi H Q' s _ h=>?_) ?_
 ·rw [qE] at h ⊢;rw [gM] at h;exact hf i hi H Q' s h
 ·rw [eK];have e:(fun i:Nat=>f (0+(i:Int)).toNat)=f:=by funext i;rw [qE,gM]
  rw [e];exact q
end
structure TSame(H H':Hp):Prop where
 tup:∀b xs,H b=some (.tup xs)->H' b=some (.tup xs)
 frz:∀b o u,H b=some (.frz o u)->H' b=some (.frz o u)
theorem Same.ts{H':Hp}(s:Same H H'):TSame H H':=⟨fun b xs e=>s b _ e,fun b o u e=>s b _ e⟩
theorem TSame.trans{H1 H2:Hp}(a:TSame H H1)(b:TSame H1 H2):TSame H H2:=⟨fun c xs e=>b.tup c xs (a.tup c xs e),fun c o u e=>b.frz c o u (a.frz c o u e)⟩
theorem TSame.updL{p:Addr}{ys:List V}{o:HO}(h:H p=some (.lst ys)):TSame H (upd H p o):=
 ⟨fun b xs e=>by rw [aj (b9 e h (by intro z;cases z))];exact e,fun b o u e=>by rw [aj (b9 e h (by intro z;cases z))];exact e⟩
theorem TSame.seqT{K:W.Frag}{H':Hp}{a:Addr}{xs:List V}(e:TSame H H')(h:SqT K H a xs):SqT K H' a xs:=by
 rcases h with (h | ⟨o,h⟩) | h
 ·exact .inl (.inl (e.tup _ _ h))
 ·exact .inl (.inr ⟨o,e.frz _ _ _ h⟩)
 ·exact .inr h
end L2
namespace FA
open PySem L2
end FA
namespace FL
open PySem L2 PyProof.Rows
def nJ(n:Nat):List Int:=(List.range n).map fun i:Nat=>(i:Int)
def jq(b:List Int):Prop:=b≠[]/\b.Pairwise (·<=·)
instance (b:List Int):Decidable (jq b):=by unfold jq;infer_instance
structure oM(n:Nat)(bss:List (List Int)):Prop where
 good:∀b∈bss,jq b
 perm:bss.flatten.Perm (nJ n)
instance (n:Nat) (bss:List (List Int)):Decidable (oM n bss):=decidable_of_iff ((∀b∈bss,jq b)/\bss.flatten.Perm (nJ n)) ⟨fun ⟨a,b⟩=>⟨a,b⟩,fun h=>⟨h.good,h.perm⟩⟩
theorem Paired.mono{α β:Type}{F G:α->β->Prop}(hi:∀a b,F a b->G a b):∀{l₁:List α} {l₂:List β},Paired F l₁ l₂->Paired G l₁ l₂
 |_,_,.nil=>.nil
 |_,_,.cons h t=>.cons (hi _ _ h) (Paired.mono hi t)
end FL
namespace FL
open PySem L2 PyProof.Rows
theorem Paired.snoc{α β:Type}{F:α->β->Prop}{a:α}{b:β}(hf:F a b):∀{l₁:List α} {l₂:List β},Paired F l₁ l₂->Paired F (l₁++[a]) (l₂++[b])
 |_,_,.nil=>.cons hf .nil
 |_,_,.cons h t=>.cons h (Paired.snoc hf t)
section
variable {K:W.Frag} {te:TE} {ci:List Nat} {σ:L2.St} {acc:Addr} {Q:Hp->Prop} {H1:Hp}
end
section
variable {K:W.Frag} {H:Hp}
theorem iB{m:Nat}:∀{ns:List Int},(∀z∈ns,Builtin.Int.intBits z<=m)->Builtin.Int.intBits ns.sum<=m+ns.length
 | [],_=>by
  have:Builtin.Int.intBits ([]:List Int).sum=0:=rfl;omega
 |x::ns,h=>by have h1:=h x (cC ..);have h2:=iB (ns:=ns) fun z hz=>h z (bz _ hz);have h3:=intBits_add_le h1 h2;rw [List.sum_cons,bW];have:max m (m+ns.length)=m+ns.length:=Nat.max_eq_right Jn;omega
end
end FL
namespace L2
open PySem PySem.Spec PyProof.Rows
section
variable {K:W.Frag} {tt:TT} {te:TE} {ci:List Nat} {σ:St} {acc:Addr} {Q:Hp->Prop} {H1:Hp} {a:Addr} {xs:List V}
end
end L2
namespace FD
open PySem L2 PyProof.Rows
end FD
namespace L2
open PySem PyProof.Rows
end L2
namespace FG
open PySem L2 PyProof.Rows
structure IntD(kvs:List (Key×V)):Prop where
 nd:(kvs.map (·.1)).Nodup
 nums:∀kv∈kvs,∃i,kv.2=.int i
theorem IntD.nil:IntD []:=⟨List.nodup_nil,fun kv h=>by cases h⟩
theorem IntD.put{kvs:List (Key×V)}(h:IntD kvs)(k:Key)(i:Int):IntD (b6 kvs k (.int i)):=by
 by_cases hk:(kvs.any fun kv=>decide (kv.1=k))=true
 ·have e:b6 kvs k (.int i)=kvs.map (fun kv=>if kv.1=k then (kv.1,.int i) else kv):=by unfold b6;rw [zq2 hk]
  rw [e];refine ⟨?_,fun kv hm=>?_⟩
  ·have e2:(kvs.map (fun kv=>if kv.1=k then (kv.1,V.int i) else kv)).map (·.1)=kvs.map (·.1):=by
    rw [qJ];refine List.map_congr_left fun kv _=>?_;show (if kv.1=k then (kv.1,V.int i) else kv).1=kv.1
    split<;>rfl
   rw [e2];exact h.nd
  ·obtain ⟨kv',hm',rfl⟩:=zq34.mp hm;show ∃j,(if kv'.1=k then (kv'.1,V.int i) else kv').2=.int j
   split
   ·exact ⟨i,rfl⟩
   ·exact h.nums kv' hm'
 ·have hn:aN kvs k=none:=by have:=bC k kvs;rw [Bool.not_eq_true] at hk;rw [hk] at this;exact zq106.mp (by rw [zq106];cases e:aN kvs k with | none=>rfl | some v=>rw [e] at this;cases this)
  refine ⟨pd _ h.nd hn,fun kv hm=>?_⟩;rw [ii _ hn] at hm;rcases zq23.mp hm with z | z
  ·exact h.nums kv z
  ·rw [zq28.mp z];exact ⟨i,rfl⟩
def dZ(kvs:List (Key×V))(n:Str):Option Int:=match aN kvs (.inr n) with
 |some (.int i)=>some i
 |_=>none
theorem iG{kvs:List (Key×V)}{k n:Str}{i:Int}:dZ (b6 kvs (.inr k) (.int i)) n=if n=k then some i else dZ kvs n:=by
 unfold dZ;rw [o3]
 by_cases h:n=k
 ·subst h;rw [zq2 rfl,zq2 rfl]
 ·rw [zq1 (fun z=>h (Sum.inr.inj z)),zq1 h]
end FG
namespace FS
open PySem L2 FB PyProof.Rows
inductive Stm where
 |deed (d:Deed)
 |ifs (n:Str) (ones others:List Stm)
 |whl (n:Str) (rows:List Stm)
variable {H H':Hp} {f:List Addr}
mutual
inductive StmV (K:W.Frag) (H:Hp):V->Stm->List Addr->Prop where
 |deed {q:Addr} {d:Deed}:d.fine->SqT K H q d.vs->StmV K H (.ref q) (.deed d) []
 |ifs {q a b:Addr} {n:Str} {xs ys:List V} {ones others:List Stm} {f g:List Addr}:SqT K H q [.str "if",.str n,.ref a,.ref b]->H a=some (.lst xs)->H b=some (.lst ys)->StmsV K H xs ones f->StmsV K H ys others g->
   StmV K H (.ref q) (.ifs n ones others) (a::b::(f++g))
 |whl {q a:Addr} {n:Str} {xs:List V} {rows:List Stm} {f:List Addr}:SqT K H q [.str "while",.str n,.ref a]->H a=some (.lst xs)->StmsV K H xs rows f->StmV K H (.ref q) (.whl n rows) (a::f)
inductive StmsV (K:W.Frag) (H:Hp):List V->List Stm->List Addr->Prop where
 |nil:StmsV K H [] [] []
 |cons {x:V} {s:Stm} {xs:List V} {ss:List Stm} {f g:List Addr}:StmV K H x s f->StmsV K H xs ss g->StmsV K H (x::xs) (s::ss) (f++g)
end
def Kept(fp:List Addr)(H H':Hp):Prop:=∀a∈fp,∀o,H a=some o->H' a=some o
theorem Kept.left{g:List Addr}(h:Kept (f++g) H H'):Kept f H H':=fun a ha=>h a (qx _ ha)
theorem Kept.right{g:List Addr}(h:Kept (f++g) H H'):Kept g H H':=fun a ha=>h a (dm _ ha)
theorem Kept.tail{x:Addr}{g:List Addr}(h:Kept (x::g) H H'):Kept g H H':=fun a ha=>h a (bz _ ha)
theorem Kept.of{fp:List Addr}(s:Same H H'):Kept fp H H':=fun a _ o e=>s a o e
theorem Kept.upd{fp:List Addr}{p:Addr}{o:HO}(h:p∉fp):Kept fp H (upd H p o):=fun a ha u e=>by rw [aj (fun z=>h (by rw [<- z];exact ha))];exact e
variable {K:W.Frag}
mutual
theorem StmV.keep(t:TSame H H'):∀{x:V} {s:Stm} {f:List Addr},StmV K H x s f->Kept f H H'->StmV K H' x s f
 |_,_,_,.deed hf h,_=>.deed hf (t.seqT h)
 |_,_,_,.ifs (a:=a) (b:=b) h ha hb h1 h2,k=>.ifs (t.seqT h) (k a Jo _ ha) (k b Jo _ hb) (StmsV.keep t h1 k.tail.tail.left) (StmsV.keep t h2 k.tail.tail.right)
 |_,_,_,.whl (a:=a) h ha h1,k=>.whl (t.seqT h) (k a Jo _ ha) (StmsV.keep t h1 k.tail)
theorem StmsV.keep(t:TSame H H'):∀{xs:List V} {ss:List Stm} {f:List Addr},StmsV K H xs ss f->Kept f H H'->StmsV K H' xs ss f
 |_,_,_,.nil,_=>.nil
 |_,_,_,.cons h1 h2,k=>.cons (StmV.keep t h1 k.left) (StmsV.keep t h2 k.right)
end
theorem StmsV.same{xs:List V}{ss:List Stm}(h:StmsV K H xs ss f)(s:Same H H'):StmsV K H' xs ss f:=h.keep s.ts (Kept.of s)
theorem StmV.same{x:V}{s:Stm}(h:StmV K H x s f)(sm:Same H H'):StmV K H' x s f:=h.keep sm.ts (Kept.of sm)
theorem StmsV.length:∀{xs:List V} {ss:List Stm} {f:List Addr},StmsV K H xs ss f->xs.length=ss.length
 |_,_,_,.nil=>rfl
 |_,_,_,.cons _ h=>by rw [bW,bW,StmsV.length h]
theorem StmsV.snoc{y:V}{r:Stm}{g:List Addr}(hy:StmV K H y r g):∀{xs:List V} {ss:List Stm} {f:List Addr},StmsV K H xs ss f->StmsV K H (xs++[y]) (ss++[r]) (f++g)
 |_,_,_,.nil=>by have:=StmsV.cons hy StmsV.nil;rw [qA] at this;exact this
 |_,_,_,.cons h1 h2=>by rw [ux];exact .cons h1 (StmsV.snoc hy h2)
mutual
theorem StmV.tracked:∀{x:V} {s:Stm} {f:List Addr},StmV K H x s f->∀a∈f,∃zs,H a=some (.lst zs)
 |_,_,_,.deed _ _,a,ha=>by cases ha
 |_,_,_,.ifs (f:=f) (g:=g) h ha hb h1 h2,c,hc=>by
  rcases zq8.mp hc with rfl | hc
  ·exact ⟨_,ha⟩
  rcases zq8.mp hc with rfl | hc
  ·exact ⟨_,hb⟩
  rcases zq23.mp hc with hc | hc
  ·exact StmsV.tracked h1 c hc
  ·exact StmsV.tracked h2 c hc
 |_,_,_,.whl h ha h1,c,hc=>by
  rcases zq8.mp hc with rfl | hc
  ·exact ⟨_,ha⟩
  ·exact StmsV.tracked h1 c hc
theorem StmsV.tracked:∀{xs:List V} {ss:List Stm} {f:List Addr},StmsV K H xs ss f->∀a∈f,∃zs,H a=some (.lst zs)
 |_,_,_,.nil,a,ha=>by cases ha
 |_,_,_,.cons h1 h2,a,ha=>by
  rcases zq23.mp ha with ha | ha
  ·exact StmV.tracked h1 a ha
  ·exact StmsV.tracked h2 a ha
end
theorem StmsV.get:∀{xs:List V} {ss:List Stm} {f:List Addr} {i:Nat} {x:V},StmsV K H xs ss f->xs[i]?=some x->∃s g,ss[i]?=some s/\StmV K H x s g/\∀a∈g,a∈f
 |_,_,_,_,_,.nil,e=>by simp at e
 |_,_,_,0,_,.cons h _,e=>by simp at e;subst e;exact zB _ _ rfl h fun a ha=>qx _ ha
 |_,_,_,i+1,x,.cons _ t,e=>by obtain ⟨s,g,h1,h2,h3⟩:=StmsV.get (i:=i) (x:=x) t (by simpa using e);exact zB s g (by simpa using h1) h2 fun a ha=>dm _ (h3 a ha)
theorem fR{α:Type}{l₁ l₂:List α}(h1:l₁.Nodup)(h2:l₂.Nodup)(h:∀a∈l₁,a∉l₂):(l₁++l₂).Nodup:=by rw [List.nodup_append];exact zC h1 h2 (fun a ha b hb e=>h a ha (by rw [e];exact hb))
end FS
namespace FP
open PySem L2 FB FS FA PyProof.Rows
variable {K:W.Frag}
end FP
namespace FS
open PySem L2 FB PyProof.Rows
theorem pE{f k:Str}(h:f∈opsL)(hk:opsL.contains k=false):¬f=k:=by rintro rfl;rw [List.contains_eq_mem,decide_eq_false_iff_not] at hk;exact hk h
theorem fK{K:W.Frag}{H:Hp}{q:Addr}{d:Deed}{k:Str}{Z:V->Hp->Prop}(hf:d.fine)(hq:SqT K H q d.vs)(h1:opsL.contains k=false)(h2:¬("tell":Str)=k) (h3:¬("copy":Str)=k) (h:Z (.bl false) H):∃xs v,SqT K H q xs/\atI xs 0=some v/\rEq v (.str k) H Z:=by
 cases d with
 |tell a=>exact zF _ _ hq rfl rfl (by rw [zq7 (fun z=>h2 (V.str.inj z))];exact h)
 |copy n a=>exact zF _ _ hq rfl rfl (by rw [zq7 (fun z=>h3 (V.str.inj z))];exact h)
 |op f n a b=>exact zF _ _ hq rfl rfl (by rw [zq7 (fun z=>pE hf h1 (V.str.inj z))];exact h)
mutual
def Stm.deep:Stm->Nat
 | .deed _=>0
 | .ifs _ a b=>max (aR a) (aR b)+1
 | .whl _ a=>aR a+1
def aR:List Stm->Nat
 | []=>0
 |s::ss=>max s.deep (aR ss)
end
mutual
def Stm.many:Stm->Nat
 | .deed _=>1
 | .ifs _ a b=>aK a+aK b+1
 | .whl _ a=>aK a+1
def aK:List Stm->Nat
 | []=>0
 |s::ss=>s.many+aK ss
end
def Opd.good(ns:List Str)(w:Int):Opd->Prop
 | .box n=>n∈ns
 | .word i=>0<=i/\i<2 ^ w.toNat
def Deed.good(ns:List Str)(w:Int):Deed->Prop
 | .tell a=>Opd.good ns w a
 | .copy d a=>d∈ns/\Opd.good ns w a
 | .op f d a b=>f∈opsL/\d∈ns/\Opd.good ns w a/\Opd.good ns w b
mutual
def Stm.good(ns:List Str)(w:Int):Stm->Prop
 | .deed d=>Deed.good ns w d
 | .ifs n a b=>n∈ns/\b7 ns w a/\b7 ns w b
 | .whl n a=>n∈ns/\b7 ns w a
def b7(ns:List Str)(w:Int):List Stm->Prop
 | []=>True
 |s::ss=>s.good ns w/\b7 ns w ss
end
theorem mD(s:Stm):1<=s.many:=by cases s<;>simp [Stm.many]
theorem bf(ss:List Stm):ss.length<=aK ss:=by
 induction ss with
 |nil=>simp [aK]
 |cons s ss ih=>rw [aK,bW];have:=mD s;omega
theorem cv{s:Stm}{ss:List Stm}(h:s∈ss):s.many<=aK ss:=by
 induction ss with
 |nil=>cases h
 |cons x xs ih=>
  rw [aK];rcases zq8.mp h with z | z
  ·subst z;omega
  ·have:=ih z;omega
theorem bG{s:Stm}{ss:List Stm}(h:s∈ss):s.deep<=aR ss:=by
 induction ss with
 |nil=>cases h
 |cons x xs ih=>
  rw [aR];rcases zq8.mp h with z | z
  ·subst z;omega
  ·have:=ih z;omega
theorem gr{a b:List Stm}:aR (a++b)=max (aR a) (aR b):=by
 induction a with
 |nil=>simp [aR]
 |cons s ss ih=>rw [jn,aR,aR,ih,Nat.max_assoc]
theorem gC{a b:List Stm}:aK (a++b)=aK a+aK b:=by
 induction a with
 |nil=>simp [aK]
 |cons s ss ih=>rw [jn,aK,aK,ih];omega
theorem goodL_append{ns:List Str}{w:Int}{a b:List Stm}:b7 ns w (a++b)↔b7 ns w a/\b7 ns w b:=by
 induction a with
 |nil=>simp [b7]
 |cons s ss ih=>rw [jn,b7,b7,ih];exact and_assoc.symm
end FS
namespace FP
open PySem L2 FB FS FA PyProof.Rows
end FP
namespace L2
open PySem PySem.Spec PyProof.Rows
variable {H:Hp} {o:HO} {p:Addr}
def SameX(p:Addr)(H H':Hp):Prop:=∀c o,H c=some o->c≠p->H' c=some o
theorem SameX.trans{H1 H2:Hp}(a:SameX p H H1)(b:SameX p H1 H2):SameX p H H2:=fun c o e n=>b c o (a c o e n) n
theorem SameX.of{H':Hp}(s:Same H H'):SameX p H H':=fun c o e _=>s c o e
theorem SameX.upd:SameX p H (L2.upd H p o):=fun c u e n=>by rw [aj n];exact e
theorem SameX.free{c:Addr}{H':Hp}(s:SameX p H H')(hp:H' p=some o)(h:H' c=none):H c=none:=by
 cases e:H c with
 |none=>rfl
 |some u=>
  have n:c≠p:=fun z=>by subst z;rw [hp] at h;cases h
  rw [s c u e n] at h;cases h
theorem TSame.updI{C dx:Addr}{fs:List (Str×V)}(h:H p=some (.ins C dx fs)):TSame H (L2.upd H p o):=
 ⟨fun b xs e=>by rw [aj (fun z=>by rw [z,h] at e;cases e)];exact e,fun b u v e=>by rw [aj (fun z=>by rw [z,h] at e;cases e)];exact e⟩
end L2
namespace FS
open PySem L2 FB PyProof.Rows
def sN(wd:Int)(a b r:Addr):List (Str×V):=[("width",.int wd),("ins",.ref a),("boxes",.ref b),("rows",.ref r)]
structure ProgAt(K:W.Frag)(C:Addr)(H:Hp)(p:Addr)(wd:Int)(ins oth:List Str)(ss:List Stm)(a b r:Addr)(xs:List V)(f:List Addr):Prop where
 ob:∃dx,H p=some (.ins C dx (sN wd a b r))
 ia:H a=some (.lst (ins.map V.str))
 bx:H b=some (.lst ((ins++oth).map V.str))
 rs:H r=some (.lst xs)
 st:StmsV K H xs ss f
theorem ProgAt.same{K:W.Frag}{C:Addr}{H H':Hp}{p:Addr}{wd:Int}{ins oth:List Str}{ss:List Stm}{a b r:Addr}{xs:List V}{f:List Addr}(h:ProgAt K C H p wd ins oth ss a b r xs f)(s:Same H H'):ProgAt K C H' p wd ins oth ss a b r xs f:=
 ⟨let ⟨dx,e⟩:=h.ob;⟨dx,s _ _ e⟩,s _ _ h.ia,s _ _ h.bx,s _ _ h.rs,h.st.same s⟩
theorem bv{f:Str}{v:V}:∀{fs:List (Str×V)},(fs.map (·.1)).contains f=false->bT f v fs=fs++[(f,v)]
 | [],_=>rfl
 | (g,x)::r,h=>by
  rw [c5,List.contains_cons,Bool.or_eq_false_iff] at h;have n:¬g=f:=fun z=>by subst z;simp at h
  rw [show bT f v ((g,x)::r)=(if g=f then (g,v)::r else (g,x)::bT f v r) from rfl,zq1 n,bv h.2];rfl
end FS
namespace K01M
theorem tb(x w:Nat):x / 2 ^ w % 2=(x.testBit w).toNat:=by
 rw [Nat.testBit_eq_decide_div_mod_eq];have h:x / 2 ^ w % 2=0\/x / 2 ^ w % 2=1:=by omega
 rcases h with h | h<;>simp [h]
end K01M
namespace FO
open PySem L2 K01M FB PyProof.Rows
abbrev ops:List Str:=FB.opsL
def gH(op:Str)(x y w:Int):Int:=
 if op="plus" then (x+y) % 2 ^ w.toNat else if op="less" then (x-y) % 2 ^ w.toNat else if op="and" then Builtin.bitAnd x y else if op="or" then Builtin.bitOr x y
 else if op="xor" then Builtin.bitXor x y else if op="below" then (if x<y then 1 else 0) else if x=y then 1 else 0
theorem uE(a b:Nat):Builtin.bitAnd (a:Int) (b:Int)=((a &&& b:Nat):Int):=by unfold Builtin.bitAnd;rw [cm (by omega:(0:Int)<=a),cm (by omega:(0:Int)<=b)];rfl
theorem bOr(a b:Nat):Builtin.bitOr (a:Int) (b:Int)=((a ||| b:Nat):Int):=by
 unfold Builtin.bitOr Builtin.bitAnd;have e1:∀z:Nat,Builtin.bitNot (z:Int)=-(z:Int)-1:=fun z=>by unfold Builtin.bitNot;omega
 rw [e1,e1,zq7 (by omega:¬(0:Int)<=-(a:Int)-1),zq7 (by omega:¬(0:Int)<=-(b:Int)-1)];show Builtin.bitNot (Builtin.bitNot (((Builtin.bitNot (-(a:Int)-1)).toNat ||| (Builtin.bitNot (-(b:Int)-1)).toNat:Nat):Int))=_;have e2:∀z:Nat,(Builtin.bitNot (-(z:Int)-1)).toNat=z:=fun z=>by unfold Builtin.bitNot;omega
 rw [e2,e2,e1];unfold Builtin.bitNot;omega
theorem pY{op:Str}{x y w:Int}(ho:op∈ops)(x0:0<=x)(x1:x<2 ^ w.toNat)(y0:0<=y)(y1:y<2 ^ w.toNat)(hw:1<=w):0<=gH op x y w/\gH op x y w<2 ^ w.toNat:=by
 obtain ⟨a,rfl⟩:=iK x0;obtain ⟨b,rfl⟩:=iK y0;have ca:((2 ^ w.toNat:Nat):Int)=2 ^ w.toNat:=by simp
 have ha:a<2 ^ w.toNat:=by rw [<- ca] at x1;omega
 have hb:b<2 ^ w.toNat:=by rw [<- ca] at y1;omega
 have hp:(0:Int)<2 ^ w.toNat:=qL Jm;have h2:(2:Int)<=2 ^ w.toNat:=by have:2 ^ 1<=2 ^ w.toNat:=Nat.pow_le_pow_right Jm Jn;rw [<- ca];omega
 unfold gH
 split
 ·exact ⟨dD _ Jn,gN _ hp⟩
 split
 ·exact ⟨dD _ Jn,gN _ hp⟩
 split
 ·rw [uE,<- ca];have:=jo (Nat.and_le_left (n:=a) (m:=b)) ha;omega
 split
 ·rw [bOr,<- ca];have:=Nat.or_lt_two_pow ha hb;omega
 split
 ·unfold Builtin.bitXor;rw [uE,bOr,<- ca];have h1:=Nat.or_lt_two_pow ha hb;have h3:(a &&& b)<=(a ||| b):=bO Nat.and_le_left Nat.left_le_or;omega
 split
 ·split<;>omega
 ·split<;>omega
end FO
namespace FR
open PySem L2 FB FS FG FO PyProof.Rows
abbrev Bx:=List (Key×V)
variable {ws:Bx}
def aH(b:Bx)(n:Str):Int:=(dZ b n).getD 0
def c9(b:Bx):Opd->Int
 | .box n=>aH b n
 | .word i=>i
def bQ(b:Bx)(w:Int):Deed->Int
 | .tell a=>c9 b a
 | .copy _ a=>c9 b a
 | .op f _ x y=>gH f (c9 b x) (c9 b y) w
structure Stt where
 left:List Stm
 bx:Bx
 told:List Int
def doB(w:Int)(d:Deed)(b:Bx):Bx:=match d with
 | .tell _=>b
 | .copy n _=>b6 b (.inr n) (.int (bQ b w d))
 | .op _ n _ _=>b6 b (.inr n) (.int (bQ b w d))
def doT(w:Int)(d:Deed)(b:Bx)(t:List Int):List Int:=match d with
 | .tell _=>t++[bQ b w d]
 |_=>t
def aT(w:Int)(s:Stt):Stt:=match s.left with
 | []=>s
 | .deed d::ss=>⟨ss,doB w d s.bx,doT w d s.bx s.told⟩
 | .ifs n x y::ss=>⟨(if aH s.bx n≠0 then x else y)++ss,s.bx,s.told⟩
 | .whl n x::ss=>⟨if aH s.bx n≠0 then x++.whl n x::ss else ss,s.bx,s.told⟩
def aF(w:Int):Nat->Stt->Stt
 |0,s=>s
 |n+1,s=>aT w (aF w n s)
theorem lp{w:Int}{s:Stt}(h:s.left=[]):aT w s=s:=by unfold aT;rw [h]
theorem lh{w:Int}{s:Stt}{n:Nat}(h:(aF w n s).left=[]):∀m,aF w (n+m) s=aF w n s
 |0=>rfl
 |m+1=>by rw [<- qM,aF,lh h m];exact lp h
structure BxG(ns:List Str)(w:Int)(b:Bx):Prop where
 isI:IntD b
 few:b.length<=1000
 has:∀n∈ns,∃x,dZ b n=some x/\0<=x/\x<2 ^ w.toNat
theorem BxG.get{ns:List Str}{w:Int}{b:Bx}{n:Str}(h:BxG ns w b)(hn:n∈ns):0<=aH b n/\aH b n<2 ^ w.toNat:=by obtain ⟨x,hx,h0,h1⟩:=h.has n hn;unfold aH;rw [hx];exact ⟨h0,h1⟩
theorem oj{kvs:List (Key×V)}{n:Str}{x:Int}(h:dZ kvs n=some x):aN kvs (.inr n)=some (.int x):=by
 unfold dZ at h
 split at h
 ·next e=>cases h;exact e
 ·cases h
theorem BxG.val{ns:List Str}{w:Int}{b:Bx}{n:Str}(h:BxG ns w b)(hn:n∈ns):aN b (.inr n)=some (.int (aH b n)):=by obtain ⟨x,hx,_⟩:=h.has n hn;unfold aH;rw [hx];exact oj hx
theorem dX{b:Bx}{k:Key}{v u:V}(h:aN b k=some u):(b6 b k v).length=b.length:=by have:=bC k b;rw [h] at this;unfold b6;rw [zq2 (by rw [this];rfl),ck]
theorem BxG.put{ns:List Str}{w:Int}{b:Bx}{n:Str}{x:Int}(h:BxG ns w b)(hn:n∈ns)(h0:0<=x)(h1:x<2 ^ w.toNat):BxG ns w (b6 b (.inr n) (.int x)):=
 ⟨h.isI.put _ _,by rw [dX (h.val hn)];exact h.few,fun m hm=>by
  rw [iG]
  by_cases e:m=n
  ·rw [zq2 e];exact zD x rfl h0 h1
  ·rw [zq1 e];exact h.has m hm⟩
theorem ej{ns:List Str}{w:Int}{b:Bx}{o:Opd}(h:BxG ns w b)(ho:Opd.good ns w o):0<=c9 b o/\c9 b o<2 ^ w.toNat:=by
 cases o with
 |box n=>exact h.get ho
 |word i=>exact ho
theorem gX{ns:List Str}{w:Int}{b:Bx}{d:Deed}(h:BxG ns w b)(hd:Deed.good ns w d)(hw:1<=w):0<=bQ b w d/\bQ b w d<2 ^ w.toNat:=by
 cases d with
 |tell a=>exact ej h hd
 |copy n a=>exact ej h hd.2
 |op f n x y=>obtain ⟨h1,_,h3,h4⟩:=hd;have a:=ej h h3;have b:=ej h h4;exact pY h1 a.1 a.2 b.1 b.2 hw
theorem BxG.doB{ns:List Str}{w:Int}{b:Bx}{d:Deed}(h:BxG ns w b)(hd:Deed.good ns w d)(hw:1<=w):BxG ns w (doB w d b):=by
 have l:=gX h hd hw
 cases d with
 |tell a=>exact h
 |copy n a=>exact h.put hd.1 l.1 l.2
 |op f n x y=>exact h.put hd.2.1 l.1 l.2
structure SG(ns:List Str)(w:Int)(k:Nat)(s:Stt):Prop where
 wd:1<=w/\w<=8
 bx:BxG ns w s.bx
 gd:b7 ns w s.left
 many:∀x∈s.left,x.many<=1000
 len:s.left.length<=1000+1001 * k
 told:s.told.length<=k
 words:∀x∈s.told,0<=x/\x<2 ^ w.toNat
theorem SG.step{ns:List Str}{w:Int}{k:Nat}{s:Stt}(h:SG ns w k s):SG ns w (k+1) (aT w s):=by
 obtain ⟨left,bx,told⟩:=s;have hl:=h.len;have ht:=h.told
 cases left with
 |nil=>exact ⟨h.wd,h.bx,h.gd,h.many,by dsimp only [aT] at hl ⊢;omega,by dsimp only [aT] at ht ⊢;omega,h.words⟩
 |cons x ss=>
  have hm:=h.many x Jo;have hms:∀y∈ss,y.many<=1000:=fun y hy=>h.many y (bz _ hy);have hg:x.good ns w/\b7 ns w ss:=h.gd;dsimp only at hl ht;rw [bW] at hl
  cases x with
  |deed d=>
   refine ⟨h.wd,h.bx.doB hg.1 h.wd.1,hg.2,hms,by show ss.length<=_;omega,?_,?_⟩
   ·show (doT w d bx told).length<=k+1;unfold doT
    cases d with
    |tell a=>rw [fB,qB];omega
    |copy n a=>show told.length<=_;omega
    |op f n a b=>show told.length<=_;omega
   ·show ∀x∈doT w d bx told,_;unfold doT
    cases d with
    |tell a=>
     intro y hy;rcases zq23.mp hy with z | z
     ·exact h.words y z
     ·rw [zq28.mp z];exact gX h.bx hg.1 h.wd.1
    |copy n a=>exact h.words
    |op f n a b=>exact h.words
  |ifs n a b=>
   have hma:aK a<=1000/\aK b<=1000:=by simp only [Stm.many] at hm;omega
   obtain ⟨_,ga,gb⟩:n∈ns/\b7 ns w a/\b7 ns w b:=hg.1;have key:∀l,aK l<=1000->b7 ns w l->SG ns w (k+1) ⟨l++ss,bx,told⟩:=fun l h1 h2=>
    ⟨h.wd,h.bx,goodL_append.mpr ⟨h2,hg.2⟩,fun y hy=>by
     rcases zq23.mp hy with z | z
     ·exact bO (cv z) h1
     ·exact hms y z,by show (l++ss).length<=_;rw [fB];have:=bf l;omega,by show told.length<=_;omega,h.words⟩
   show SG ns w (k+1) ⟨(if aH bx n≠0 then a else b)++ss,bx,told⟩
   split
   ·exact key a hma.1 ga
   ·exact key b hma.2 gb
  |whl n a=>
   have hma:aK a<=1000:=by simp only [Stm.many] at hm;omega
   obtain ⟨gn,ga⟩:n∈ns/\b7 ns w a:=hg.1;show SG ns w (k+1) ⟨if aH bx n≠0 then a++.whl n a::ss else ss,bx,told⟩
   split
   ·refine ⟨h.wd,h.bx,goodL_append.mpr (zC ga ⟨gn,ga⟩ hg.2),fun y hy=>?_,?_,by show told.length<=_;omega,h.words⟩
    ·rcases zq23.mp hy with z | z
     ·exact bO (cv z) hma
     ·rcases zq8.mp z with z | z
      ·rw [z];exact hm
      ·exact hms y z
    ·show (a++.whl n a::ss).length<=_;rw [fB,bW];have:=bf a;omega
   ·exact ⟨h.wd,h.bx,hg.2,hms,by show ss.length<=_;omega,by show told.length<=_;omega,h.words⟩
theorem SG.run{ns:List Str}{w:Int}{s:Stt}(h:SG ns w 0 s):∀n,SG ns w n (aF w n s)
 |0=>h
 |n+1=>(SG.run h n).step
def aD(ins:List Str)(ws:Bx)(ns:List Str):Bx:=ns.foldl (fun b n=>b6 b (.inr n) (.int (if n∈ins then aH ws n else 0))) []
theorem dJ{ins:List Str}{ns:List Str}{n:Str}:aD ins ws (ns++[n])=b6 (aD ins ws ns) (.inr n) (.int (if n∈ins then aH ws n else 0)):=by unfold aD;rw [List.foldl_append];rfl
theorem fM{ins:List Str}{w:Int}(hw:∀n∈ins,0<=aH ws n/\aH ws n<2 ^ w.toNat):∀(m:Nat)(ns:List Str),ns.length=m->IntD (aD ins ws ns)/\(aD ins ws ns).length<=ns.length/\∀n∈ns,∃x,dZ (aD ins ws ns) n=some x/\0<=x/\x<2 ^ w.toNat:=by
 intro m
 induction m with
 |zero=>
  intro ns h;have:ns=[]:=List.length_eq_zero_iff.mp h;subst this;exact zC IntD.nil (zq4 _) (fun n hn=>by cases hn)
 |succ m ih=>
  intro ns h;obtain ⟨l,x,rfl⟩:∃l x,ns=l++[x]:=⟨ns.dropLast,ns.getLast (by intro z;rw [z] at h;simp at h),(rK _).symm⟩
  have hl:l.length=m:=by simpa using h
  obtain ⟨i1,i2,i3⟩:=ih l hl;rw [dJ];refine zC (i1.put _ _) ?_ fun n hn=>?_
  ·have:=bR (aD ins ws l) (.inr x) (.int (if x∈ins then aH ws x else 0));rw [fB,qB];omega
  ·rw [iG]
   by_cases e:n=x
   ·rw [zq2 e];refine zA _ rfl ?_
    split
    ·next hm=>exact hw x hm
    ·exact ⟨Int.le_refl _,qL Jm⟩
   ·rw [zq1 e];refine i3 n ?_;rcases zq23.mp hn with z | z
    ·exact z
    ·exact absurd (zq28.mp z) e
theorem h9{ins:List Str}{w:Int}{ns:List Str}(hw:∀n∈ins,0<=aH ws n/\aH ws n<2 ^ w.toNat)(hl:ns.length<=1000):BxG ns w (aD ins ws ns):=by obtain ⟨a,b,c⟩:=fM hw _ ns rfl;exact ⟨a,Jn,c⟩
end FR
namespace L2
open PySem PySem.Spec PyProof.Rows
section
variable {K:W.Frag} {te:TE} {ci:List Nat} {σ:St} {acc:Addr} {Q:Hp->Prop} {H1:Hp} {a:Addr} {xs:List V}
end
end L2
namespace FW
open PySem L2 FB FS FG FO FR PyProof.Rows
section
variable {K:W.Frag} {H:Hp}
end
end FW
namespace FX
open PySem L2 FB FS FG FO FR FW PyProof.Rows
structure Nd where
 rd:List Str
 nm:Option Str
 ah:List Int
def seen(old new:Nat->Nat)(i:Nat)(j:Int):Nat:=if j<0 then 0 else if j.toNat<i then new j.toNat else old j.toNat
section
variable {n:Str} {N:List Nd} {v:Nat->Nat->Nat}
end
section
variable {S:List (List Str)}
end
end FX
namespace FX
open PySem L2 FB FS FG FO FR FW PyProof.Rows PySem.Spec
end FX
namespace L2
open PySem PySem.Spec PyProof.Rows
section
variable {X:Cx}
end
end L2
namespace FZ
open PySem L2 FB FS FG FO FR PyProof.Rows
end FZ
namespace GA
open PySem L2 FB FS FG FO FR FZ PyProof.Rows
end GA
section
open PySem PySem.Spec PyProof.Rows
namespace L2
section
variable {prog:Program} {w:World} {A:Around} {E:Value->Shared->Prop} {s:Shared}
end
end L2
namespace L2
section
variable {X:Cx}
end
end L2
namespace L2
section
variable {prog:Program} {w:World} {A:Around} {E:Value->Shared->Prop} {s:Shared}
end
section
variable {X:Cx}
end
section
variable {prog:Program} {w:World} {A:Around} {E:Value->Shared->Prop} {s:Shared} {l I S:Addr} {vs:List Value} {ln:Nat->Nat} {dv:Value} {R:Result->Shared->Prop}
end
section
variable {X:Cx}
end
end L2
namespace L2
section
variable {X:Cx}
end
end L2
namespace L2
end L2
namespace L2
section
variable {X:Cx}
end
end L2
end
namespace GO
open PySem L2 FB FS FG FO FR FZ GA PyProof.Rows
end GO
namespace L2
open PySem PySem.Spec PyProof.Rows
section
variable {X:Cx}
end
end L2
namespace GV
open PySem PySem.Spec PySem.W PyProof.Rows
mutual
inductive NkIs (h:Heap):WData->Value->Prop where
 |non:NkIs h .none .none
 |int {i:Int} {t:Tok}:NkIs h (.int i) (.int i t)
 |str {x:Str} {t:Tok}:NkIs h (.str x) (.str x t)
 |tup {a:Addr} {o:Obj} {its:Array Value} {n:Nat} {xs:List WData}:h.get? a=some o->o.cls=.type "tuple"->o.data=.seq its n->NksIs h xs its.toList->NkIs h (.tuple xs) (.ref a)
inductive NksIs (h:Heap):List WData->List Value->Prop where
 |nil:NksIs h [] []
 |cons {k:WData} {v:Value} {ks:List WData} {vs:List Value}:NkIs h k v->NksIs h ks vs->NksIs h (k::ks) (v::vs)
end
mutual
def dpN:WData->Nat
 | .tuple xs=>cV xs+1
 |_=>0
def cV:List WData->Nat
 | []=>0
 |x::r=>max (dpN x) (cV r)
end
mutual
def tkN:WData->Nat
 | .tuple xs=>qh xs+1
 |_=>1
def qh:List WData->Nat
 | []=>0
 |x::r=>tkN x+qh r
end
mutual
theorem NkIs.inj{h:Heap}:∀{x y:WData} {v:Value},NkIs h x v->NkIs h y v->x=y
 |_,_,_,.non,b=>by cases b;rfl
 |_,_,_,.int,b=>by cases b;rfl
 |_,_,_,.str,b=>by cases b;rfl
 |_,_,_,.tup h1 h2 h3 h4,b=>by
  cases b with
  |tup g1 g2 g3 g4=>
   rw [h1] at g1
   cases g1
   rw [h3] at g3
   cases g3
   rw [NksIs.inj h4 g4]
theorem NksIs.inj{h:Heap}:∀{x y:List WData} {v:List Value},NksIs h x v->NksIs h y v->x=y
 |_,_,_,.nil,b=>by cases b;rfl
 |_,_,_,.cons h1 h2,b=>by
  cases b with
  |cons g1 g2=>rw [NkIs.inj h1 g1,NksIs.inj h2 g2]
end
mutual
theorem NkIs.keep{h h':Heap}(k:∀(a:Addr)(o:Obj)(its:Array Value)(n:Nat),h.get? a=some o->o.data=.seq its n->h'.get? a=some o):∀{x:WData} {v:Value},NkIs h x v->NkIs h' x v
 |_,_,.non=>.non
 |_,_,.int=>.int
 |_,_,.str=>.str
 |_,_,.tup h1 h2 h3 h4=>.tup (k _ _ _ _ h1 h3) h2 h3 (NksIs.keep k h4)
theorem NksIs.keep{h h':Heap}(k:∀(a:Addr)(o:Obj)(its:Array Value)(n:Nat),h.get? a=some o->o.data=.seq its n->h'.get? a=some o):∀{x:List WData} {v:List Value},NksIs h x v->NksIs h' x v
 |_,_,.nil=>.nil
 |_,_,.cons h1 h2=>.cons (NkIs.keep k h1) (NksIs.keep k h2)
end
theorem NksIs.length{h:Heap}:∀{x:List WData} {v:List Value},NksIs h x v->x.length=v.length
 |_,_,.nil=>rfl
 |_,_,.cons _ t=>by rw [bW,bW,NksIs.length t]
theorem NksIs.at{h:Heap}:∀{x:List WData} {v:List Value} {j:Nat} {u:Value},NksIs h x v->v[j]?=some u->∃k,x[j]?=some k/\NkIs h k u
 |_,_,_,_,.nil,e=>by simp at e
 |_,_,0,_,.cons r _,e=>by simp at e;subst e;exact zA _ rfl r
 |_,_,j+1,u,.cons _ t,e=>by obtain ⟨k,h1,h2⟩:=NksIs.at (j:=j) (u:=u) t (by simpa using e);exact zA k (by simpa using h1) h2
theorem eI:∀{xs:List WData} {x:WData},x∈xs->dpN x<=cV xs
 |y::r,x,h=>by
  rw [cV];rcases zq8.mp h with rfl | h
  ·exact Nat.le_max_left _ _
  ·exact bO (eI h) (Nat.le_max_right _ _)
section
variable {prog:Program} {w:World} {E:Value->Shared->Prop}
mutual
theorem jG:∀{k:WData} {v:Value} {A:Around} {s:Shared} {Q:Int->Shared->Prop},NkIs s.heap k v->A.units+dpN k<cLine->Q (hashW w.params k) {s with toks:=s.toks+tkN k}->wpAny (model prog w) A (pyHash v) Q E s
 |_,_,A,s,Q,.non,hu,q=>pyHash_slot (T:="NoneType") rfl F.slot_NoneType_hash F.entry_NoneType_hash (F.args_NoneType_hash_1 _) (beq_builtin_none _) (.inr (jo (Nat.le_add_right _ _) hu)) (zq0 (zq3 (zq0 (wpAny_mkInt (zq3 (zE _ _ rfl q))))))
 |_,_,A,s,Q,.int (i:=i),hu,q=>wpAny_pyHash_int (hashW_int w.params i ▸ q)
 |_,_,A,s,Q,.str,hu,q=>wpAny_pyHash_str q
 |_,_,A,s,Q,.tup (a:=a) (xs:=xs) h1 h2 h3 h4,hu,q=>by rw [dpN] at hu;refine pyHash_slot (T:="tuple") (zA _ h1 h2) F.slot_tuple_hash F.entry_tuple_hash (F.args_tuple_hash_1 _) (beq_builtin_none _) (.inr Jn) ?_;refine zq0 (zq3 (zq0 (wpAny_tupleItemsOf h1 h3 (zq0 ?_))));rw [<- Array.forIn_toList];refine hV (b:=#[]) h4 (by rw [Around.in1_units];omega) fun b hb=>?_;refine zq0 (wpAny_mkInt (zq3 (zE _ _ rfl ?_)));rw [hb];rw [tkN,hashW,<- qM] at q;exact q
theorem hV:∀{ks:List WData} {vs:List Value} {A:Around} {s:Shared} {b:Array Int} {Q:Array Int->Shared->Prop},NksIs s.heap ks vs->A.units+cV ks<cLine->
  (∀b':Array Int,b'.toList=b.toList++hashesW w.params ks->Q b' {s with toks:=s.toks+qh ks})->wpAny (model prog w) A (forIn vs b fun x r=>do let z <- pyHash x;pure PUnit.unit;pure (ForInStep.yield (r.push z))) Q E s
 |_,_,A,s,b,Q,.nil,_,q=>zq3 (q b (by rw [hashesW,qA]))
 |_,_,A,s,b,Q,.cons (k:=k) (ks:=ks) h1 h2,hu,q=>by rw [cV] at hu;rw [List.forIn_cons];refine zq0 (zq0 (jG h1 (jo (qD (Nat.le_max_left _ _) _) hu) (zq0 (zq3 (zq3 ?_)))));refine hV (s:={s with toks:=s.toks+tkN k}) h2 (jo (qD (Nat.le_max_right _ _) _) hu) fun b' hb=>?_;have z:=q b' (by rw [hb,hashesW,Array.toList_push,ux];rfl);rw [qh,<- qM] at z;exact z
end
theorem oX{x y:List WData}:((List.range (min x.length y.length)).all (fun j=>decide (x[j]?=y[j]?))&&x.length==y.length)=decide (WData.tuple x=WData.tuple y):=by
 rw [iJ,dn,zq39,oH,zq35]
 constructor
 ·rintro ⟨h,hl⟩;have e:x=y:=by
   apply List.ext_getElem?;intro j
   by_cases hj:j<x.length
   ·exact of_decide_eq_true (h j (zq46.mpr Jn))
   ·rw [qK Jn,qK Jn]
  rw [e]
 ·intro e;injection e with e;subst e;exact ⟨fun j _=>cm rfl,rfl⟩
theorem uL:∀(n:Nat){x y:WData} {v u:Value} {A:Around} {s:Shared},dpN x<=n->NkIs s.heap x v->NkIs s.heap y u->A.units+n<cLine->SeqAt.EqAt A s v u (decide (x=y)):=by
 intro n
 induction n with
 |zero=>
  intro x y v u A s hd hx hy hu
  cases hx with
  |tup=>rw [dpN] at hd;omega
  |non=>
   cases hy with
   |non=>rw [cm rfl];exact SeqAt.EqAt.same _
   |int=>rw [zq7 (fun z=>nomatch z)];exact SeqAt.EqAt.none_int _ _
   |str=>rw [zq7 (fun z=>nomatch z)];exact SeqAt.EqAt.none_str _ _
   |tup h1 h2 h3 h4=>rw [zq7 (fun z=>nomatch z)];exact SeqAt.EqAt.none_tuple (zD _ h1 h2 ⟨_,h3⟩) hu
  | @int i t=>
   cases hy with
   |non=>rw [zq7 (fun z=>nomatch z)];exact SeqAt.EqAt.int_none _ _
   | @int j _=>
    have e:decide (WData.int i=WData.int j)=(i==j):=by rw [iJ,oH,zq35];exact ⟨fun z=>by injection z,fun z=>by rw [z]⟩
    rw [e];exact SeqAt.EqAt.int_int _ _ _ _
   |str=>rw [zq7 (fun z=>nomatch z)];exact SeqAt.EqAt.int_str _ _ _ _
   |tup h1 h2 h3 h4=>rw [zq7 (fun z=>nomatch z)];exact SeqAt.EqAt.int_tuple _ _ (zD _ h1 h2 ⟨_,h3⟩) hu
  | @str i t=>
   cases hy with
   |non=>rw [zq7 (fun z=>nomatch z)];exact SeqAt.EqAt.str_none _ _
   |int=>rw [zq7 (fun z=>nomatch z)];exact SeqAt.EqAt.str_int _ _ _ _
   | @str j _=>
    have e:decide (WData.str i=WData.str j)=(i==j):=by rw [iJ,oH,zq35];exact ⟨fun z=>by injection z,fun z=>by rw [z]⟩
    rw [e];exact SeqAt.EqAt.str_str _ _ _ _
   |tup h1 h2 h3 h4=>rw [zq7 (fun z=>nomatch z)];exact SeqAt.EqAt.str_tuple _ _ (zD _ h1 h2 ⟨_,h3⟩) hu
 |succ n ih=>
  intro x y v u A s hd hx hy hu;have hu0:A.units<cLine:=by omega
  cases hx with
  |non=>exact ih (ce _) .non hy Jn
  |int=>exact ih (ce _) .int hy Jn
  |str=>exact ih (ce _) .str hy Jn
  | @tup a oa ia na xs h1 h2 h3 h4=>
   cases hy with
   |non=>rw [zq7 (fun z=>nomatch z)];exact SeqAt.EqAt.tuple_none (zD _ h1 h2 ⟨_,h3⟩) hu0
   |int=>rw [zq7 (fun z=>nomatch z)];exact SeqAt.EqAt.tuple_int _ _ (zD _ h1 h2 ⟨_,h3⟩) hu0
   |str=>rw [zq7 (fun z=>nomatch z)];exact SeqAt.EqAt.tuple_str _ _ (zD _ h1 h2 ⟨_,h3⟩) hu0
   | @tup b ob ib nb ys g1 g2 g3 g4=>
    by_cases hab:a=b
    ·subst hab;rw [cm (NkIs.inj (NkIs.tup h1 h2 h3 h4) (NkIs.tup g1 g2 g3 g4))];exact SeqAt.EqAt.same _
    ·have la:ia.size=xs.length:=by rw [<- uq,h4.length]
     have lb:ib.size=ys.length:=by rw [<- uq,g4.length]
     rw [dpN] at hd;have z:=SeqAt.RcAt.tuples (A:=A) (e:=fun j=>decide (xs[j]?=ys[j]?)) (show s.heap.IsTuple a ia from zD _ h1 h2 ⟨_,h3⟩) (show s.heap.IsTuple b ib from zD _ g1 g2 ⟨_,g3⟩) hu0 fun j j1 j2=>by
      obtain ⟨k,hk,hkv⟩:=h4.at (j:=j) (u:=ia[j]) (by rw [ur,oE j1]);obtain ⟨l,hl,hlv⟩:=g4.at (j:=j) (u:=ib[j]) (by rw [ur,oE j2]);have e:decide (xs[j]?=ys[j]?)=decide (k=l):=by rw [hk,hl,iJ,oH,oH];exact ⟨fun z=>Option.some.inj z,fun z=>by rw [z]⟩
      rw [e];exact ih (bO (eI (lK hk)) Jn) hkv hlv (by rw [Around.in1_units];omega)
     rw [la,lb,oX] at z;exact SeqAt.EqAt.of_refs hab z
theorem ny:∀(n:Nat){x:WData} {v:Value} {A:Around} {s:Shared} {Q:Bool->Shared->Prop},dpN x<=n->NkIs s.heap x v->Q true s->wpAny (model prog w) A (eqIsQuiet n v) Q E s:=by
 intro n
 induction n with
 |zero=>
  intro x v A s Q hd hx q
  cases hx with
  |tup=>rw [dpN] at hd;omega
  |non=>rw [eqIsQuiet_byValue 0 rfl];exact zq3 q
  |int=>rw [eqIsQuiet_byValue 0 rfl];exact zq3 q
  |str=>rw [eqIsQuiet_byValue 0 rfl];exact zq3 q
 |succ n ih=>
  intro x v A s Q hd hx q
  cases hx with
  |non=>rw [eqIsQuiet_byValue _ rfl];exact zq3 q
  |int=>rw [eqIsQuiet_byValue _ rfl];exact zq3 q
  |str=>rw [eqIsQuiet_byValue _ rfl];exact zq3 q
  | @tup a oa ia na xs h1 h2 h3 h4=>
   rw [dpN] at hd;have hT:s.TypeIs (.ref a) "tuple":=zA _ h1 h2
   unfold eqIsQuiet;refine zq0 (wpAny_specialOf hT F.slot_tuple_eq.lookup (zq0 (wpAny_isInstance hT isSubtype_tuple_tuple ?_)));rw [zq1 Jm];refine zq0 (wpAny_seqItems h1 h3 (zq0 ?_));show wpAny _ _ (forIn ia _ _) _ _ s;rw [<- Array.forIn_toList];refine wpAny_forIn_list _ (fun d9 r s'=>r.1=none/\s'=s/\∃left,NksIs s.heap left d9/\∀k∈left,dpN k<=n) _ ?_ ?_ _ _ (zC rfl rfl (zA xs h4 (fun k hk=>bO (eI hk) Jn)))
   ·rintro u d9 r s' ⟨hr,rfl,left,hl,hk⟩
    cases hl with
    | @cons k _ ks _ l1 l2=>refine zq0 (ih (hk k (cC ..)) l1 ?_);rw [zq1 Jm];exact zq3 (zC rfl rfl (zA ks l2 fun j hj=>hk j (bz _ hj)))
   ·rintro ⟨r1,r2⟩ s' ⟨hr,rfl,_⟩;have e:r1=none:=hr;subst e;exact zq3 q
end
def eN(prog:Program)(w:World):HeapKind prog w WData where
 is:=fun h k a=>NkIs h k (.ref a)/\dpN k<=8
 hash:=hashW w.params
 draws:=tkN
 room:=fun A=>A.units+8<cLine
 inj:=fun hx hy=>hx.1.inj hy.1
 keeps:=fun x ho hd hs=>⟨x.1.keep fun a o its n e ed=>(hs.2 a fun z=>by
  subst z;rw [ho] at e
  cases e
  rw [hd] at ed
  cases ed).trans e,x.2⟩
 pyHash:=fun hu hk h=>jG hk.1 (by have:=hk.2;omega) h
 eqBool:=fun hu hx hy h=>uL 8 hx.2 hx.1 hy.1 hu _ _ _ _ h
 quiet:=fun hk h=>ny 8 hk.2 hk.1 h
end GV
namespace L2
open PySem PySem.Spec PySem.W PyProof.Rows GV
variable {H':Hp}
mutual
inductive NkV (K:W.Frag) (H:Hp):WData->V->Prop where
 |non:NkV K H .none .non
 |int {i:Int}:NkV K H (.int i) (.int i)
 |str {x:Str}:NkV K H (.str x) (.str x)
 |tup {a:Addr} {xs:List WData} {vs:List V}:SqT K H a vs->NksV K H xs vs->NkV K H (.tuple xs) (.ref a)
inductive NksV (K:W.Frag) (H:Hp):List WData->List V->Prop where
 |nil:NksV K H [] []
 |cons {k:WData} {x:V} {ks:List WData} {xs:List V}:NkV K H k x->NksV K H ks xs->NksV K H (k::ks) (x::xs)
end
mutual
theorem NkV.keep{K:W.Frag}{H:Hp}(t:TSame H H'):∀{k:WData} {x:V},NkV K H k x->NkV K H' k x
 |_,_,.non=>.non
 |_,_,.int=>.int
 |_,_,.str=>.str
 |_,_,.tup h1 h2=>.tup (t.seqT h1) (NksV.keep t h2)
theorem NksV.keep{K:W.Frag}{H:Hp}(t:TSame H H'):∀{k:List WData} {x:List V},NksV K H k x->NksV K H' k x
 |_,_,.nil=>.nil
 |_,_,.cons h1 h2=>.cons (NkV.keep t h1) (NksV.keep t h2)
end
theorem NksV.of{K:W.Frag}{H:Hp}{α:Type}{f:α->WData}{g:α->V}:∀{l:List α},(∀x∈l,NkV K H (f x) (g x))->NksV K H (l.map f) (l.map g)
 | [],_=>.nil
 |x::l,h=>.cons (h x (cC ..)) (NksV.of fun y hy=>h y (bz _ hy))
section
variable {X:Cx} {pins:List (Addr×Obj)} {σ:St} {H:Hp} {s:Shared}
mutual
theorem NkV.is(I:Inv X pins σ H s):∀{k:WData} {x:V} {u:Value},NkV X.K H k x->RelV x u->NkIs s.heap k u
 |_,_,_,.non,r=>by cases r;exact .non
 |_,_,_,.int,r=>by obtain ⟨t,rfl⟩:=r;exact .int
 |_,_,_,.str,r=>by obtain ⟨t,rfl⟩:=r;exact .str
 |_,_,_,.tup h1 h2,r=>by
  cases r
  obtain ⟨its,rv,⟨o,e1,e2,n,e3⟩,_⟩:=I.tuple h1;exact .tup e1 e2 e3 (NksV.is I h2 (by simpa using rv))
theorem NksV.is(I:Inv X pins σ H s):∀{k:List WData} {x:List V} {u:List Value},NksV X.K H k x->Vals x u->NksIs s.heap k u
 |_,_,_,.nil,r=>by cases r;exact .nil
 |_,_,_,.cons h1 h2,r=>by
  cases r with
  |cons r1 r2=>exact .cons (NkV.is I h1 r1) (NksV.is I h2 r2)
end
end
def eG(pr:Params)(d:Addr)(es:List (WData×Addr×V)):HO:=.ext fun h=>es.length<=sizeLine/\(d==sysModules)=false/\∃(xs:List (WData×Addr×Value)) (o:Obj) (en:Array DictEntry) (ep:Nat),
 Paired (fun (p:WData×Addr×V) (q:WData×Addr×Value)=>p.1=q.1/\p.2.1=q.2.1/\RelV p.2.2 q.2.2) es xs/\h.get? d=some o/\o.ExactDict/\o.data=.dict en ep/\en.toList=xs.map (fun x=>(⟨hashW pr x.1,.ref x.2.1,x.2.2⟩:DictEntry))/\(xs.map (·.1)).Nodup
def DnAt(pr:Params)(K:W.Frag)(H:Hp)(d:Addr)(kvs:List (WData×V)):Prop:=∃es:List (WData×Addr×V),H d=some (eG pr d es)/\kvs=es.map (fun p=>(p.1,p.2.2))/\∀p∈es,NkV K H p.1 (.ref p.2.1)/\dpN p.1<=8
theorem DnAt.same{pr:Params}{K:W.Frag}{H:Hp}{d:Addr}{kvs:List (WData×V)}(h:DnAt pr K H d kvs)(s:Same H H'):DnAt pr K H' d kvs:=by obtain ⟨es,h1,h2,h3⟩:=h;exact zD es (s _ _ h1) h2 fun p hp=>⟨(h3 p hp).1.keep s.ts,(h3 p hp).2⟩
section
variable {X:Cx} {pins:List (Addr×Obj)} {σ:St} {H:Hp} {s:Shared} {d:Addr} {kvs:List (WData×V)} {es:List (WData×Addr×V)}
abbrev DnR (kv:WData×V) (x:WData×Addr×Value):Prop:=kv.1=x.1/\RelV kv.2 x.2.2
theorem iS{xs:List (WData×Addr×Value)}:∀{es:List (WData×Addr×V)} {xs:List (WData×Addr×Value)},Paired (fun (p:WData×Addr×V) (q:WData×Addr×Value)=>p.1=q.1/\p.2.1=q.2.1/\RelV p.2.2 q.2.2) es xs->Paired DnR (es.map fun p=>(p.1,p.2.2)) xs
 |_,_,.nil=>.nil
 |_,_,.cons h t=>.cons ⟨h.1,h.2.2⟩ (iS (xs:=xs) t)
theorem jC:∀{es:List (WData×Addr×V)} {xs:List (WData×Addr×Value)},Paired (fun (p:WData×Addr×V) (q:WData×Addr×Value)=>p.1=q.1/\p.2.1=q.2.1/\RelV p.2.2 q.2.2) es xs->∀q∈xs,∃p∈es,p.1=q.1/\p.2.1=q.2.1
 |_,_,.nil=>fun q h=>by cases h
 |_,_,.cons h t=>fun q hq=>by
  rcases zq8.mp hq with rfl | hq
  ·exact zD _ (cC ..) h.1 h.2.1
  ·obtain ⟨p,hp,e⟩:=jC t q hq;exact zA p (bz _ hp) e
theorem gv:∀{kvs:List (WData×V)} {xs:List (WData×Addr×Value)} (k:WData),Paired DnR kvs xs->RelO (aN kvs k) ((atKey xs k).map (·.2))
 |_,_,k,.nil=>trivial
 |_,_,k,.cons (a:=a) (b:=b) (l₂:=l) h t=>by
  by_cases e:a.1=k
  ·rw [aQ e,show atKey (b::l) k=some b.2 by simp [atKey,List.find?_cons,<- h.1,e]];exact h.2
  ·rw [aP e,show atKey (b::l) k=atKey l k by simp [atKey,List.find?_cons,<- h.1,e]];exact gv k t
theorem mf(I:Inv X pins σ H s)(h1:H d=some (eG X.w.params d es))(h3:∀p∈es,NkV X.K H p.1 (.ref p.2.1)/\dpN p.1<=8):es.length<=sizeLine/\(d==sysModules)=false/\∃xs,Paired (fun (p:WData×Addr×V) (q:WData×Addr×Value)=>p.1=q.1/\p.2.1=q.2.1/\RelV p.2.2 q.2.2) es xs/\s.heap.DictOfH (eN X.prog X.w) d xs:=by obtain ⟨⟨z,hd,xs,o,en,ep,rel,e1,e2,e3,e4,e5⟩,_⟩:=I.hok d _ h1;refine zC z hd (zA xs rel (zO o en ep (zI e1 e2 e3 e4 (fun x hx=>?_) e5)));obtain ⟨p,hp,ek,ea⟩:=jC rel x hx;obtain ⟨hk,hd8⟩:=h3 p hp;rw [<- ek,<- ea];exact ⟨hk.is I rfl,hd8⟩
theorem qP(I:Inv X pins σ H s)(h:DnAt X.w.params X.K H d kvs):kvs.length<=sizeLine/\(d==sysModules)=false/\∃xs,Paired DnR kvs xs/\s.heap.DictOfH (eN X.prog X.w) d xs:=by obtain ⟨es,h1,rfl,h3⟩:=h;obtain ⟨z,hd,xs,rel,dd⟩:=mf I h1 h3;exact zC (by rw [ck];exact z) hd (zA xs (iS (xs:=xs) rel) dd)
theorem fV{α β:Type}{F:α->β->Prop}{a:α}{b:β}(hf:F a b):∀{l:List α} {m:List β},Paired F l m->Paired F (l++[a]) (m++[b])
 |_,_,.nil=>.cons hf .nil
 |_,_,.cons h t=>.cons h (fV hf t)
end
section
variable {X:Cx}
theorem gu{A:Around}(hu:A.units+9<cLine):A.in1.units+8<cLine:=by rw [Around.in1_units];omega
def nX(pr:Params):TE:=fun _ H Q=>∀p,H p=none->Q (.ref p) (upd H p (eG pr p []))
theorem jD{pr:Params}{d:Addr}{es:List (WData×Addr×V)}{φ:Heap->Prop}(e:eG pr d es=.ext φ):∀h1 h2:Heap,φ h1->(∀o,h1.get? d=some o->h2.get? d=some o)->φ h2:=by
 unfold eG at e
 cases e
 rintro h1 h2 ⟨z,hd,xs,o,en,ep,rel,e1,r⟩ k;exact zC z hd (zS xs o en ep (zC rel (k _ e1) r))
theorem lD{pos:Pos}:XE X (.Dict [] [] pos) (nX X.w.params):=⟨fun pins s σ H Q I h=>
 wpAny_Dict_empty ⟨.ref s.heap.objs.size,_,I.laid (a:=s.heap.objs.size) (o:=eG X.w.params s.heap.objs.size []) (t':=s.toks) (fun _ _ q=>zq9 _ q) (zq4 _)
  (zC (zC (ce _) (beq_eq_false_iff_ne.mpr (Ne.symm (bU I.big))) (zW ([]) _ (#[]) 0 .nil (bV _ rfl) (zC rfl rfl rfl) rfl rfl List.nodup_nil)) ⟨_,bV _ rfl⟩ (jD rfl)),rfl,h _ (I.hok.fresh (zq4 _))⟩⟩
theorem pR{pr:Params}{σ:St}{H:Hp}{Q:VK}:nX pr σ H Q=∀p,H p=none->Q (.ref p) (upd H p (eG pr p [])):=rfl
theorem DnAt.new{pr:Params}{K:W.Frag}{H:Hp}{p:Addr}:DnAt pr K (upd H p (eG pr p [])) p []:=zD ([]) ac rfl (fun p hp=>by cases hp)
def nV(pr:Params)(K:W.Frag)(td tk:TE):TE:=fun σ H Q=>td σ H fun x H1=>tk σ H1 fun y H2=>∃(d b:Addr)(kvs:List (WData×V)) (k:WData) (v:V),x=.ref d/\y=.ref b/\DnAt pr K H2 d kvs/\NkV K H2 k (.ref b)/\dpN k<=8/\aN kvs k=some v/\Q v H2
theorem g6{o i:Expr}{pos:Pos}{td tk:TE}(hu:X.A.units+9<cLine)(ho:XE X o td)(hi:XE X i tk)(hs:rM i):XE X (.Subscript o i pos) (nV X.w.params X.K td tk):=⟨by
 intro pins s σ H Q I h;refine kf PySem.F.slot_dict_getitem.lookup hs (thn (ho.h pins s σ H _ I h) fun u s1 ⟨x,H1,I1,rx,q1⟩=>thn (hi.h pins s1 σ H1 _ I1 q1) fun iv s2 hhx=>?_);obtain ⟨y,H2,I2,ry,d,b,kvs,k,v,ex,ey,hD,hk,hk8,hv,q2⟩:=hhx;subst ex ey
 cases rx
 cases ry
 obtain ⟨z,hd,xs,rel,dd⟩:=qP I2 hD;have rk:=gv k rel;rw [hv] at rk
 cases hp:atKey xs k with
 |none=>rw [hp] at rk;exact rk.elim
 |some p=>rw [hp] at rk;exact ⟨dd.typeIs,wpAny_getItem_heap (knd:=eN X.prog X.w) (gu hu) ⟨hk.is I2 rfl,hk8⟩ dd hp (zB v H2 (I2.tok _) rk q2)⟩⟩
theorem pP{pr:Params}{K:W.Frag}{td tk:TE}{σ:St}{H:Hp}{Q:VK}:nV pr K td tk σ H Q=td σ H fun x H1=>tk σ H1 fun y H2=>∃(d b:Addr)(kvs:List (WData×V)) (k:WData) (v:V),x=.ref d/\y=.ref b/\DnAt pr K H2 d kvs/\NkV K H2 k (.ref b)/\dpN k<=8/\aN kvs k=some v/\Q v H2:=rfl
end
end L2
section
open PySem PySem.Spec PyProof.Rows
namespace L2
theorem ji{prog:Program}{w:World}{A:Around}{E:Value->Shared->Prop}{s:Shared}{p q:Addr}{xs ys:Array Value}{Q:Value->Shared->Prop}(hp:s.heap.IsTuple p xs)(hq:s.heap.IsTuple q ys)(hz:xs.size=ys.size)(hu:A.units<cLine)
  (he:∀z∈xs.toList.zip ys.toList,∀(E':Value->Shared->Prop)(Q':Bool->Shared->Prop),Q' true s->wpAny (model prog w) A.in1 (eqBool z.1 z.2) Q' E' s) (h:Q (.bool true) s) :
  wpAny (model prog w) A (compareOp .Eq (.ref p) (.ref q)) Q E s:=by
 refine wpAny_richCompare_same_room (op:=.Eq) hp.typeIs hq.typeIs F.slot_tuple_eq (wpAny_call_entry F.slot_tuple_eq hp.typeIs F.entry_tuple_eq ?_ (F.args_tuple_eq_2 _ _)) hu;rcases hp with ⟨⟨c1,d1,a1,s1⟩,g1,e1,m1,f1⟩;rcases hq with ⟨⟨c2,d2,a2,s2⟩,g2,e2,m2,f2⟩;dsimp only at e1 f1 e2 f2;subst e1 f1 e2 f2;obtain ⟨hh,gg,dd,tk,os⟩:=s;have ft:=AutoSeq1.sub_tuple_tuple
 wp_walk using AutoSeq1.wpAny_loadPart' g1,AutoSeq1.wpAny_loadPart' g2,wpAny_forIn_list _ (fun d9 b s'=>b.1=none/\s'=⟨hh,gg,dd,tk,os⟩/\∀z∈d9,∀(E':Value->Shared->Prop)(Q':Bool->Shared->Prop),Q' true ⟨hh,gg,dd,tk,os⟩->wpAny (model prog w) A.in1 (eqBool z.1 z.2) Q' E' ⟨hh,gg,dd,tk,os⟩) _
 case turn=>
  rintro z d9 b s' ⟨hb,rfl,hr⟩;refine zq0 (hr z (cC ..) _ _ ?_)
  wp_walk
  exact zC rfl rfl fun y hy=>hr y (bz _ hy)
 case fin=>
  rintro ⟨b1,b2⟩ s' ⟨hb,rfl,_⟩;dsimp only at hb;subst hb
  wp_walk
  exact zA _ rfl (by simpa [Builtin.Tuple.tupleCompareSizes,bne,hz] using h)
 case h=>exact zC rfl rfl he
section
variable {X:Cx}
end
end L2
namespace L2
variable {H:Hp} {T e:Addr}
structure Trc(h:Heap)(e T:Addr)(cls:Value):Prop where
 ex:∃oe vs,h.get? e=some oe/\oe.cls=cls/\oe.data=.fields vs/\vs[1]?=some (.ref T)/\oe.dict=none
 ne:T≠e
 tr:∃oT ts,h.get? T=some oT/\oT.data=.fields ts/\ts[3]?=some .none
structure Ntd(h h':Heap)(e T:Addr)(fr:List Addr):Prop where
 keep:∀b o,h.get? b=some o->b≠e->b≠T->b∉fr->h'.get? b=some o
 slot:∀b o,h.get? b=some o->b∈fr->∃sl,h'.get? b=some {o with slots:=sl}
theorem ma(o:Obj)(f):(o.mapFields f).dict=o.dict:=by obtain ⟨c,d,dt,sl⟩:=o;cases dt<;>rfl
section
variable {M:Model} {A:Around} {E:Value->Shared->Prop} {s:Shared}
theorem eR{env:Env}{outer:List Env}{base:Heap}{L e:Addr}{oe:Obj}{vs:Array Value}{head:Value}{hn:Bool}{Q:Unit->Shared->Prop}(hfr:A.frames=some (env::outer))(hl:s.heap.FunFrames base (env::outer))(hf:env.frame=some L)
  (he:s.heap.get? e=some oe) (hx:oe.dict=none) (hd:oe.data=.fields vs) (hz:1<vs.size) (h:∀h' T,Ntd s.heap h' e e (frs (env::outer))->Trc h' e T oe.cls->s.heap.get? T=none->Q () {s with heap:=h'}) :
  wpAny M A (do let a <- frameOf env;let pl <- entryPlaceOf L hn;let b <- EntryCells.newEntry head a .none (rawInt L) .none pl;setField (.ref e) 1 b) (fun _ s'=>wpAny M A (setFlight (.ref e) none) Q E s') E s:=by
 have nofr:∀b∈frs (env::outer),b≠e:=fun b hb z=>by obtain ⟨_,o,ho,hnf⟩:=hl.mem (z ▸ hb);rw [he] at ho;cases ho;exact hnf vs hd
 refine zq0 (wpAny_frameOf_fun hfr hl hf fun h1 hs=>zq0 (wpAny_entryPlaceOf fun pl hpl=>?_));have he1:h1.get? e=some oe:=(hs.2.1 e fun z=>nofr e z rfl).trans he;unfold EntryCells.newEntry newFields;refine zq0 (wpAny_newObj_type ?_ (hpl.sizeOk5 _ _ _ _ _));generalize ho:({cls:=.type "traceback",dict:=none,data:=.fields ([head,.ref L,.none,rawInt L,.none]++(if pl.isEmpty then List.replicate 6 Value.none else pl)).toArray}:Obj)=ot;have hto:∃ts,ot.data=.fields ts/\3<ts.size:=zA _ (by rw [<- ho]) (by simp only [List.size_toArray,List.length_append,List.length_cons,List.length_nil];omega)
 have hfo:ot.isFreed=false:=by rw [<- ho];rfl
 clear ho;obtain ⟨ts,hdt,hts⟩:=hto;generalize hT:h1.objs.size=T;have nT:h1.get? T=none:=hT ▸ uj (zq4 _);have hTe:T≠e:=fun z=>by rw [z,he1] at nT;cases nT
 have gT:(h1.push ot).get? T=some ot:=hT ▸ bV h1 hfo;refine wpAny_setField (zq9 ot he1) hd hz ?_;have hd3:=Obj.data_mapFields hd (·.setIfInBounds 1 (Value.ref T));have he3:=oC (Obj.mapFields (·.setIfInBounds 1 (Value.ref T))) (zq9 ot he1) (Obj.isFreed_of_fields hd3);have hT3:=(fk (h1.push ot) (Obj.mapFields (·.setIfInBounds 1 (Value.ref T))) (Ne.symm hTe)).trans gT;refine wpAny_setFlight_none he3 hd3 (by simp [hz]) hT3 hdt hts (h _ T ⟨fun b o q n1 _ n3=>?_,fun b o q m=>?_⟩ ⟨zP _ _ ((fk _ _ hTe).trans he3) (Obj.cls_mapFields _ _) hd3 (by simp [hz]) ((ma _ _).trans hx),hTe,_,_,oC _ hT3 (Obj.isFreed_of_fields (Obj.data_mapFields hdt _)),Obj.data_mapFields hdt _,by simp [hts]⟩ ?_)
 ·have q1:h1.get? b=some o:=(hs.2.1 b n3).trans q;have nb:T≠b:=fun z=>by rw [<- z,nT] at q1;cases q1
  rw [fk _ _ nb,fk _ _ (Ne.symm n1)];exact zq9 _ q1
 ·obtain ⟨sl,q1⟩:=hs.2.2 b o q;have nb:T≠b:=fun z=>by rw [<- z,nT] at q1;cases q1
  refine ⟨sl,?_⟩;rw [fk _ _ nb,fk _ _ (Ne.symm (nofr b m))];exact zq9 _ q1
 ·cases q:s.heap.get? T with
  |none=>rfl
  |some o=>obtain ⟨sl,q1⟩:=hs.2.2 T o q;rw [nT] at q1;cases q1
theorem j0{env:Env}{outer:List Env}{base:Heap}{L:Addr}{oe:Obj}{vs:Array Value}{Q:Unit->Shared->Prop}(hfr:A.frames=some (env::outer))(hl:s.heap.FunFrames base (env::outer))(hf:env.frame=some L)
 (he:s.heap.get? e=some oe) (hx:oe.dict=none) (hd:oe.data=.fields vs) (h1:vs[1]?=some .none)
 (h:∀h' T,Ntd s.heap h' e e (frs (env::outer))->Trc h' e T oe.cls->s.heap.get? T=none->Q () {s with heap:=h'}):wpAny M A (leaving env (.ref e)) Q E s:=by
 unfold leaving noteFrame;simp only [hf];refine zq0 (zq0 (wpAny_field he hd h1 ?_));rw [zq1 Jm];exact eR hfr hl hf he hx hd (zq80.mp h1).1 h
theorem kS{env:Env}{outer:List Env}{base:Heap}{L:Addr}{cls:Value}{Q:Unit->Shared->Prop}(hfr:A.frames=some (env::outer))(hl:s.heap.FunFrames base (env::outer))(hf:env.frame=some L)
 (ht:Trc s.heap e T cls) (h:∀h' T',Ntd s.heap h' e T (frs (env::outer))->Trc h' e T' cls->(s.heap.get? T'=none\/T'=T)->Q () {s with heap:=h'}):wpAny M A (noteFrame (.ref e) env) (fun _ s₁=>wpAny M A (setFlight (.ref e) none) Q E s₁) E s:=by
 obtain ⟨⟨oe,vs,he,rfl,hd,h1,hx⟩,hTe,oT,ts,hT,hdT,h3⟩:=id ht;unfold noteFrame;simp only [hf];refine zq0 (wpAny_field he hd h1 ?_);rw [zq2 (show (Value.ref T != Value.none)=true from by simp)];refine zq0 (wpAny_field hT hdT h3 ?_);rw [zq1 (show ¬((Value.none==rawInt L)=true) from by simp [rawInt])];refine zq0 (wpAny_setField hT hdT (zq80.mp h3).1 ?_);have other:∀b,b≠T->(s.heap.update T (Obj.mapFields (·.setIfInBounds 3 Value.none))).get? b=s.heap.get? b:=fun b hb=>fk _ _ (Ne.symm hb);have noRecord:∀b o,s.heap.get? b=some o->(∀vs,o.data≠.fields vs)->b≠T:=fun b o hb hnf q=>by rw [q,hT] at hb;injection hb with hb;subst hb;exact hnf ts hdT
 refine eR (s:={s with heap:=s.heap.update T (Obj.mapFields (·.setIfInBounds 3 Value.none))}) (base:=base) hfr (hl.of_keeps fun b o hb hnf=>zA o ((other b (noRecord b o hb hnf)).trans hb) rfl) hf ((other e (Ne.symm hTe)).trans he) hx hd (zq80.mp h1).1 fun h' T' n t nT=>h h' T' ⟨fun b o q n1 n2 n3=>n.keep b o ((other b n2).trans q) n1 n1 n3,fun b o q m=>n.slot b o ((other b ?_).trans q) m⟩ t (.inl ?_)
 ·obtain ⟨_,o2,h2,h3⟩:=hl.mem m;exact noRecord b o2 h2 h3
 ·by_cases z:T'=T
  ·rw [z] at nT;have:=oC (Obj.mapFields (·.setIfInBounds 3 Value.none)) hT (Obj.isFreed_of_fields (Obj.data_mapFields hdT _));rw [this] at nT;cases nT
  ·exact (other T' z).symm.trans nT
end
structure Fly(H:Hp)(h0 h:Heap)(e T:Addr)(cls:Value):Prop where
 trc:Trc h e T cls
 fe:H e=none
 fT:H T=none
 ne:h0.get? e=none
 nT:h0.get? T=none
def CX1(P:Program)(w:World):CXT:=fun outer H s E e s'=>∃(ea T:Addr)(cls:Value)(H':Hp),e=.ref ea/\s'.os=s.os/\AllBare s'.gens/\Un (frs outer) [] H H' s.heap s'.heap/\HOk P w H' s'.heap/\Fly H' s.heap s'.heap ea T cls/\E cls none H'
theorem HOk.ntd{P:Program}{w:World}{h h':Heap}{fr:List Addr}(x:HOk P w H h)(n:Ntd h h' e T fr)(fe:H e=none)(fT:H T=none)(ff:∀b∈fr,H b=none):HOk P w H h':=fun a o q=>
 (x a o q).stay (fun c v hc hq=>by
  have tr:∃u,H c=some u:=hc.elim (fun z=>⟨o,by rw [z];exact q⟩) fun z=>⟨_,z⟩
  obtain ⟨u,hu⟩:=tr;exact n.keep c v hq (fun z=>by rw [z,fe] at hu;cases hu) (fun z=>by rw [z,fT] at hu;cases hu) fun z=>by rw [ff c z] at hu;cases hu) (fun _ q=>q) fun _ _ q=>q
theorem Un.ntd{fs fr:List Addr}{H0:Hp}{h0 h h':Heap}(u:Un fs [] H0 H h0 h)(n:Ntd h h' e T fr)(ne:h0.get? e=none)(nT:h0.get? T=none)(hfr:∀b∈fr,b∈fs\/h0.get? b=none):Un fs [] H0 H h0 h' where
 keep:=fun b o q m hb he=>n.keep b o (u.keep b o q m hb he) (fun z=>by rw [z,ne] at q;cases q) (fun z=>by rw [z,nT] at q;cases q) fun z=>by
  rcases hfr b z with z | z
  ·exact hb z
  ·rw [z] at q;cases q
 slot:=fun b o q m hb he=>by
  obtain ⟨sl,e1⟩:=u.slot b o q m hb he
  by_cases hz:b∈fr
  ·obtain ⟨sl',e2⟩:=n.slot b _ e1 hz;exact ⟨sl',e2⟩
  ·exact ⟨sl,n.keep b _ e1 (fun z=>by rw [z,ne] at q;cases q) (fun z=>by rw [z,nT] at q;cases q) hz⟩
 free:=u.free
 there:=fun b o q he=>by
  obtain ⟨o',e1⟩:=u.there b o q he
  by_cases hz:b∈fr
  ·obtain ⟨sl',e2⟩:=n.slot b _ e1 hz;exact ⟨_,e2⟩
  ·exact ⟨o',n.keep b _ e1 (fun z=>by rw [z,ne] at q;cases q) (fun z=>by rw [z,nT] at q;cases q) hz⟩
 tups:=u.tups
 frzs:=u.frzs
 tbls:=u.tbls
theorem dA{fs ex:List Addr}{H0:Hp}{h0 h:Heap}{b:Addr}(u:Un fs ex H0 H h0 h)(hx:b∉ex)(e:h.get? b=none):h0.get? b=none:=by
 cases q:h0.get? b with
 |none=>rfl
 |some o=>obtain ⟨o',e1⟩:=u.there b o q hx;rw [e] at e1;cases e1
theorem ObjOk.is{P:Program}{w:World}{h:Heap}{a:Addr}{o:HO}(x:ObjOk P w H h a o):∃u,h.get? a=some u:=by
 induction o with
 |lst xs=>obtain ⟨z,its,n,r,e⟩:=x;exact ⟨_,e⟩
 |tup xs=>obtain ⟨z,its,r,ob,e,c⟩:=x;exact ⟨_,e⟩
 |dK kvs=>obtain ⟨z,y,vs,r,ob,es,ep,e,c⟩:=x;exact ⟨_,e⟩
 |dT kvs=>obtain ⟨z,y,xs,r,ob,es,ep,e,c⟩:=x;exact ⟨_,e⟩
 |set S n=>obtain ⟨ob,es,ep,t,e,c⟩:=x;exact ⟨_,e⟩
 |ins C dx fs=>obtain ⟨d,z,ne,e,mA,⟨od,es,ep,e2,c⟩,r⟩:=x;exact ⟨_,e⟩
 |own y=>obtain ⟨ob,e⟩:=x;exact ⟨_,e⟩
 |xd fs=>obtain ⟨mA,⟨od,es,ep,e,c⟩,r⟩:=x;exact ⟨_,e⟩
 |rng lo hi=>obtain ⟨t,u,v,e⟩:=x;exact ⟨_,e⟩
 |frz ob u ih=>obtain ⟨e,q⟩:=x;exact ⟨_,e⟩
 |tbl ps=>exact ⟨_,x⟩
 |met f y=>exact ⟨_,x⟩
 |ext φ=>obtain ⟨p,⟨o,e⟩,st⟩:=x;exact ⟨_,e⟩
theorem dr{P:Program}{w:World}{h:Heap}{b:Addr}(x:HOk P w H h)(e:h.get? b=none):H b=none:=by
 cases q:H b with
 |none=>rfl
 |some o=>obtain ⟨u,hu⟩:=(x b o q).is;rw [e] at hu;cases hu
def gh(X:Cx)(E:XK):Prop:=∀(pins:List (Addr×Obj)) (σ:St) (H:Hp) (s:Shared) (h':Heap) (e:Addr) (cls:Value) (args:List Value),Inv X pins σ H s->Heap.MadeExcOf s.heap h' e cls args->E cls none H->X.xe (.ref e) {s with heap:=h'}
section
variable {P:Program} {w:World} {K:W.Frag} {mg:Str->Option Value} {base:Heap} {N:List Str} {qual:Str} {scope:Scope} {f:Addr} {cd:Value} {A:Around} {outer:List Env} {s0:Shared} {H0:Hp} {E:XK}
theorem m7{pins:List (Addr×Obj)}{σ:St}{H:Hp}{s:Shared}{h h':Heap}{e T T':Addr}{cls:Value}(I:Inv (cL (CX1 P w) P w K mg base N qual scope f cd A outer s0 H0 E) pins σ H s)
  (u:Un (frs outer) [] H0 H s0.heap h) (hok:HOk P w H h) (n:Ntd h h' e T (s0.heap.objs.size::frs outer)) (t:Trc h' e T' cls) (fe:H e=none) (fT:H T=none) (fT':H T'=none) (ne:s0.heap.get? e=none) (nT:s0.heap.get? T=none) (nT':s0.heap.get? T'=none) (g:Array GenState) (hg:AllBare g) (d:Drawn) (tk:Nat) (hE:E cls none H) :
  CX1 P w outer H0 s0 E (.ref e) {heap:=h',gens:=g,drawn:=d,toks:=tk,os:=s.os}:=by
 have hn:s0.heap.get? s0.heap.objs.size=none:=uj (zq4 _);refine zS e T' cls H (zU rfl I.os hg (u.ntd n ne nT fun b hb=>?_) (hok.ntd n fe fT fun b hb=>?_) ⟨t,fe,fT',ne,nT'⟩ hE)
 ·rcases zq8.mp hb with z | z
  ·exact .inr (by rw [z];exact hn)
  ·exact .inl z
 ·rcases zq8.mp hb with z | z
  ·rw [z];exact I.free
  ·exact I.stkFree b (bz _ z)
theorem nI:gh (cL (CX1 P w) P w K mg base N qual scope f cd A outer s0 H0 E) E:=by intro pins σ H s h' e cls args I hx hE;obtain ⟨t,he,ht,hta⟩:=hx.there;have hke:=hx.keeps;have I2:=I.kept (t':=s.toks) hke;show wpAny (model P w) _ (leaving _ (.ref e)) _ _ {s with heap:=h'};refine j0 I2.ok.frames I2.stack rfl he rfl rfl rfl fun h2 T n tr hT=>?_;have n':Ntd h' h2 e e (s0.heap.objs.size::frs outer):=n;have fe:H e=none:=dr I.hok hx.new;have ne:s0.heap.get? e=none:=dA I.base (by intro z;cases z) hx.new;exact m7 I I2.base I2.hok n' tr fe fe (dr I2.hok hT) ne ne (dA I2.base (by intro z;cases z) hT) _ I.bare _ _ hE
end
end L2
namespace L2
abbrev bmV:List Value:=[.type "ValueError",.type "Exception",.type "BaseException",.type "object"]
theorem oY{K:W.Frag}{h:Heap}{C:Addr}{bmB:List Value}{newId:String}(X:K.In h)(q:W.excIn K C bmB newId=true):
  ∃bm N nm qn bs hdct sn sub ab col dd k0 k1 k2 k3 k5 mN,h.get? C=some (excClassObj nm qn C N bs bm hdct sn sub ab col dd k0 k1 k2 k3 k5 newId)/\h.Ns N mN/\mN "__init__"=none/\OwnTail h bmB bm:=by
 unfold W.excIn at q
 split at q
 ·rename_i dd cd sl ho
  split at q
  ·rename_i C' bm k0 k1 k2 k3 n k5 hm hs
   simp only [Bool.and_eq_true,beq_iff_eq,Bool.not_eq_true'] at q;obtain ⟨⟨⟨⟨⟨rfl,rfl⟩,hdel⟩,ht⟩,hok⟩,hni⟩:=q;obtain ⟨nm,bs,mro,ns,qn,hd,sn,sub,ab,col,del⟩:=cd;dsimp only at hm hdel hok hni;subst hm hdel;have hsl:sl=#[k0,k1,k2,k3,some (.builtin n),k5]:=by obtain ⟨l⟩:=sl;simp only at hs;rw [hs]
   subst hsl;exact ⟨bm,ns,nm,qn,bs,hd,sn,sub,ab,col,dd,k0,k1,k2,k3,k5,_,X _ _ ho,.of_isNs (W.isNs_of_in X hok),W.nsMap_none_of_in X hok hni,W.tail_of_in X ht⟩
  ·cases q
 ·cases q
variable {X:Cx}
def jh(E:XK)(C:Addr)(t:TA):TS:=fun D σ H=>t σ H fun vs H1=>vs.length<=sizeLine/\E (.ref C) none H1
theorem nk{E:XK}{x:Str}{C:Addr}{e:Expr}{es:List Expr}{t:TA}{np cpos pos:Pos}(rt:gh X E)(hc:X.calm=true)(hm:X.mg x=some (.ref C))(q:W.excIn X.K C bmV "ValueError.__new__"=true) (ha:PA X (e::es) t) (hg:Gl X x)
  (hdb:(x==("__debug__":Str))=false:=by kernel_rfl) (he:starEach (e::es) X.env=(false,eval e X.env)::starEach es X.env:=by rfl) (hpl:(backTo cpos (starEach es X.env)).any (·.1)=false:=by rfl) :
  PS X (.Raise (some (.Call (.Name x np) (e::es) [] cpos)) none pos) (jh E C t):=by
 intro pins s σ H D I h;obtain ⟨tl,N,nm,qn,bs,hdct,sn,sub,ab,col,dd,k0,k1,k2,k3,k5,mN,hC,hN,hni,T⟩:=oY I.mod.kin q;have FB:=PySem.F.excBase_ValueError;refine wpAny_Raise_call_subT (C:=C) (nm:=nm) (q:=qn) (N:=N) (bs:=bs) (bm:=tl) (hdct:=hdct) (sn:=sn) (sub:=sub) (ab:=ab) (col:=col) (dd:=dd) (k0:=k0) (k1:=k1) (k2:=k2) (k3:=k3) (k5:=k5)
  FB (mN:=mN) (T.hasType FB.hasBase) (I.ok.hd hc) (by rw [he];show (false || (backTo cpos (starEach es X.env)).any (·.1))=false;rw [hpl];rfl) hni (d7 I hg hm ⟨rfl,?_⟩ hdb)
 have hp:=ha cpos pins s σ H _ I h;rw [he] at hp ⊢;refine Calls.evalArgs_plain (cD hp (fun us s₂ ⟨vs,H2,I2,r,hl,hE⟩=>zI rfl (by rw [<- r.length];exact hl) (I2.bk _ _ hC) (hN.keeps I2.bk) (T.keeps I2.bk) fun h' e' hx=>rt pins σ H2 s₂ h' e' (.ref C) us I2 hx hE) fun _ _ y=>y)
def dS(a:Addr)(cls:Value):HO:=.ext fun h=>∃o,h.get? a=some o/\o.cls=cls/\o.dict=none/\∃vs,o.data=.fields vs
theorem Un.track{P:Program}{w:World}{fs:List Addr}{H0 H:Hp}{h0 h:Heap}{e:Addr}{o:HO}(u:Un fs [] H0 H h0 h)(ne:h0.get? e=none)(hok:HOk P w H0 h0):Un fs [] H0 (upd H e o) h0 h:=by
 have n1:∀b u,h0.get? b=some u->b≠e:=fun b u q z=>by rw [z,ne] at q;cases q
 have n2:∀b u,H0 b=some u->b≠e:=fun b u q z=>by obtain ⟨v,hv⟩:=(hok b u q).is;exact n1 b v hv z
 exact ⟨u.keep,u.slot,fun b ob q n hx=>by rw [aj (n1 b ob q)];exact u.free b ob q n hx,u.there,fun b xs q=>by rw [aj (n2 b _ q)];exact u.tups b xs q,fun b ob xs q=>by rw [aj (n2 b _ q)];exact u.frzs b ob xs q,fun b ps q=>by rw [aj (n2 b _ q)];exact u.tbls b ps q⟩
theorem HOk.track{P:Program}{w:World}{H:Hp}{h:Heap}{e:Addr}{o:HO}(x:HOk P w H h)(fe:H e=none)(new:ObjOk P w (upd H e o) h e o):HOk P w (upd H e o) h:=fun b u q=>by
 by_cases hb:b=e
 ·subst hb;rw [ac] at q;cases q;exact new
 ·rw [aj hb] at q;exact (x b u q).stay (fun _ _ _ z=>z) (fun c z=>by rw [aj (am z fe)];exact z) fun c xs z=>by rw [aj (am z fe)];exact z
theorem iU{h:Heap}{T:Addr}{oT:Obj}{ts:Array Value}(hT:h.get? T=some oT)(hd:oT.data=.fields ts)(e:Addr):Ntd h (h.update T (Obj.mapFields (·.setIfInBounds 3 .none))) e T []:=
 ⟨fun b o q _ n _=>(fk _ _ (Ne.symm n)).trans q,fun _ _ _ z=>nomatch z⟩
def tY(K:W.Frag)(sp:Sp)(C:Addr)(i j k:Nat)(t:TA):TS:=fun D σ H=>t σ H fun vs H1=>sp vs H1 (fun v H2=>D.nx (σ.set i (some v)) H2) (fun cls _ H2=>W.exmOne K cls (.ref C)=some true/\∀ea:Addr,H2 ea=none->D.nx ((σ.set j (some (.ref ea))).set k none) (upd H2 ea (dS ea cls)))
theorem pM{kk:Nat}{f C:Addr}{fd:FuncData}{ps:List Str}{sp:Sp}{x y n c fx:Str}{st:Stmt}{i j k:Nat}{e:Expr}{es:List Expr}{t:TA}{px pf pc pa pcn py pn pb ph pos:Pos}(D0:ba X.K X.mg fx st ps f fd)(G:FnOk X.prog X.w X.K X.mg X.base (CX1 X.prog X.w) kk f fd ps sp)(hr:Room kk X.A)
  (ha:PA X.nox (e::es) t) (hg:Gl X fx) (hN:X.N.Nodup) (hi:X.N[i]?=some x) (hx:Loc X.env.scope x) (hj:X.N[j]?=some y) (hy:Loc X.env.scope y) (hk:X.N[k]?=some n) (hn:X.env.scope.names.lookup n=some .local) (hgc:Gl X c) (hmc:X.mg c=some (.ref C))
  (hst:X.stack=X.env::X.outer:=by rfl) (hfr:X.env.frame=some X.env.locals:=by rfl) (hdb:(fx==("__debug__":Str))=false:=by kernel_rfl) (hdc:(c==("__debug__":Str))=false:=by kernel_rfl) (hdn:(n==("__debug__":Str))=false:=by kernel_rfl)
  (he:starEach (e::es) X.env=(false,eval e X.env)::starEach es X.env:=by rfl) (hpl:(backTo pc (starEach es X.env)).any (·.1)=false:=by rfl)
  (hs1:swapsWith (.Call (.Name fx pf) (e::es) [] pc) (some (.Name x px)) pa.line X.env=pure false:=by rfl) (hs2:swapsWith (.Name n pn) (some (.Name y py)) pb.line X.env=pure false:=by rfl)
  (hfx:X.fn x=true\/X.env.scope.names.lookup x=some .local:=by first | exact .inl rfl | exact .inr rfl | assumption) (hfy:X.fn y=true\/X.env.scope.names.lookup y=some .local:=by first | exact .inl rfl | exact .inr rfl | assumption) (hfn:X.fn n=true\/X.env.scope.names.lookup n=some .local:=by first | exact .inl rfl | exact .inr rfl | assumption) :
  PS X (.Try [.Assign [.Name x px] (.Call (.Name fx pf) (e::es) [] pc) pa] [.ExceptHandler (some (.Name c pcn)) (some n) [.Assign [.Name y py] (.Name n pn) pb] ph] [] [] pos) (tY X.K sp C i j k t):=by
 intro pins s σ H D I h;refine wpAny_Try_except (wpAny_execs_cons (wpAny_Assign_Name ?_ hs1));refine wpAny_Call_Name_kw (d7 I hg D0.M ?_ hdb);refine W.callWith_K (h₀:=X.base) I.ok.mod.kin D0.F.kp (cD (ha pc pins s σ H _ (I.wish _) h) (fun us s1 ⟨vs,H1,I1w,r,q⟩=>⟨I1w.unwish.kIn,?_⟩) (fun _ _ z=>z.elim)) he hpl;have I1:=I1w.unwish;have hl:us.length=ps.length:=by rw [<- r.length];exact G.len _ _ _ _ q
 refine wpAny_call (codeAny_mono (G.run X.A X.stack s1 H1 ⟨us,[]⟩ us vs _ _ hr I1.env0 (by have:=D0.B s1 us I1.kIn (by simpa using hl);simpa using this) r q) fun rr s' hq=>?_)
 cases rr with
 |ok fl=>
  cases fl with
  |ret u=>
   obtain ⟨v,H2,I2,rv,q2⟩:=I1.after hq;exact cz I2 hN hi hx rv (fun s3 I3=>wpAny_execs_nil (wpAny_execs_nil (zE _ H2 I3 q2))) hfx
  |next=>exact False.elim hq
  |brk=>exact False.elim hq
  |cont=>exact False.elim hq
 |error ev=>
  obtain ⟨ea,T,cls,H2,rfl,ho,hgn,u,hok,fl,hm,hQ⟩:=hq;have I2:=I1.call' ho u hok hgn (fun b z=>nomatch z);have hfrm:=I2.ok.frames;have hfun:=I2.stack;rw [hst] at hfrm hfun;refine kS hfrm hfun hfr fl.trc fun h2 T' n2 tr hT=>?_;have u3:Un (frs X.stack) [] H1 H2 s1.heap h2:=u.ntd n2 fl.ne fl.nT fun b hb=>.inl (by rw [hst];exact hb);have ok3:HOk X.prog X.w H2 h2:=hok.ntd n2 fl.fe fl.fT fun b hb=>I2.stkFree b (by rw [hst];exact hb);have I3:Inv X pins σ H2 {s' with heap:=h2}:=I1.call' ho u3 ok3 hgn (fun b z=>nomatch z);have nT':s1.heap.get? T'=none/\H2 T'=none:=by
   rcases hT with z | z
   ·exact ⟨dA u (by intro z;cases z) z,dr hok z⟩
   ·rw [z];exact ⟨fl.nT,fl.fT⟩
  obtain ⟨⟨oe,vs',hoe,hcls,hde,h1e,hdi⟩,hTe,oT,ts,hoT,hdT,h3T⟩:=tr;have LT:W.Looks (model X.prog X.w) h2 (typeOf (.ref ea)) cls:=hcls ▸ ((W.Looks.ld hoe).andThen .now);refine wpAny_handleBy_cons (codeAny_handlers_test ?_) (by intro z;cases z);refine Calls.Name_function_global I3.ok.kind hgc (Calls.loadGlobal_global (by rw [I3.ok.glob];exact I3.mod.glob.keeps I3.bk) hmc ?_) hdc;refine W.exm_one I3.kIn LT hm _ _ _ _ (fun _ _ z=>z) ?_;refine codeAny_handlers_suite_as (wpAny_setFlight_none hoe hde h1e hoT hdT (zq80.mp h3T).1 ?_);have n4:=iU hoT hdT ea;have hoe4:(h2.update T' (Obj.mapFields (·.setIfInBounds 3 .none))).get? ea=some oe:=(fk _ _ hTe).trans hoe;have u4:=(u3.ntd n4 fl.ne nT'.1 fun b z=>nomatch z).track (o:=dS ea cls) fl.ne I1.hok;have ok4:=(ok3.ntd n4 fl.fe nT'.2 fun b z=>nomatch z).track (o:=dS ea cls) fl.fe (zC (zM oe hoe4 hcls hdi ⟨vs',hde⟩) ⟨oe,hoe4⟩ fun g1 g2 ⟨o,q1,q2⟩ kp=>zA o (kp o q1) q2);have I4:Inv X pins σ (upd H2 ea (dS ea cls)) {s' with heap:=h2.update T' (Obj.mapFields (·.setIfInBounds 3 .none))}:=I1.call' ho u4 ok4 hgn (fun b z=>nomatch z);have hσ:σ.length=X.N.length:=I4.len;have hkl:k<σ.length:=by rw [hσ];exact (zq25.mp hk).1
  refine cz (v:=.ref ea) I4 hN hk (.inl hn) rfl (fun s5 I5=>?_) hfn;refine wpAny_execs_cons (wpAny_Assign_Name ?_ hs2);obtain ⟨m5,hn5,hl5⟩:=id I5.loc;obtain ⟨u5,r5,l5⟩:=hl5 k n (.ref ea) hk (lG hkl) (.inl hn);obtain rfl:u5=.ref ea:=r5;have hm5:m5 n=some (.ref ea):=by
   rcases l5 with ⟨_,z⟩ | ⟨z,_⟩
   ·exact z
   ·rcases z with z | z
    ·have z2:X.env.scope.names.lookup n=some .cell:=z;rw [hn] at z2;cases z2
    ·have z2:X.env.scope.names.lookup n=some .free:=z;rw [hn] at z2;cases z2
  refine wpAny_Name (wpAny_loadName_local I5.ok.kind hn hn5 hm5 ?_) hdn;refine cz (v:=.ref ea) I5 hN hj hy rfl (fun s6 I6=>?_) hfy;refine wpAny_execs_nil ?_;obtain ⟨m6,hn6,hl6⟩:=id I6.loc;refine wpAny_nameGoes_keeps hn hn6 (by rw [I6.ok.kind];rfl) fun h7 v7 hn7 hs7=>?_;have neL:∀b o,X.s₀.heap.get? b=some o->b≠X.env.locals:=fun b o e=>bU (cM (zq5 e) I6.ok.above);have cne:=I6.cne;refine zE _ (upd H2 ea (dS ea cls)) ⟨I6.ok,I6.os,I6.bare,⟨fun b o e n hb hx=>(hs7.2 b (neL b o e)).trans (I6.base.keep b o e n hb hx),fun b o e n hb hx=>?_,I6.base.free,fun b o e hx=>?_,I6.base.tups,I6.base.frzs,I6.base.tbls⟩,zA _ hn7 fun p z v' e1 e2 e3=>?_,fun z c e=>?_,I6.free,I6.freeC,fun p hp=>?_,fun b ob e=>?_,?_⟩ (hQ ea fl.fe)
  ·obtain ⟨sl,e1⟩:=I6.base.slot b o e n hb hx;exact ⟨sl,(hs7.2 b (neL b o e)).trans e1⟩
  ·obtain ⟨o',e1⟩:=I6.base.there b o e hx;exact ⟨o',(hs7.2 b (neL b o e)).trans e1⟩
  ·have hpk:p≠k:=fun z=>by
    rw [z,lG (by rw [qN];exact hkl)] at e2
    cases e2
   rw [lH (Ne.symm hpk)] at e2;have e4:((σ.set k (some (V.ref ea))).set j (some (V.ref ea)))[p]?=some (some v'):=by
    by_cases hpj:j=p
    ·have hjl:j<σ.length:=by rw [hσ];exact (zq25.mp hj).1
     rw [<- hpj,lG hjl] at e2;rw [<- hpj,lG (by rw [qN];exact hjl)];exact e2
    ·rw [lH hpj] at e2;rw [lH hpj,lH (Ne.symm hpk)];exact e2
   obtain ⟨u',r',q'⟩:=hl6 p z v' e1 e4 e3;refine zA u' r' ?_;rcases q' with ⟨kd,em⟩ | ⟨kd,c',ec,zc⟩
   ·refine .inl ⟨kd,?_⟩;show (if z=n then v7 else m6 z)=some u';rw [zq1 (fun w:z=n=>hpk (eO hN e1 (w ▸ hk)))];exact em
   ·exact .inr ⟨kd,zA c' ec (zc.sameBut hs7 (cne z c' ec))⟩
  ·obtain ⟨w',zc⟩:=I6.cell z c e;exact ⟨w',zc.sameBut hs7 (cne z c e)⟩
  ·obtain ⟨e,n,ne,nf,d⟩:=I6.pin p hp;exact zH ((hs7.2 p.1 ne).trans e) n ne nf d
  ·have hfree:=I6.free;refine (I6.hok b ob e).stay (fun c w' hc q=>(hs7.2 c ?_).trans q) (fun _ q=>q) fun _ _ q=>q;rintro rfl;rcases hc with rfl | hc
   ·rw [hfree] at e;cases e
   ·rw [hfree] at hc;cases hc
  ·rw [qN,qN];exact hσ
end L2
namespace L2
section
variable {P:Program} {w:World} {K:W.Frag} {mg:Str->Option Value} {base:Heap}
theorem Fun.okX{x qual:Str}{st:Stmt}{f:Addr}{fd:FuncData}{N ps:List Str}{k:Nat}{sp:Sp}(F:Fun K x qual st f fd)(S:az N ps (ap st))(len:∀vs H Q E,sp vs H Q E->vs.length=ps.length)
  (hbody:∀(cdv:Value)(A:Around)(outer:List Env)(s:Shared)(H:Hp)(vs:List V)(Q:VK)(E:XK),Room k (A.deeper (envOfC qual (ap st) s.heap.objs.size f cdv))->sp vs H Q E->
   ∃t,PSs (cL (CX1 P w) P w K mg base N qual (ap st) f cdv A outer s H E) (bu st) t/\t {nx:=fun _ H'=>Q .non H',rt:=Q} (aM N vs) H):FnOk P w K mg base (CX1 P w) (k+1) f fd ps sp:=by
 obtain ⟨oc,od,kV,doc,pm,an,cdv,ct,osl,rfl,lk,hcd⟩:=F.ex;exact qR lk hcd S len fun A outer s H vs Q E hr hsp=>hbody cdv A outer s H vs Q E hr hsp
end
theorem j6{P:Program}{w:World}{K:W.Frag}{mg:Str->Option Value}{base:Heap}{N:List Str}{qual:Str}{scope:Scope}{f:Addr}{cd:Value}{A:Around}{outer:List Env}{s0:Shared}{H0:Hp}{E:XK}{CX:CXT}:
  PassesOwn (model (cL CX P w K mg base N qual scope f cd A outer s0 H0 E).prog (cL CX P w K mg base N qual scope f cd A outer s0 H0 E).w) (cL CX P w K mg base N qual scope f cd A outer s0 H0 E).A (cL CX P w K mg base N qual scope f cd A outer s0 H0 E).env (cL CX P w K mg base N qual scope f cd A outer s0 H0 E).xe:=PassesOwn.leaving
structure IsX(K:W.Frag)(D:Addr):Prop where
 g:W.findIn K (.ref D) "__getattribute__"=some (some (.builtin "BaseException.__getattribute__"))
 h:W.findIn K (.ref D) "__getattr__"=some none
 c:W.hasDictIn K D=true
 a:W.findIn K (.ref D) "__class__"=some (some (.builtin "object.__class__"))
 n:W.specialIn K (.builtin "object.__class__") "__get__"=some (some (.builtin "getset_descriptor.__get__"))
 t:W.takesIn K (.builtin "object.__class__")=some true
 m:W.mroIn K D (.type "object")=some true
 b:W.mroIn K D (.type "BaseException")=some true
def ExAt(x D:Addr)(h:Heap):Prop:=∃o,h.get? x=some o/\o.cls=.ref D/\o.dict=none/\∃vs,o.data=.fields vs
theorem ExAt.inst{x D:Addr}{h:Heap}(p:ExAt x D h):∃o,W.InstAt h x o D none:=by obtain ⟨o,h1,h2,h3,vs,h4⟩:=p;exact ⟨o,h1,h2,by unfold W.notCls;rw [h4],by rw [h3];trivial⟩
open PySem.W in
theorem kD{prog:Program}{w:World}{A:Around}{E:Value->Shared->Prop}{s:Shared}{K:W.Frag}{x D:Addr}{o:Obj}{Q:Option Value->Shared->Prop}(z:IsX K D)(X:K.In s.heap)(I:W.InstAt s.heap x o D none)(h:Q (some (.ref D)) {s with toks:=s.toks+1}):
  wpAny (model prog w) A (getAttr? (.ref x) "__class__") Q E s:=by
 have hf:W.findObj K D none "__class__"=some (.bind (.builtin "getset_descriptor.__get__") (.builtin "object.__class__")):=by obtain ⟨cd,hc,_⟩:=W.any_some z.c;unfold W.findObj;rw [hc,Option.bind_some,z.a,Option.bind_some];simp [z.n,z.t]
 obtain ⟨hh,g,d,t,os⟩:=s;have L0:=I.type (M:=model prog w);have L1:=looks_findIn (M:=model prog w) X z.g;have L2:=looks_find (M:=model prog w) X I hf;have L3:=looks_hook (M:=model prog w) (mc:=.ref D) X (r:=none) (by rw [zq2 (show onTheHeap (.ref D)=true from rfl)];exact z.h);unfold getAttr? getAttrBy? getAttrBy;refine zq0 (wpAny_mkText (zq0 (wpAny_attempt (lL (zq0 (L0.at (zq0 (L1.at ?_))))))));dsimp only;rw [show (onTheHeap (Value.ref D)&&Value.builtin "BaseException.__getattribute__"==Value.builtin "object.__getattribute__")=false from by rw [show (Value.builtin "BaseException.__getattribute__"==Value.builtin "object.__getattribute__")=false from by decide +kernel,Bool.and_false],zq1 Jm];refine zq0 (L3.at (zq0 (wpAny_attempt (lL ?_))));unfold callGetattribute;rw [uk,zq1 Jm];unfold boundAndCalled;rw [F.excAttr_ValueError.ga.bind];refine zq0 (zq3 ?_);show wpAny _ _ (call (.builtin "BaseException.__getattribute__") [.ref x,.str "__class__" t]) _ _ _;refine wpAny_call (codeAny_call_builtin F.excAttr_ValueError.ga.plain F.entry_bexc_ga ?_);refine @check_slot (model prog w) _ _ ⟨hh,g,d,t+1,os⟩ "BaseException.__getattribute__" "BaseException" "__getattribute__" (.ref x) [.str "__class__" t] [] _ Jk Jk (L0.andThen (looks_mroIn X z.b)) (F.args_bexc_ga (.ref x) (.str "__class__" t)) ?_;have key:wpAny (model prog w) A.in1 (holding [Value.builtin "object.__class__"] (call (.builtin "getset_descriptor.__get__") [.builtin "object.__class__",.ref x,.ref D]) >>= ret) (fun fin s'=>fin=.done (.ret (.ref D))/\s'=⟨hh,g,d,t+1,os⟩) (fun _ _=>False) ⟨hh,g,d,t+1,os⟩:=
  zq0 (lL (wpAny_call (class_get (s:=⟨hh,g,d,t+1,os⟩) (ox:=o) (od:=none) X I z.m (zq3 ⟨rfl,rfl⟩))))
 unfold Builtin.«object.__getattribute__»;refine zq0 ?_;refine zq3 ?_;refine zq0 (zq3 ?_);refine zq0 (L0.at (zq0 (L2.at ?_)));refine cD key (fun fin s' hhx=>?_) fun _ _ z=>z.elim;obtain ⟨e1,e2⟩:=hhx;subst e1 e2;exact handed_on rfl (zq3 h)
theorem hZ{K:W.Frag}{x D:Addr}(z:IsX K D):W.KitX K (.ref x) (.ref D) (ExAt x D) where
 ty:=fun _ _ _ p=>let ⟨_,I⟩:=p.inst;I.type
 it:=fun _ _ X _=>by
  obtain ⟨cdD,hcD,_⟩:=W.any_some z.c;unfold W.clsIn at hcD
  split at hcD
  ·rename_i c' d' cd' sl' ho
   intro A' Q' E' s' k q;unfold isType loadHead;exact zq0 (wpAny_loadPart (k _ _ (X _ _ ho)) (zq3 q))
  ·cases hcD
 ne:=fun h tp dd its n sl X htp=>by
  obtain ⟨cdD,hcD,_⟩:=W.any_some z.c;refine Bool.eq_false_iff.mpr fun q=>?_;obtain rfl:D=tp:=Value.ref.inj (zq35.mp q);unfold W.clsIn at hcD
  split at hcD
  ·rename_i c' d' cd' sl' ho
   cases (X _ _ ho).symm.trans htp
  ·cases hcD
 ca:=fun X p k=>by obtain ⟨o,I⟩:=p.inst;exact kD z X I k
section
variable {X:Cx}
theorem uM{pins:List (Addr×Obj)}{σ:St}{H:Hp}{s:Shared}{a D:Addr}(I:Inv X pins σ H s)(ha:H a=some (dS a (.ref D))):ExAt a D s.heap:=(I.hok a _ ha).1
def rf(K:W.Frag):List V->Hp->VK->Prop:=fun xs H Q=>∃(a D c:Addr)(b:Bool),xs=[.ref a,.ref c]/\H a=some (dS a (.ref D))/\IsX K D/\W.kitOne K (.ref D) (.ref c)=some b/\Q (.bl b) H
def nA(K:W.Frag):List V->Hp->VK->Prop:=fun xs H Q=>∃(a D c:Addr)(cs:List Addr)(b:Bool),xs=[.ref a,.ref c]/\H a=some (dS a (.ref D))/\H c=some (.tup (cs.map V.ref))/\IsX K D/\W.kitAny K (.ref D) (cs.map Value.ref)=some b/\Q (.bl b) H
theorem ku:cf X (.builtin "isinstance") (rf X.K):=by
 intro pins s σ H xs us Q I r h;obtain ⟨a,D,c,b,rfl,ha,hD,hc,q⟩:=h;obtain ⟨u,v,rfl,ru,rv⟩:=og r
 cases ru
 cases rv
 exact W.kia_one (hZ hD) I.kIn (uM I ha) hc (fun e=>by cases e) fun tk=>zB (.bl b) H (I.tok _) rfl q
theorem lA{cs:List Addr}{us:List Value}(r:Vals (cs.map V.ref) us):us=cs.map Value.ref:=by
 induction cs generalizing us with
 |nil=>cases r;rfl
 |cons c cs ih=>cases r with | cons h t=>rw [ih t];cases h;rfl
theorem iP:cf X (.builtin "isinstance") (nA X.K):=by
 intro pins s σ H xs us Q I r h;obtain ⟨a,D,c,cs,b,rfl,ha,htp,hD,hc,q⟩:=h;obtain ⟨u,v,rfl,ru,rv⟩:=og r
 cases ru
 cases rv
 obtain ⟨_,its,ri,⟨⟨oc,od,odt,osl⟩,e1,e2,n,e3⟩⟩:=I.hok _ _ htp;obtain rfl:=lA ri;dsimp only at e2 e3;subst e2 e3;exact W.kia_tup (hZ hD) I.kIn (uM I ha) e1 hc (fun e=>by cases e) fun tk=>zB (.bl b) H (I.tok _) rfl q
variable {k:Nat} {f C:Addr} {fd:FuncData} {ps:List Str} {sp:Sp} {E:XK} {x m qual:Str} {st:Stmt} {p pos apos np cpos:Pos} {e o:Expr} {es:List Expr} {ta:TE} {t:TA}
theorem lE(rt:gh X E)(hc:X.calm=true)(hm:X.mg x=some (.ref C))(q:W.excIn X.K C bmV "ValueError.__new__"=true) (ha:XA X (e::es) t) (hg:Gl X x)
  (hdb:(x==("__debug__":Str))=false:=by kernel_rfl) (he:starEach (e::es) X.env=(false,eval e X.env)::starEach es X.env:=by rfl) (hpl:(backTo cpos (starEach es X.env)).any (·.1)=false:=by rfl) :
  XS X (.Raise (some (.Call (.Name x np) (e::es) [] cpos)) none pos) (jh E C t):=⟨nk rt hc hm q ha.h hg hdb he hpl⟩
theorem oq{y n c fx:Str}{i j l:Nat}{px pf pc pa pcn py pn pb ph:Pos}(D0:ba X.K X.mg fx st ps f fd)(G:FnOk X.prog X.w X.K X.mg X.base (CX1 X.prog X.w) k f fd ps sp)(hr:Room k X.A)
  (ha:XA X.nox (e::es) t) (hg:Gl X fx) (hN:X.N.Nodup) (hi:X.N[i]?=some x) (hx:Loc X.env.scope x) (hj:X.N[j]?=some y) (hy:Loc X.env.scope y) (hl:X.N[l]?=some n) (hn:X.env.scope.names.lookup n=some .local) (hgc:Gl X c) (hmc:X.mg c=some (.ref C))
  (hst:X.stack=X.env::X.outer:=by rfl) (hfr:X.env.frame=some X.env.locals:=by rfl) (hdb:(fx==("__debug__":Str))=false:=by kernel_rfl) (hdc:(c==("__debug__":Str))=false:=by kernel_rfl) (hdn:(n==("__debug__":Str))=false:=by kernel_rfl)
  (he:starEach (e::es) X.env=(false,eval e X.env)::starEach es X.env:=by rfl) (hpl:(backTo pc (starEach es X.env)).any (·.1)=false:=by rfl)
  (hs1:swapsWith (.Call (.Name fx pf) (e::es) [] pc) (some (.Name x px)) pa.line X.env=pure false:=by rfl) (hs2:swapsWith (.Name n pn) (some (.Name y py)) pb.line X.env=pure false:=by rfl)
  (hfx:X.fn x=true\/X.env.scope.names.lookup x=some .local:=by first | exact .inl rfl | exact .inr rfl | assumption) (hfy:X.fn y=true\/X.env.scope.names.lookup y=some .local:=by first | exact .inl rfl | exact .inr rfl | assumption) (hfn:X.fn n=true\/X.env.scope.names.lookup n=some .local:=by first | exact .inl rfl | exact .inr rfl | assumption) :
  XS X (.Try [.Assign [.Name x px] (.Call (.Name fx pf) (e::es) [] pc) pa] [.ExceptHandler (some (.Name c pcn)) (some n) [.Assign [.Name y py] (.Name n pn) pb] ph] [] [] pos) (tY X.K sp C i j l t):=
 ⟨pM D0 G hr ha.h hg hN hi hx hj hy hl hn hgc hmc hst hfr hdb hdc hdn he hpl hs1 hs2 hfx hfy hfn⟩
end
section
variable {K:W.Frag} {H:Hp} {Q:VK} {σ:St} {D:bK}
theorem pX{E:XK}{C:Addr}{t:TA}:jh E C t D σ H=t σ H fun vs H1=>vs.length<=sizeLine/\E (.ref C) none H1:=rfl
theorem vx{sp:Sp}{C:Addr}{i j k:Nat}{t:TA}:tY K sp C i j k t D σ H=t σ H fun vs H1=>sp vs H1 (fun v H2=>D.nx (σ.set i (some v)) H2) (fun cls _ H2=>W.exmOne K cls (.ref C)=some true/\∀ea:Addr,H2 ea=none->D.nx ((σ.set j (some (.ref ea))).set k none) (upd H2 ea (dS ea cls))):=rfl
theorem tm{a c:Addr}:rf K [.ref a,.ref c] H Q=∃(D:Addr)(b:Bool),H a=some (dS a (.ref D))/\IsX K D/\W.kitOne K (.ref D) (.ref c)=some b/\Q (.bl b) H:=propext ⟨by rintro ⟨_,D,_,b,e,q⟩;cases e;exact zR D b q,fun ⟨D,b,q⟩=>zX _ D _ b rfl q⟩
theorem pV{a c:Addr}:nA K [.ref a,.ref c] H Q=∃(D:Addr)(cs:List Addr)(b:Bool),H a=some (dS a (.ref D))/\H c=some (.tup (cs.map V.ref))/\IsX K D/\W.kitAny K (.ref D) (cs.map Value.ref)=some b/\Q (.bl b) H:=propext ⟨by rintro ⟨_,D,_,cs,b,e,q⟩;cases e;exact zO D cs b q,fun ⟨D,cs,b,q⟩=>zK _ D _ cs b ⟨rfl,q⟩⟩
end
end L2
end
namespace L2
open PySem PySem.Spec PySem.W PyProof.Rows GV
section
variable {X:Cx}
def uZ(pr:Params)(K:W.Frag):V->V->Hp->VK->Prop:=fun x y H Q=>∃(b d:Addr)(kvs:List (WData×V)) (k:WData),x=.ref b/\y=.ref d/\DnAt pr K H d kvs/\NkV K H k (.ref b)/\dpN k<=8/\Q (.bl (aN kvs k).isSome) H
theorem sy(hu:X.A.units+9<cLine):OpR X (compareOp .In) (uZ X.w.params X.K):=by
 intro pins s σ H x y u v Q I rx ry h;obtain ⟨b,d,kvs,k,rfl,rfl,hD,hk,hk8,q⟩:=h
 cases rx
 cases ry
 obtain ⟨z,hd,xs,rel,dd⟩:=qP I hD;have rk:=gv k rel;refine wpAny_in_heap (knd:=eN X.prog X.w) (gu hu) ⟨hk.is I rfl,hk8⟩ hd dd (zB (.bl (aN kvs k).isSome) H (I.tok _) ?_ q);have e:(atKey xs k).isSome=(aN kvs k).isSome:=by cases h1:atKey xs k<;>cases h2:aN kvs k<;>rw [h1,h2] at rk<;>first | rfl | exact rk.elim
 rw [e];rfl
theorem vi{pr:Params}{K:W.Frag}{b d:Addr}{H:Hp}{Q:VK}:uZ pr K (.ref b) (.ref d) H Q=∃(kvs:List (WData×V)) (k:WData),DnAt pr K H d kvs/\NkV K H k (.ref b)/\dpN k<=8/\Q (.bl (aN kvs k).isSome) H:=propext ⟨by rintro ⟨_,_,kvs,k,e1,e2,q⟩;cases e1;cases e2;exact zR kvs k q,fun ⟨kvs,k,q⟩=>zS _ _ kvs k (zC rfl rfl q)⟩
def nQ(pr:Params)(K:W.Frag)(td tk tv:TE):TS:=fun D σ H=>tv σ H fun v H1=>td σ H1 fun x H2=>tk σ H2 fun y H3=>∃(d b:Addr)(kvs:List (WData×V)) (k:WData),x=.ref d/\y=.ref b/\DnAt pr K H3 d kvs/\NkV K H3 k (.ref b)/\dpN k<=8/\kvs.length<sizeLine/\aN kvs k=none/\
 ∀o,DnAt pr K (upd H3 d o) d (kvs++[(k,v)])->D.nx σ (upd H3 d o)
theorem pL{o i value:Expr}{td tk tv:TE}{pos pos':Pos}(hu:X.A.units+9<cLine)(ho:PE X o td)(hi:PE X i tk)(hv:PE X value tv)(hs:swapsWith value (some (.Subscript o i pos')) pos.line X.env=pure false):
  PS X (.Assign [.Subscript o i pos'] value pos) (nQ X.w.params X.K td tk tv):=by
 intro pins s σ H D I h;refine wpAny_Assign_Subscript (thn (hv pins s σ H _ I h) fun r s1 ⟨v,H1,I1,rv,q1⟩=>thn (ho pins s1 σ H1 _ I1 q1) fun u s2 ⟨x,H2,I2,rx,q2⟩=>thn (hi pins s2 σ H2 _ I2 q2) fun iv s3 hhx=>?_) hs;obtain ⟨y,H3,I3,ry,d,b,kvs,k,ex,ey,hD,hk,hk8,hz,hn,q3⟩:=hhx;subst ex ey
 cases rx
 cases ry
 obtain ⟨es2,h1,rfl,h3⟩:=hD;obtain ⟨z,hd,xs,rel,dd⟩:=mf I3 h1 h3;have hlen:=Paired.length rel;have rk:=gv k (iS (xs:=xs) rel);rw [hn] at rk;have ha:atKey xs k=none:=by
  cases hv:atKey xs k with
  |none=>rfl
  |some y=>rw [hv] at rk;exact rk.elim
 refine wpAny_setItem_heap (knd:=eN X.prog X.w) (gu hu) ⟨hk.is I3 rfl,hk8⟩ dd (fun h' dd' hs'=>?_) (by rw [<- hlen];exact z);rw [storedH_new ha] at dd';obtain ⟨q,en,ep,hq,f2,f3,f4,_,f5⟩:=dd';refine zE σ _ (ef (ob:=eG X.w.params d (es2++[(k,b,v)])) I3 (by rw [h1];exact True.intro) hs' ⟨q,hq⟩ (zC (zC (by rw [fB,qB];rw [ck] at hz;omega) hd (zW (xs++[(k,b,r)]) q en ep (fV ⟨rfl,rfl,rv⟩ rel) hq f2 f3 f4 f5)) ⟨q,hq⟩ (jD rfl))) (q3 _ (zD (es2++[(k,b,v)]) ac (by rw [fm];rfl) fun p hp=>?_));have tt:TSame H3 (upd H3 d (eG X.w.params d (es2++[(k,b,v)]))):=⟨fun c ys e=>by rw [aj (b9 e h1 (fun z=>nomatch z))];exact e,fun c o u e=>by rw [aj (b9 e h1 (fun z=>nomatch z))];exact e⟩
 rcases zq23.mp hp with z | z
 ·exact ⟨(h3 p z).1.keep tt,(h3 p z).2⟩
 ·rw [zq28.mp z];exact ⟨hk.keep tt,hk8⟩
theorem oo{o i value:Expr}{td tk tv:TE}{pos pos':Pos}(hu:X.A.units+9<cLine)(ho:XE X o td)(hi:XE X i tk)(hv:XE X value tv)(hs:swapsWith value (some (.Subscript o i pos')) pos.line X.env=pure false):
  XS X (.Assign [.Subscript o i pos'] value pos) (nQ X.w.params X.K td tk tv):=⟨pL hu ho.h hi.h hv.h hs⟩
theorem tN{pr:Params}{K:W.Frag}{td tk tv:TE}{D:bK}{σ:St}{H:Hp}:nQ pr K td tk tv D σ H=tv σ H fun v H1=>td σ H1 fun x H2=>tk σ H2 fun y H3=>∃(d b:Addr)(kvs:List (WData×V)) (k:WData),x=.ref d/\y=.ref b/\DnAt pr K H3 d kvs/\NkV K H3 k (.ref b)/\dpN k<=8/\kvs.length<sizeLine/\aN kvs k=none/\
 ∀o,DnAt pr K (upd H3 d o) d (kvs++[(k,v)])->D.nx σ (upd H3 d o):=rfl
end
section
variable {CX:CXT} {P:Program} {w:World} {K:W.Frag} {mg:Str->Option Value} {base:Heap} {N:List Str} {qual:Str} {scope:Scope} {f:Addr} {cd:Value} {A:Around} {outer:List Env} {s:Shared} {H:Hp} {E:XK}
theorem rS:(cL CX P w K mg base N qual scope f cd A outer s H E).w=w:=rfl
theorem u7{X:Cx}{E:Value->Shared->Prop}:(X.wish E).w=X.w:=rfl
theorem uG{X:Cx}{N':List Str}{scope:Scope}{b:Bk}:(X.blk N' scope b).w=X.w:=rfl
end
end L2
namespace L2
open PySem PySem.Spec PyProof.Rows
section
variable {prog:Program} {w:World} {A:Around} {E:Value->Shared->Prop} {s:Shared} {T:String} {r d:Addr} {n:Nat} {P:Nat->Value->Prop} {OK:Heap->Prop}
theorem gU{Q:List Value->Shared->Prop}(K:W.KdlSrc prog w T r d n P OK)(hh:A.handled=none)(hok:OK s.heap)(hn:n<=sizeLine)
  (hQ:∀h' tk acc,(∀b o,s.heap.get? b=some o->h'.get? b=some o)->ItemsOf P acc n->Q acc.toList {s with heap:=h',toks:=tk}):wpAny (model prog w) A (collect (.ref r)) Q E s:=by
 unfold collect;refine zq0 (wpAny_runValue (uv F.entry_proto_collect ?_));rw [Around.under_plainId F.plain_proto_collect _];show wpAny _ A.in1 (newList [] >>= fun l=>again (.builtin "list.__iadd__" ⟨[l,.ref r],[]⟩)) _ _ s;refine zq0 (wpAny_newObj_type ?_);refine zq3 ⟨plainId_quiet F.plain_list_iadd _,uv F.entry_list_iadd ?_⟩;rw [Around.under_plainId F.plain_list_iadd _];show wpAny _ A.in1 (Builtin.List.listExtendWith (.ref s.heap.objs.size) (.ref r) (.ref s.heap.objs.size)) _ _ _;have hS:(s.heap.push {cls:=.type "list",data:=.seq ([]:List Value).toArray}).get? s.heap.objs.size=some {cls:=.type "list",data:=.seq #[] 0}:=bV _ rfl;obtain ⟨hr,hd⟩:=K.there _ hok;have ok1:=K.keep _ (s.heap.push {cls:=.type "list",data:=.seq ([]:List Value).toArray}) hok fun b _ o e=>zq9 _ e;refine cD (W.kdl_extend (A:=A) (s:={s with heap:=s.heap.push {cls:=.type "list",data:=.seq ([]:List Value).toArray}}) (R:=fun r' s'=>∃h' tk acc c',r'=.ok (.ret (.ref s.heap.objs.size))/\s'={s with heap:=h',toks:=tk}/\(∀b o,s.heap.get? b=some o->h'.get? b=some o)/\
   h'.get? s.heap.objs.size=some {cls:=.type "list",dict:=none,data:=.seq acc c',slots:=#[]}/\ItemsOf P acc n) K hh ok1 s.heap.objs.size (lI hr) (lI hd) _ _ hS
  (fun h' tk acc c' hk hS' hacc=>zN h' tk acc c' rfl rfl (fun b o e=>hk b o (bU (zq5 e)) (zq9 _ e)) hS' hacc) hn) (fun fin s' h=>?_) (fun e s' h=>?_)
 ·have fin':∀s' r',(∃h' tk acc c',r'=(Except.ok (.ret (.ref s.heap.objs.size)):Result)/\s'={s with heap:=h',toks:=tk}/\(∀b o,s.heap.get? b=some o->h'.get? b=some o)/\
   h'.get? s.heap.objs.size=some {cls:=.type "list",dict:=none,data:=.seq acc c',slots:=#[]}/\ItemsOf P acc n)->wpAny (model prog w) A (match Value.ref s.heap.objs.size with
   |Value.ref a=>do
    match (<- load a).data with
     |Data.seq xs _=>pure xs.toList
     |_=>unsupported "internal:collect"
   |_=>unsupported "internal:collect") Q E s':=by
   rintro s' r' ⟨h',tk,acc,c',_,rfl,hk,hS',hacc⟩;show wpAny _ A (load s.heap.objs.size >>= _) _ _ _;refine zq0 (wpAny_load hS' ?_);exact zq3 (hQ h' tk acc hk hacc)
  cases fin with
  |done f=>
   obtain ⟨h',tk,acc,c',e,r⟩:=id h
   cases e
   exact fin' _ _ h
  |again c'=>exact ⟨h.1,codeAny_mono h.2 fun r s'' hr=>by obtain ⟨h',tk,acc,c',e,r⟩:=id hr;subst e;exact fin' _ _ hr⟩
 ·obtain ⟨_,_,_,_,e,_⟩:=h
  cases e
theorem dy(r:Addr)(hlen:n<=sizeLine)(K:W.KdlSrc prog w "dict_values" r d n P OK) :
  MeetsIn prog w (Builtin.«tuple.__new__» ⟨[.type "tuple",.ref r],[]⟩)
   (fun A R s=>A.handled=none/\OK s.heap/\(∃o,s.heap.get? r=some o/\o.cls=.type "dict_values")/\∀(h':Heap)(tk:Nat)(acc:Array Value),(∀b o,s.heap.get? b=some o->h'.get? b=some o)->ItemsOf P acc n->
    R (.ok (.ret (.ref h'.objs.size))) {s with heap:=h'.push {cls:=.type "tuple",data:=.seq acc},toks:=tk}):=
 .of_wp fun A R s h=>by
  obtain ⟨hh,ok,⟨o,hr,ho⟩,h⟩:=h;have hsub:=sub_tuple_self;have hinit:=init_tuple_lookup;have hmh:=madeHere_tuple;have hT:s.TypeIs (.ref r) "dict_values":=zA _ hr ho
  have hh1:A.in1.handled=none:=hh
  wp_walk using AutoSeq1.wpAny_loadPart' hr,wpAny_typeOf hT,gU K hh1 ok hlen
  intro h' tk acc hk hacc;show wpAny _ _ (Builtin.Tuple.tupleExact acc.toList.toArray >>= fun v=>ret v) _ _ _;unfold Builtin.Tuple.tupleExact;refine zq0 (wpAny_newObj_type ?_ (show acc.toList.toArray.size<=sizeLine by simp only [Array.toArray_toList];rw [hacc.1];exact hlen));refine zq3 (zA _ rfl ?_);have e:acc.toList.toArray=acc:=by simp
  rw [e];exact h h' tk acc hk hacc
theorem dR{Q:Value->Shared->Prop}(K:W.KdlSrc prog w "dict_values" r d n P OK) (hh:A.handled=none) (hok:OK s.heap) (hn:n<=sizeLine) (hr:∃o,s.heap.get? r=some o/\o.cls=.type "dict_values")
  (h:∀(h':Heap)(tk:Nat)(acc:Array Value),(∀b o,s.heap.get? b=some o->h'.get? b=some o)->ItemsOf P acc n->Q (.ref h'.objs.size) {s with heap:=h'.push {cls:=.type "tuple",data:=.seq acc},toks:=tk}) :
  wpAny (model prog w) A (call (.type "tuple") [.ref r]) Q E s:=
 callType_newIn F.called_tuple Jm (F.typeCall_tuple_1 _) (F.newCall_tuple_1 _) (fun obj=>F.args_object_init_2 obj _) F.entry_tuple_new
  (dy r hn K) (zG hh hok hr fun h' tk acc hk hacc=>⟨zA _ (bV _ rfl) rfl,h h' tk acc hk hacc⟩)
end
def fc(to:TE):TE:=fun σ H Q=>to σ H fun x H1=>∃a kvs,x=.ref a/\H1 a=some (.dK kvs)/\∀l,H1 l=none->Q (.ref l) (upd H1 l (.tup (kvs.map (·.2))))
theorem j8{X:Cx}{o:Expr}{to:TE}{p apos pos pos2:Pos}(hc:X.calm=true)(hm:X.mg "tuple"=none) (ho:PE X o to) (hg:Gl X "tuple")
  (hs2:starEach [.Call (.Attribute o "values" apos) [] [] pos2] X.env=[(false,eval (.Call (.Attribute o "values" apos) [] [] pos2) X.env)]:=by rfl)
  (hbase:attributeBase o "values" X.env (eval o X.env)=eval o X.env:=by rfl) (hline:(apos.endLine==pos2.line)=true:=by rfl) :
  PE X (.Call (.Name "tuple" p) [.Call (.Attribute o "values" apos) [] [] pos2] [] pos) (fc to):=by
 intro pins s σ H Q I h;refine Call_ (cX I hg hm boot_tuple (PyProof.Rows.callWith_type1 ?_ hs2 rfl));rw [hs2];show wpAny _ _ (spliced ((false,eval (.Call (.Attribute o "values" apos) [] [] pos2) X.env)::[])) _ _ s;refine Calls.spliced_cons (wpAny_Call_method0_late hbase hline (thn (ho pins s σ H _ I h) fun v s1 hhx=>?_));obtain ⟨x,H1,I1,r1,a,kvs,ex,e,q1⟩:=hhx;subst ex
 cases r1
 obtain ⟨h1,h2⟩:=jl (T:="dict") I1 (show RelV (.ref a) (.ref a) from rfl) (.inr (.inr (.inl ⟨rfl,.inl ⟨kvs,e⟩⟩)));refine zY ("dict") _ PySem.F.plainAttrs_dict PySem.F.slot_dict_values PySem.F.type_dict_values h1 h2 (Calls.callWith_builtin rfl (PySem.evalArgs_none ?_));obtain ⟨z,hd,ws,rel,dd⟩:=me I1.hok e;refine call_meetsIn PySem.F.slot_dict_values dd.typeIs PySem.F.entry_dict_values (PySem.F.args_dict_values_1 _) (meets_dict_values (aV X.prog X.w) a hd) ⟨⟨ws,dd⟩,Calls.spliced_nil ?_⟩;obtain ⟨ep,hat⟩:=dd.dictAt;have hl:=rel.length;refine dR (W.kdl_values (knd:=aV X.prog X.w) (kvs:=ws) (ep:=ep)) (I.ok.hd hc) ⟨zD _ (bV _ rfl) rfl rfl,hat.push _⟩ (by rw [<- hl];exact z) (zA _ (bV _ rfl) rfl) fun h' tk acc hk hacc=>?_;have eacc:acc=(ws.map (·.2)).toArray:=by
  apply Array.ext_getElem?;intro j
  by_cases hj:j<acc.size
  ·obtain ⟨k,hk'⟩:=hacc.2 j acc[j] (by simp [hj]);rw [oE hj,oF,jm,hk'];rfl
  ·rw [rH Jn,oF,qK (by have:=hacc.1;simp;omega)]
 subst eacc;have kp:∀b u,s1.heap.get? b=some u->h'.get? b=some u:=fun b u e=>hk b u (zq9 _ e);have I2:Inv X pins σ H1 {s1 with heap:=h',toks:=tk}:=I1.kept kp;refine zB (.ref h'.objs.size) _ (I2.laid (t':=tk) (fun b u e=>zq9 _ e) (zq4 _) (show ObjOk X.prog X.w _ _ _ (.tup (kvs.map (·.2))) from ⟨by rw [ck];exact z,zA _ (jK rel) (IsTup.new h' _)⟩)) rfl (q1 _ (I2.hok.fresh (zq4 _)))
theorem iH{X:Cx}{o:Expr}{to:TE}{p apos pos pos2:Pos}(hc:X.calm=true)(hm:X.mg "tuple"=none) (ho:XE X o to) (hg:Gl X "tuple")
  (hs2:starEach [.Call (.Attribute o "values" apos) [] [] pos2] X.env=[(false,eval (.Call (.Attribute o "values" apos) [] [] pos2) X.env)]:=by rfl)
  (hbase:attributeBase o "values" X.env (eval o X.env)=eval o X.env:=by rfl) (hline:(apos.endLine==pos2.line)=true:=by rfl) :
  XE X (.Call (.Name "tuple" p) [.Call (.Attribute o "values" apos) [] [] pos2] [] pos) (fc to):=⟨j8 hc hm ho.h hg hs2 hbase hline⟩
theorem l9{to:TE}{σ:St}{H:Hp}{Q:VK}:fc to σ H Q=to σ H fun x H1=>∃a kvs,x=.ref a/\H1 a=some (.dK kvs)/\∀l,H1 l=none->Q (.ref l) (upd H1 l (.tup (kvs.map (·.2)))):=rfl
end L2
namespace L2
open PySem PySem.Spec PyProof.Rows
inductive Alk (K:W.Frag) (H:Hp):V->V->Prop where
 |flat {x y:V}:bi x=true->bi y=true->eqV x y=true->Alk K H x y
 |list {a b:Addr} {xs:List Int}:a≠b->SqL K H a (xs.map V.int)->SqL K H b (xs.map V.int)->Alk K H (.ref a) (.ref b)
 |dict {a b:Addr} {ka:List (Key×V)}:a≠b->Rd H a (.dK ka)->Rd H b (.dK ka)->ka.all (fun kv=>bi kv.2)=true->oW ka ka=true->Alk K H (.ref a) (.ref b)
def sR(K:W.Frag):R2:=fun x y H Q=>((∃i:Str,x=.str i/\y=.str i)\/∃(a b:Addr)(xs ys:List V),x=.ref a/\y=.ref b/\SqT K H a xs/\SqT K H b ys/\Paired (Alk K H) xs ys)/\Q (.bl true) H
section
variable {X:Cx}
theorem Alk.at{pins:List (Addr×Obj)}{σ:St}{H:Hp}{s:Shared}{x y:V}{u v:Value}{A:Around}(I:Inv X pins σ H s)(h:Alk X.K H x y)(rx:RelV x u)(ry:RelV y v)(hu:A.units+1<cLine)(E':Value->Shared->Prop)(Q':Bool->Shared->Prop)(q:Q' true s):
  wpAny (model X.prog X.w) A (eqBool u v) Q' E' s:=by
 cases h with
 |flat f1 f2 e=>
  rw [<- e] at q;exact gw (A:=A) rx ry f1 f2 _ _ _ _ q
 |list n l1 l2=>
  have z:=Dq.lists (K:=X.K) (H:=H) (n:=0) (fun _=>true) n l1 l2 rfl fun j x y hx hy=>by
   rw [hx] at hy
   cases hy
   rw [jm] at hx;obtain ⟨i,hi,rfl⟩:=zq56.mp hx;have e:true=eqV (.int i) (.int i):=by simp [eqV]
   rw [e];exact .flat rfl rfl
  rw [lT] at z;exact z.at I (A:=A) rx ry Jn _ _ _ _ q
 |dict n d1 d2 fa ed=>
  cases rx;cases ry
  unfold eqBool;refine lL (jp (fun hab=>absurd (by have:=eq_of_beq hab;injection this) n) fun _=>?_);obtain ⟨za,hda,va,ra,da⟩:=fL I.hok d1;obtain ⟨zb,hdb,vb,rb,db⟩:=fL I.hok d2;refine zq0 (W.keq_eq hda hdb da db Jn (fun _=>jH rb fa ra fa) ?_);rw [<- ra.length,<- rb.length];show wpAny _ _ (truthOfDropped (.bool (oW _ _))) _ _ _;rw [ed];exact wpAny_truthy_bool q
theorem mT(hu:X.A.units+2<cLine):OpR X (compareOp .Eq) (sR X.K):=by
 intro pins s σ H x y v u Q I rx ry h;obtain ⟨⟨i,rfl,rfl⟩ | ⟨a,b,xs,ys,rfl,rfl,ha,hb,hp⟩,q⟩:=h
 ·exact bq pins s σ H _ _ v u Q I rx ry ⟨rfl,by rw [cm rfl];exact q⟩
 cases rx;cases ry
 obtain ⟨its,r,p,_⟩:=I.tuple ha;obtain ⟨its2,r2,p2,_⟩:=I.tuple hb;have e1:=r.length;have e2:=r2.length;have e3:=hp.length;refine ji (show s.heap.IsTuple a its.toArray from p) (show s.heap.IsTuple b its2.toArray from p2) (by simp;omega) Jn (fun z hz E' Q' q'=>?_) (zB (.bl _) H I rfl q);obtain ⟨j,hj⟩:=List.mem_iff_getElem?.mp hz;rw [List.getElem?_zip_eq_some] at hj;obtain ⟨h1,h2⟩:=hj;rw [List.toList_toArray] at h1 h2;obtain ⟨hj,_⟩:=zq25.mp h1;rw [<- e1] at hj;obtain ⟨u1,hu1,r1⟩:=r.get (oB hj);obtain ⟨y,hy,al⟩:=L2.Paired.get hp (oB hj);obtain ⟨u2,hu2,r2'⟩:=r2.get hy;rw [h1] at hu1;rw [h2] at hu2
 cases hu1;cases hu2
 exact al.at I (A:=X.A.in1) r1 r2' (by show X.A.units+1+1<cLine;omega) E' Q' q'
end
end L2
namespace HTS
open PySem L2 FB FS FP FG FO FR PyProof.Rows PySem.W GV
variable {T i j:Nat} {x y z:Int}
def vW:V->WData
 | .int i=>.int i
 | .str x=>.str x
 |_=>.none
mutual
def frz:Stm->WData
 | .deed d=>.tuple (d.vs.map vW)
 | .ifs n x y=>.tuple [.str "if",.str n,.tuple (dU x),.tuple (dU y)]
 | .whl n x=>.tuple [.str "while",.str n,.tuple (dU x)]
def dU:List Stm->List WData
 | []=>[]
 |s::ss=>frz s::dU ss
end
theorem bY:∀ss:List Stm,dU ss=ss.map frz
 | []=>rfl
 |s::ss=>by rw [dU,c5,bY ss]
def bxW(b:Bx):List WData:=b.map fun p=>vW p.2
def stK(s:Stt):WData:=.tuple [.tuple (dU s.left.reverse),.tuple (bxW s.bx)]
theorem eg{n:Nat}:∀{xs:List WData},(∀x∈xs,dpN x<=n)->cV xs<=n
 | [],_=>ce _
 |x::xs,h=>by rw [cV];exact Nat.max_le.mpr ⟨h x (cC ..),eg fun y hy=>h y (bz _ hy)⟩
theorem qQ:∀v:V,dpN (vW v)=0:=by intro v;cases v<;>rfl
mutual
theorem mh:∀s:Stm,dpN (frz s)<=2 * s.deep+1
 | .deed d=>by
  rw [frz,dpN];exact Nat.succ_le_succ (bO (eg (n:=0) fun x hx=>by obtain ⟨v,_,rfl⟩:=zq34.mp hx;exact qz (qQ v)) (ce _))
 | .ifs n x y=>by
  have h1:=eh x;have h2:=eh y;simp only [frz,dpN,cV,Stm.deep];omega
 | .whl n x=>by have h1:=eh x;simp only [frz,dpN,cV,Stm.deep];omega
theorem eh:∀ss:List Stm,cV (dU ss)<=2 * aR ss+1
 | []=>ce _
 |s::ss=>by have h1:=mh s;have h2:=eh ss;simp only [dU,cV,aR];omega
end
section
variable (a b c:Str) (one other many:Nat) (R3:List Stm)
def Bl(x:Str):List Stm:=[.deed (.op "less" x (.box x) (.word 1))]
def tlS(k:Nat):Stm:=.deed (.tell (.word ((k:Int) % 2)))
def cA(j:Nat):List Stm:=(List.range' j (many-j)).map tlS
def aZ(j:Nat):List Int:=(List.range j).map fun k:Nat=>(k:Int) % 2
def R2:List Stm:=.deed (.copy b (.word other))::.whl b (Bl b)::R3
def R1:List Stm:=cA many 0++R2 b other R3
def R0:List Stm:=.deed (.copy a (.word one))::.whl a (Bl a)::R1 b other many R3
def bx3(x y z:Int):Bx:=[(.inr a,.int x),(.inr b,.int y),(.inr c,.int z)]
inductive Sh:Nat->Stt->Prop where
 |s0:Sh (2 * one+2+many+2 * other+2) ⟨R0 a b one other many R3,bx3 a b c 0 0 0,[]⟩
 |s1 {i:Nat}:i<=one->Sh (2 * i+1+many+2 * other+2) ⟨.whl a (Bl a)::R1 b other many R3,bx3 a b c i 0 0,[]⟩
 |s2 {i:Nat}:i<one->Sh (2 * i+2+many+2 * other+2) ⟨Bl a++.whl a (Bl a)::R1 b other many R3,bx3 a b c (i+1) 0 0,[]⟩
 |s3 {j:Nat}:j<=many->Sh (many-j+2 * other+2) ⟨cA many j++R2 b other R3,bx3 a b c 0 0 0,aZ j⟩
 |s4 {i:Nat}:i<=other->Sh (2 * i+1) ⟨.whl b (Bl b)::R3,bx3 a b c 0 i 0,aZ many⟩
 |s5 {i:Nat}:i<other->Sh (2 * i+2) ⟨Bl b++.whl b (Bl b)::R3,bx3 a b c 0 (i+1) 0,aZ many⟩
 |s6:Sh 0 ⟨R3,bx3 a b c 0 0 0,aZ many⟩
end
section
variable {a b c:Str} {one other many:Nat} {R3:List Stm}
theorem mq:aH (bx3 a b c x y z) a=x:=by simp [aH,dZ,bx3,aN]
theorem mr(h:a≠b):aH (bx3 a b c x y z) b=y:=by simp [aH,dZ,bx3,aN,h]
theorem uN(h1:a≠c)(h2:b≠c):aH (bx3 a b c x y z) c=z:=by simp [aH,dZ,bx3,aN,h1,h2]
theorem qZ{v:Int}(h1:a≠b)(h2:a≠c):b6 (bx3 a b c x y z) (.inr a) (.int v)=bx3 a b c v y z:=by simp [b6,bx3,h1.symm,h2.symm]
theorem rc{v:Int}(h1:a≠b)(h2:b≠c):b6 (bx3 a b c x y z) (.inr b) (.int v)=bx3 a b c x v z:=by simp [b6,bx3,h1,h2.symm]
theorem uX{v:Int}(h1:a≠c)(h2:b≠c):b6 (bx3 a b c x y z) (.inr c) (.int v)=bx3 a b c x y v:=by simp [b6,bx3,h1,h2]
theorem i4(h:i<255):gH "less" ((i:Int)+1) 1 8=i:=by unfold gH;rw [zq1 Jm,zq2 rfl];simp;omega
theorem nY(h:j<many):cA many j=tlS j::cA many (j+1):=by unfold cA;rw [show many-j=(many-(j+1))+1 by omega,uy,c5]
theorem qi:cA many many=[]:=by unfold cA;rw [Nat.sub_self];rfl
theorem lw:aZ (j+1)=aZ j++[(j:Int) % 2]:=by unfold aZ;rw [oG,fm];rfl
theorem qc(h1:a≠b)(h2:a≠c)(h3:b≠c)(l1:one<=255)(l2:other<=255){st:Stt}(h:Sh a b c one other many R3 (T+1) st):Sh a b c one other many R3 T (aT 8 st):=by
 generalize hT:T+1=T' at h
 cases h with
 |s0=>
  have e:aT 8 ⟨R0 a b one other many R3,bx3 a b c 0 0 0,[]⟩=⟨.whl a (Bl a)::R1 b other many R3,bx3 a b c one 0 0,[]⟩:=by simp only [aT,R0,doB,doT,bQ,c9,qZ h1 h2]
  rw [e,show T=2 * one+1+many+2 * other+2 by omega];exact .s1 (zq4 _)
 | @s1 i hi=>
  cases i with
  |zero=>
   have e:aT 8 ⟨.whl a (Bl a)::R1 b other many R3,bx3 a b c ((0:Nat):Int) 0 0,[]⟩=⟨cA many 0++R2 b other R3,bx3 a b c 0 0 0,aZ 0⟩:=by simp only [aT,mq];rfl
   rw [e,show T=many-0+2 * other+2 by omega];exact .s3 (ce _)
  |succ i=>
   have e:aT 8 ⟨.whl a (Bl a)::R1 b other many R3,bx3 a b c ((i+1:Nat):Int) 0 0,[]⟩=⟨Bl a++.whl a (Bl a)::R1 b other many R3,bx3 a b c (i+1) 0 0,[]⟩:=by simp only [aT,mq];rw [zq2 Jn];rfl
   rw [e,show T=2 * i+2+many+2 * other+2 by omega];exact .s2 Jn
 | @s2 i hi=>
  have e:aT 8 ⟨Bl a++.whl a (Bl a)::R1 b other many R3,bx3 a b c (i+1) 0 0,[]⟩=⟨.whl a (Bl a)::R1 b other many R3,bx3 a b c i 0 0,[]⟩:=by simp only [aT,Bl,List.cons_append,List.nil_append,doB,doT,bQ,c9,mq,i4 (show i<255 by omega),qZ h1 h2]
  rw [e,show T=2 * i+1+many+2 * other+2 by omega];exact .s1 Jn
 | @s3 j hj=>
  by_cases hm:j<many
  ·have e:aT 8 ⟨cA many j++R2 b other R3,bx3 a b c 0 0 0,aZ j⟩=⟨cA many (j+1)++R2 b other R3,bx3 a b c 0 0 0,aZ (j+1)⟩:=by rw [nY hm,lw];simp only [aT,tlS,List.cons_append,doB,doT,bQ,c9]
   rw [e,show T=many-(j+1)+2 * other+2 by omega];exact .s3 Jn
  ·obtain rfl:j=many:=by omega
   have e:aT 8 ⟨cA j j++R2 b other R3,bx3 a b c 0 0 0,aZ j⟩=⟨.whl b (Bl b)::R3,bx3 a b c 0 other 0,aZ j⟩:=by rw [qi];simp only [aT,R2,List.nil_append,doB,doT,bQ,c9,rc h1 h3]
   rw [e,show T=2 * other+1 by omega];exact .s4 (zq4 _)
 | @s4 i hi=>
  cases i with
  |zero=>
   have e:aT 8 ⟨.whl b (Bl b)::R3,bx3 a b c 0 ((0:Nat):Int) 0,aZ many⟩=⟨R3,bx3 a b c 0 0 0,aZ many⟩:=by simp only [aT,mr h1];rfl
   rw [e,show T=0 by omega];exact .s6
  |succ i=>
   have e:aT 8 ⟨.whl b (Bl b)::R3,bx3 a b c 0 ((i+1:Nat):Int) 0,aZ many⟩=⟨Bl b++.whl b (Bl b)::R3,bx3 a b c 0 (i+1) 0,aZ many⟩:=by simp only [aT,mr h1];rw [zq2 Jn];rfl
   rw [e,show T=2 * i+2 by omega];exact .s5 Jn
 | @s5 i hi=>
  have e:aT 8 ⟨Bl b++.whl b (Bl b)::R3,bx3 a b c 0 (i+1) 0,aZ many⟩=⟨.whl b (Bl b)::R3,bx3 a b c 0 i 0,aZ many⟩:=by simp only [aT,Bl,List.cons_append,List.nil_append,doB,doT,bQ,c9,mr h1,i4 (show i<255 by omega),rc h1 h3]
  rw [e,show T=2 * i+1 by omega];exact .s4 Jn
 |s6=>omega
def wtK:WData->Int
 | .tuple [_,_]=>1
 | .tuple [_,_,.int w]=>2 * w+1
 | .tuple [_,_,.tuple []]=>0
 | .tuple [_,_,.tuple (_::_)]=>1
 | .tuple [_,_,_,_]=>-1
 |_=>0
def wt(s:Stm):Int:=wtK (frz s)
def ja:WData->Int
 | .tuple [.tuple l,.tuple (.int x::.int y::_)]=>(l.map wtK).sum+2 * (x+y)
 |_=>0
theorem nj{l:List Stm}{t:List Int}:ja (stK ⟨l,bx3 a b c x y z,t⟩)=(l.map wt).sum+2 * (x+y):=by unfold stK bxW bx3;simp only [List.map_cons,List.map_nil,vW,ja,bY,List.map_reverse,List.sum_reverse,List.map_map];rfl
theorem u9:((cA many j).map wt).sum=((many-j:Nat):Int):=by
 unfold cA;generalize many-j=n
 induction n generalizing j with
 |zero=>rfl
 |succ n ih=>rw [uy,c5,c5,List.sum_cons,ih];have e:wt (tlS j)=1:=rfl;rw [e];omega
theorem qk{n:Str}{w:Int}:wt (.deed (.copy n (.word w)))=2 * w+1:=rfl
theorem ua{n:Str}:wt (.whl n (Bl n))=1:=rfl
theorem wg{n:Str}:((Bl n).map wt).sum=-1:=rfl
theorem tT{st:Stt}(h:Sh a b c one other many R3 T st):ja (stK st)=T+(R3.map wt).sum:=by cases h<;>rw [nj]<;>(try simp only [R0,R1,R2,List.map_append,List.map_cons,List.sum_append,List.sum_cons,u9,qk,ua,wg])<;>omega
theorem qb{st:Stt}(h:Sh a b c one other many R3 (T+1) st):¬st.left.length=0:=by
 generalize hT:T+1=T' at h
 cases h<;>simp [R0,R2,Bl]<;>omega
theorem qe{st:Stt}(h:Sh a b c one other many R3 0 st):st=⟨R3,bx3 a b c 0 0 0,aZ many⟩:=by
 generalize hT:0=T' at h
 cases h<;>first | rfl | omega
def st0(a b c:Str)(one other many:Nat)(R3:List Stm):Stt:=⟨R0 a b one other many R3,bx3 a b c 0 0 0,[]⟩
def stp(one other many:Nat):Nat:=2 * one+2+many+2 * other+2
theorem gJ(h1:a≠b)(h2:a≠c)(h3:b≠c)(l1:one<=255)(l2:other<=255):∀i,i<=stp one other many->Sh a b c one other many R3 (stp one other many-i) (aF 8 i (st0 a b c one other many R3))
 |0,_=>.s0
 |i+1,h=>by have z:=gJ h1 h2 h3 l1 l2 i Jn;rw [show stp one other many-i=(stp one other many-(i+1))+1 by omega] at z;exact qc h1 h2 h3 l1 l2 z
theorem et(h1:a≠b)(h2:a≠c)(h3:b≠c)(l1:one<=255)(l2:other<=255):aF 8 (stp one other many) (st0 a b c one other many R3)=⟨R3,bx3 a b c 0 0 0,aZ many⟩:=by have z:=gJ (R3:=R3) (many:=many) h1 h2 h3 l1 l2 _ (zq4 _);rw [Nat.sub_self] at z;exact qe z
theorem il(h1:a≠b)(h2:a≠c)(h3:b≠c)(l1:one<=255)(l2:other<=255)(hi:i<stp one other many):¬(aF 8 i (st0 a b c one other many R3)).left.length=0:=by have z:=gJ (R3:=R3) h1 h2 h3 l1 l2 i (qu hi);rw [show stp one other many-i=(stp one other many-i-1)+1 by omega] at z;exact qb z
theorem gI(h1:a≠b)(h2:a≠c)(h3:b≠c)(l1:one<=255)(l2:other<=255)(hi:i<=stp one other many):ja (stK (aF 8 i (st0 a b c one other many R3)))=((stp one other many-i:Nat):Int)+(R3.map wt).sum:=tT (gJ h1 h2 h3 l1 l2 i hi)
def Rr(c:Str):List Stm:=[.deed (.copy c (.word 7)),.whl c []]
def stR(a b c:Str)(many:Nat):Stt:=⟨[.whl c []],bx3 a b c 0 0 7,aZ many⟩
theorem ij(h1:a≠b)(h2:a≠c)(h3:b≠c)(l1:one<=255)(l2:other<=255):∀k,aF 8 (stp one other many+1+k) (st0 a b c one other many (Rr c))=stR a b c many
 |0=>by
  rw [Nat.add_zero,aF,et h1 h2 h3 l1 l2];simp only [aT,Rr,doB,doT,bQ,c9,uX h2 h3,stR]
 |k+1=>by rw [<- qM,aF,ij h1 h2 h3 l1 l2 k];unfold stR;simp only [aT,uN h2 h3];rfl
theorem uW:ja (stK (stR a b c many))=0:=by unfold stR;rw [nj];rfl
theorem x9:((Rr c).map wt).sum=15:=rfl
end
section
open FA
theorem mF(m pl k:Int):∀n:Nat,(nm m pl k n).cps.toList=(List.range n).map fun j=>ltr (kR m pl k j)
 |0=>by show ("":Str).cps.toList=[];decide +kernel
 |n+1=>by rw [nm,oG,fm,<- mF m pl k n];show ((nm m pl k n).cps++#[ltr (kR m pl k n)]).toList=_;simp
theorem mH{m:Int}{pl n:Nat}(h:pl<n){k l:Nat}(hk:k<l)(hl:l<26):nm m pl k n≠nm m pl l n:=fun e=>by have e1:=congrArg (fun x:Str=>x.cps.toList[pl]?) e;simp only [mF] at e1;rw [jm,jm,List.getElem?_range h] at e1;have e2:ltr (kR m pl k pl)=ltr (kR m pl l pl):=Option.some.inj e1;unfold ltr kR at e2;rw [cm rfl,zq2 rfl] at e2;omega
theorem mE(c0:Int):∃x y z r,eM c0=x::y::z::r/\x≠y/\x≠z/\y≠z/\r.length=5:=by
 unfold eM
 split
 ·exact zN _ _ _ _ rfl Jk Jk Jk rfl
 ·have m0:=i7 c0 3;generalize d8 c0 3=m at m0;have z0:0<=m % 6:=dD _ Jm;have l0:0<=m / 6 % (1+m % 6):=dD _ Jn;have l1:m / 6 % (1+m % 6)<1+m % 6:=gN _ Jn;have hp:((m / 6 % (1+m % 6)).toNat:Int)=m / 6 % (1+m % 6):=Int.toNat_of_nonneg l0;have hlt:(m / 6 % (1+m % 6)).toNat<(1+m % 6).toNat:=by omega
  have a1:=mH (m:=m) hlt (show 0<1 by decide) Jm;have a2:=mH (m:=m) hlt (show 0<2 by decide) Jm;have a3:=mH (m:=m) hlt (show 1<2 by decide) Jm;rw [hp] at a1 a2 a3;exact zN _ _ _ _ rfl a1 a2 a3 rfl
end
theorem rV{a b c:Str}(h1:a≠b)(h2:a≠c)(h3:b≠c):aD [] [] [a,b,c]=bx3 a b c 0 0 0:=by simp [aD,bx3,b6,h1,h2,h3]
theorem kh{ns:List Str}:∀(n j:Nat),b7 ns 8 ((List.range' j n).map tlS)/\aK ((List.range' j n).map tlS)=n/\aR ((List.range' j n).map tlS)=0
 |0,_=>zC trivial rfl rfl
 |n+1,j=>by
  obtain ⟨h1,h2,h3⟩:=kh (ns:=ns) n (j+1);rw [uy,c5];refine zC ⟨show 0<=(j:Int) % 2/\(j:Int) % 2<2 ^ (8:Int).toNat from ⟨Jn,?_⟩,h1⟩ ?_ ?_
  ·have:(2:Int) ^ (8:Int).toNat=256:=by decide
   omega
  ·rw [aK,h2];show 1+n=n+1;omega
  ·rw [aR,h3];rfl
theorem kl{n:Nat}(h:n<=255):0<=(n:Int)/\(n:Int)<2 ^ (8:Int).toNat:=by
 have:(2:Int) ^ (8:Int).toNat=256:=by decide
 omega
theorem ju{ns:List Str}{x:Str}(h:x∈ns):b7 ns 8 (Bl x):=⟨zG Jk h h (kl (n:=1) Jm),trivial⟩
theorem sQ{a b c:Str}{one other many:Nat}{R3:List Stm}(hR:R3=[]\/R3=Rr c)(l1:one<=255)(l2:other<=255):b7 [a,b,c] 8 (R0 a b one other many R3)/\aK (R0 a b one other many R3)<=many+20/\aR (R0 a b one other many R3)<=1:=by
 have h3:b7 [a,b,c] 8 R3/\aK R3<=2/\aR R3<=1:=by
  rcases hR with rfl | rfl
  ·exact zC trivial Jm Jm
  ·exact zC (zC ⟨Jo,kl (n:=7) Jm⟩ ⟨Jo,trivial⟩ trivial) (by simp [Rr,aK,Stm.many]) (by simp [Rr,aR,Stm.deep])
 obtain ⟨t1,t2,t3⟩:=kh (ns:=[a,b,c]) (many-0) 0;refine zC ?_ ?_ ?_
 ·refine zC ⟨Jo,kl l1⟩ ⟨Jo,ju Jo⟩ (goodL_append.mpr (zG t1 ⟨Jo,kl l2⟩ ⟨Jo,ju Jo⟩ h3.1))
 ·unfold R0 R1 HTS.R2 cA;rw [aK,aK,gC,t2,aK,aK];simp only [Stm.many,Bl,aK];omega
 ·unfold R0 R1 HTS.R2 cA;rw [aR,aR,gr,t3,aR,aR];simp only [Stm.deep,Bl,aR];omega
end HTS
local macro_rules | `(tactic| simp_arith [$ts,*])=>`(tactic| simp only [L2.xc,L2.wC,L2.xf,L2.wD,L2.xg,L2.wF,L2.xh,L2.wG,L2.xi,L2.wH,L2.xj,L2.wI,L2.xk,L2.wJ,L2.xl,L2.wK,L2.xm,L2.wL,L2.xn,L2.wM,L2.wk,L2.vg,L2.r_c,L2.wR,L2.xb,L2.y_I,L2.v9,L2.vd,L2.vp,L2.t9,L2.pS,L2.tP,L2.r_B,L2.wU,L2.vr,L2.wN,L2.tK,L2.rh,L2.sZ,L2.vt,L2.vh,L2.v5,L2.wz,L2.vq,L2.sV,L2.sU,L2.vy,L2.vo,L2.wV,L2.wW,L2.sX,L2.sW,L2.wX,L2.nG,L2.tM,L2.wQ,L2.wO,L2.tq,L2.tu,L2.tw,L2.tD,L2.tE,L2.tF,L2.tG,L2.vf,L2.pT,L2.ti,L2.pU,L2.t4,L2.ve,L2.wB,L2.v6,L2.vm,L2.vk,L2.vn,L2.v8,L2.vv,L2.nB,L2.t8,L2.t5,L2.tj,true_and,and_true,forall_const,Int.reduceLT,L2.pO,L2.l8,L2.vz,L2.r_isi_int_str,L2.r_isi_str_str,L2.vw,L2.vj,L2.rR,L2.u6,L2.uF,L2.sS,L2.sT,List.map_cons,List.map_nil,List.getElem?_cons_zero,List.getElem?_cons_succ,Option.join_some,L2.wA,L2.pQ,L2.sY,L2.t7,List.set_cons_zero,List.set_cons_succ,L2.rg,L2.tO,L2.tf,L2.tI,L2.tH,L2.l7,L2.uG,L2.rS,L2.pP,L2.pR,L2.vi,L2.tm,L2.pV,L2.tN,L2.pX,L2.vx,L2.l9,L2.u7,$ts,*])
local macro_rules | `(tactic| rwa [$[$ts:term],*]) => `(tactic| simp_arith [$[$ts:term],*])
local macro_rules | `(∅) => `(by first | exact ⟨rfl,rfl,rfl,Jk,rfl,Jk,Jk⟩ | (intro vs H Q E h; first | (obtain ⟨h,_⟩ := h; cases h; rfl) | (obtain ⟨_,h,_⟩ := h; cases h; rfl) | (obtain ⟨_,_,h,_⟩ := h; cases h; rfl) | (obtain ⟨_,_,_,h,_⟩ := h; cases h; rfl) | (obtain ⟨_,_,_,_,h,_⟩ := h; cases h; rfl) | (obtain ⟨_,_,_,_,_,h,_⟩ := h; cases h; rfl)))
namespace K76
open PySem L2 PyProof.Rows FA FB FS FP FG FO FR HTS
def top(i:Nat):Stmt:=PySem.Challenge.pw_deedloom_k76_runs_that_are_too_long.main.body.getD i (.Pass ⟨0,0,0,0⟩)
abbrev s_0:Stmt:=c8 (top 8) 0
theorem wY:az ["self","width","ins","boxes","rows"] ["self","width","ins","boxes","rows"] (ap s_0):=∅
abbrev s_1:Stmt:=top 9
theorem wZ:az ["rows"] ["rows"] (ap s_1):=∅
abbrev s_2:Stmt:=top 10
theorem x2:az ["row"] ["row"] (ap s_2):=∅
abbrev s_3:Stmt:=top 11
theorem sc_3:az ["width","many","bit"] ["width"] (ap s_3):=∅
abbrev s_4:Stmt:=top 12
theorem x3:az ["op","x","y","width"] ["op","x","y","width"] (ap s_4):=∅
abbrev s_5:Stmt:=top 14
theorem x4:az ["deed"] ["deed"] (ap s_5):=∅
abbrev s_6:Stmt:=top 15
theorem x5:az ["deed"] ["deed"] (ap s_6):=∅
abbrev s_7:Stmt:=top 16
theorem x6:az ["operand","boxes"] ["operand","boxes"] (ap s_7):=∅
abbrev s_8:Stmt:=top 17
theorem sc_8:az ["deed","boxes","width","parts"] ["deed","boxes","width"] (ap s_8):=∅
abbrev s_9:Stmt:=top 19
theorem sc_9:az ["program","words","boxes","name"] ["program","words"] (ap s_9):=∅
abbrev vC:Stmt:=c8 (top 20) 0
theorem vQ:az ["self","program","words"] ["self","program","words"] (ap vC):=∅
abbrev vD:Stmt:=c8 (top 20) 1
theorem vR:az ["self"] ["self"] (ap vD):=∅
abbrev vE:Stmt:=c8 (top 20) 2
theorem sc_12:az ["self","row"] ["self"] (ap vE):=∅
abbrev vF:Stmt:=c8 (top 20) 3
theorem vS:az ["self","row"] ["self","row"] (ap vF):=∅
abbrev vG:Stmt:=c8 (top 20) 4
theorem sc_14:az ["self","deed","word","name"] ["self","deed"] (ap vG):=∅
abbrev vH:Stmt:=c8 (top 20) 5
theorem vT:az ["self","rows"] ["self","rows"] (ap vH):=∅
abbrev vI:Stmt:=top 23
theorem sc_16:az ["program","words","going","seen","steps","standing","first","many"] ["program","words"] (ap vI):=∅
abbrev vJ:Stmt:=top 24
theorem vU:az ["going"] ["going"] (ap vJ):=∅
abbrev vK:Stmt:=top 25
theorem vV:az ["rows"] ["rows"] (ap vK):=∅
abbrev vL:Stmt:=top 26
theorem vX:az ["row"] ["row"] (ap vL):=∅
abbrev vM:Stmt:=top 28
theorem sc_20:az ["_law_cell","_law_k","_law_number"] ["_law_cell","_law_k"] (ap vM):=∅
abbrev vN:Stmt:=top 29
theorem sc_21:az ["_law_cell","_law_letters","_law_mixed_here","_law_size","_law_place","_law_names_here","_law_k","_law_name","_law_j","_law_at"] ["_law_cell"] (ap vN):=∅
abbrev vO:Stmt:=top 30
theorem sc_22:az ["_law_program","_law_found","_law_fault","e"] ["_law_program"] (ap vO):=∅
abbrev vP:Stmt:=top 31
theorem sc_23:az ["_law_script","_law_first","_law_names_here","_law_one","_law_other","_law_many","_law_tells","_law_rows","_law_steps","_law_boxes","_law_due"] ["_law_script"] (ap vP):=∅
set_option genInjectivity false in
structure Ad where
 k_MOST_STEPS:Tok
 C_Program:Addr
 C_Run:Addr
 X_LoomError:Addr
 X_NoProgram:Addr
 X_TooLong:Addr
 X_NoLine:Addr
 X_NoName:Addr
 X_TooGreat:Addr
 f_0:Addr
 e_0:FuncData
 f_1:Addr
 e_1:FuncData
 f_2:Addr
 e_2:FuncData
 f_3:Addr
 e_3:FuncData
 f_4:Addr
 e_4:FuncData
 f_5:Addr
 e_5:FuncData
 f_6:Addr
 e_6:FuncData
 f_7:Addr
 e_7:FuncData
 f_8:Addr
 e_8:FuncData
 f_9:Addr
 e_9:FuncData
 f_10:Addr
 e_10:FuncData
 f_11:Addr
 e_11:FuncData
 f_12:Addr
 e_12:FuncData
 f_13:Addr
 e_13:FuncData
 f_14:Addr
 e_14:FuncData
 f_15:Addr
 e_15:FuncData
 f_16:Addr
 e_16:FuncData
 f_17:Addr
 e_17:FuncData
 f_18:Addr
 e_18:FuncData
 f_19:Addr
 e_19:FuncData
 f_20:Addr
 e_20:FuncData
 f_21:Addr
 e_21:FuncData
 f_22:Addr
 e_22:FuncData
 f_23:Addr
 e_23:FuncData
structure Txt(K:W.Frag)(mg:Str->Option Value)(t:Ad):Prop where
 g_MOST_STEPS:mg "MOST_STEPS"=some (.int 1000 t.k_MOST_STEPS)
 c_Program:KlsAt K mg "Program" t.C_Program
 n_Program_width:NoAttr K t.C_Program "width"
 n_Program_ins:NoAttr K t.C_Program "ins"
 n_Program_boxes:NoAttr K t.C_Program "boxes"
 n_Program_rows:NoAttr K t.C_Program "rows"
 c_Run:KlsAt K mg "Run" t.C_Run
 n_Run_width:NoAttr K t.C_Run "width"
 n_Run_left:NoAttr K t.C_Run "left"
 n_Run_boxes:NoAttr K t.C_Run "boxes"
 n_Run_told:NoAttr K t.C_Run "told"
 x_LoomError:mg "LoomError"=some (.ref t.X_LoomError)
 x_NoProgram:mg "NoProgram"=some (.ref t.X_NoProgram)
 x_TooLong:mg "TooLong"=some (.ref t.X_TooLong)
 q_TooLong:W.excIn K t.X_TooLong bmV "ValueError.__new__"=true
 i_TooLong:IsX K t.X_TooLong
 x_NoLine:mg "NoLine"=some (.ref t.X_NoLine)
 x_NoName:mg "NoName"=some (.ref t.X_NoName)
 x_TooGreat:mg "TooGreat"=some (.ref t.X_TooGreat)
 m_TooLong_TooLong:W.exmOne K (.ref t.X_TooLong) (.ref t.X_TooLong)=some true
 i_TooLong_NoLine:W.kitOne K (.ref t.X_TooLong) (.ref t.X_NoLine)=some false
 i_TooLong_NoName:W.kitOne K (.ref t.X_TooLong) (.ref t.X_NoName)=some false
 i_TooLong_NoProgram:W.kitOne K (.ref t.X_TooLong) (.ref t.X_NoProgram)=some false
 i_TooLong_TooGreat:W.kitOne K (.ref t.X_TooLong) (.ref t.X_TooGreat)=some false
 i_TooLong_LoomError:W.kitOne K (.ref t.X_TooLong) (.ref t.X_LoomError)=some true
 d_0:bo K t.C_Program "__init__" "Program.__init__" s_0 ["self","width","ins","boxes","rows"] t.f_0 t.e_0
 d_1:ba K mg "copied" s_1 ["rows"] t.f_1 t.e_1
 d_2:ba K mg "copied_row" s_2 ["row"] t.f_2 t.e_2
 d_3:ba K mg "word_count" s_3 ["width"] t.f_3 t.e_3
 d_4:ba K mg "reckoned" s_4 ["op","x","y","width"] t.f_4 t.e_4
 d_5:ba K mg "operands_of" s_5 ["deed"] t.f_5 t.e_5
 d_6:ba K mg "box_written" s_6 ["deed"] t.f_6 t.e_6
 d_7:ba K mg "word_of" s_7 ["operand","boxes"] t.f_7 t.e_7
 d_8:ba K mg "word_made" s_8 ["deed","boxes","width"] t.f_8 t.e_8
 d_9:ba K mg "first_boxes" s_9 ["program","words"] t.f_9 t.e_9
 d_10:bo K t.C_Run "__init__" "Run.__init__" vC ["self","program","words"] t.f_10 t.e_10
 d_11:bo K t.C_Run "is_over" "Run.is_over" vD ["self"] t.f_11 t.e_11
 d_12:bo K t.C_Run "go_step" "Run.go_step" vE ["self"] t.f_12 t.e_12
 d_13:bo K t.C_Run "look_at_while" "Run.look_at_while" vF ["self","row"] t.f_13 t.e_13
 d_14:bo K t.C_Run "do_deed" "Run.do_deed" vG ["self","deed"] t.f_14 t.e_14
 d_15:bo K t.C_Run "put_ahead" "Run.put_ahead" vH ["self","rows"] t.f_15 t.e_15
 d_16:ba K mg "ever" vI ["program","words"] t.f_16 t.e_16
 d_17:ba K mg "standing_of" vJ ["going"] t.f_17 t.e_17
 d_18:ba K mg "frozen" vK ["rows"] t.f_18 t.e_18
 d_19:ba K mg "frozen_row" vL ["row"] t.f_19 t.e_19
 d_20:ba K mg "_law_mixed" vM ["_law_cell","_law_k"] t.f_20 t.e_20
 d_21:ba K mg "_law_names" vN ["_law_cell"] t.f_21 t.e_21
 d_22:ba K mg "_law_asked" vO ["_law_program"] t.f_22 t.e_22
 d_23:ba K mg "law" vP ["_law_script"] t.f_23 t.e_23
 z_range:mg "range"=none
 z_isinstance:mg "isinstance"=none
 z_int:mg "int"=none
 z_len:mg "len"=none
 z_str:mg "str"=none
 z_list:mg "list"=none
 z_reversed:mg "reversed"=none
 z_tuple:mg "tuple"=none
 z_sum:mg "sum"=none
variable {H:Hp} {u:TS}
def lR(u:TS)(D:bK):L2.St->Hp->Prop:=u D
theorem aS{D:bK}{σ:L2.St}(h:u D σ H):lR u D σ H:=h
theorem nH{t:TS}{D:bK}{σ:L2.St}:tX t u D σ H=t {D with nx:=lR u D} σ H:=rfl
theorem tJ{t:TS}{D:bK}{σ:L2.St}:tW t u D σ H=∃Mid:L2.St->Hp->Prop,t {D with nx:=Mid} σ H/\∀σ' H',Mid σ' H'->lR u D σ' H':=rfl
end K76
local macro_rules | `(tactic| simp_arith! [$ts,*])=>`(tactic| simp_arith [-L2.rh,-L2.rg,K76.nH,K76.tJ,$ts,*])
namespace K76
open PySem L2 PyProof.Rows FA FB FS FP FG FO FR HTS
section
variable {P:Program} {w:World} {K:W.Frag} {mg:Str->Option Value} {base:Heap} {t:Ad}
theorem p8{o:FB.Opd}{H:Hp}{Q:VK}(h:Q (.bl (rX o.v)) H):nz K [o.v,.ty "str"] H Q:=by
 cases o with
 |box n=>exact r_isi_str_str.mpr h
 |word i=>exact r_isi_int_str.mpr h
theorem j5{f:Str}(h:f∈FB.opsL):¬f="tell":=by
 rintro rfl
 revert h
 decide +kernel
theorem ix0{d:FB.Deed}{H:Hp}{a:Addr}{Z:V->Hp->Prop}(f:d.fine)(hS:SqT K H a d.vs)(h:Z (.bl d.tells) H):∃xs v,SqT K H a xs/\atI xs 0=some v/\rEq v (.str "tell") H Z:=by
 cases d with
 |tell o=>exact zF _ _ hS rfl rfl h
 |copy n o=>exact zF _ _ hS rfl rfl h
 |op g n o p=>refine zF _ _ hS rfl rfl ?_;have e:decide (V.str g=V.str "tell")=false:=zq7 (fun z=>j5 f (V.str.inj z));rw [e];exact h
def cZ:FB.Deed->List FB.Opd
 | .tell a=>[a]
 | .copy _ a=>[a]
 | .op _ _ a b=>[a,b]
def wrV(d:FB.Deed):V:=match d.writes with | []=>.non | n::_=>.str n
def k8(K:W.Frag):Sp:=fun vs H Q _=>∃(a:Addr)(d:FB.Deed),vs=[.ref a]/\SqT K H a d.vs/\d.fine/\∀p,H p=none->Q (.ref p) (upd H p (.tup ((cZ d).map FB.Opd.v)))
def f6(K:W.Frag):Sp:=fun vs H Q _=>∃(a:Addr)(d:FB.Deed),vs=[.ref a]/\SqT K H a d.vs/\d.fine/\Q (wrV d) H
theorem mW{d:FB.Deed}:(cZ d).length<=2:=by cases d<;>simp [cZ]
theorem pz(T:Txt K mg t):FnOk P w K mg base CX0 1 t.f_5 t.e_5 ["deed"] (k8 K):=by
 refine T.d_5.F.ok x4 ∅ ?_;rintro cdv A outer s H vs Q E hr ⟨a,d,rfl,hS,hf,q⟩;refine ⟨_,
   (XSs.h
   (ak
    (ax (bA (aw bq (av aG (yqv 0 vl) ae) aq (aE _)) (bH nS (yqv 0 vl) (c3 ae) bZ) (bH nS (yqv 0 vl) (c3 ae) bZ))))),?_⟩
 rw [show aM _ [V.ref a]=[some (.ref a)] from rfl];rwa [];refine ix0 hf hS (zA _ rfl ?_)
 cases d with
 |tell o=>exact zD _ hS (eQ (k:=1) (show ¬HT.sIx 2 0 (some 1)=0 by decide)) q
 |copy n o=>exact zD _ hS (eQ (k:=2) (show ¬HT.sIx 3 0 (some 2)=0 by decide)) q
 |op f n o o2=>exact zD _ hS (eQ (k:=2) (show ¬HT.sIx 4 0 (some 2)=0 by decide)) q
theorem tL{a:Addr}{H:Hp}{Q:VK}{E:XK}:k8 K [.ref a] H Q E=∃d:FB.Deed,SqT K H a d.vs/\d.fine/\∀p,H p=none->Q (.ref p) (upd H p (.tup ((cZ d).map FB.Opd.v))):=propext ⟨by rintro ⟨_,d,e,q⟩;cases e;exact ⟨d,q⟩,by rintro ⟨d,q⟩;exact zE a d rfl q⟩
theorem j3(T:Txt K mg t):FnOk P w K mg base CX0 1 t.f_6 t.e_6 ["deed"] (f6 K):=by
 refine T.d_6.F.ok x5 ∅ ?_;rintro cdv A outer s H vs Q E hr ⟨a,d,rfl,hS,hf,q⟩;refine ⟨_,
   (XSs.h
   (ak
    (ax (bA (aw bq (av aG (yqv 0 vl) ae) aq (aE _)) cI (av aG (yqv 0 vl) ae))))),?_⟩
 rw [show aM _ [V.ref a]=[some (.ref a)] from rfl];rwa [];refine ix0 hf hS (zA _ rfl ?_)
 cases d with
 |tell o=>exact q
 |copy n o=>exact zB _ _ hS rfl q
 |op f n o o2=>exact zB _ _ hS rfl q
theorem fW{a:Addr}{H:Hp}{Q:VK}{E:XK}:f6 K [.ref a] H Q E=∃d:FB.Deed,SqT K H a d.vs/\d.fine/\Q (wrV d) H:=propext ⟨by rintro ⟨_,d,e,q⟩;cases e;exact ⟨d,q⟩,by rintro ⟨d,q⟩;exact zE a d rfl q⟩
def cT:Sp:=fun vs H Q _=>∃w:Int,vs=[.int w]/\0<=w/\w<=8/\Q (.int (2 ^ w.toNat)) H
theorem gG{w:Int}{H:Hp}{Q:VK}{E:XK}:cT [.int w] H Q E=(0<=w/\w<=8/\Q (.int (2 ^ w.toNat)) H):=propext ⟨by rintro ⟨_,e,q⟩;cases e;exact q,by intro q;exact zA w rfl q⟩
def dO:Sp:=fun vs H Q _=>∃(op:Str)(x y w:Int),vs=[.str op,.int x,.int y,.int w]/\0<=w/\w<=8/\Q (.int (gH op x y w)) H
theorem jd{op:Str}{x y w:Int}{H:Hp}{Q:VK}{E:XK}:dO [.str op,.int x,.int y,.int w] H Q E=(0<=w/\w<=8/\Q (.int (gH op x y w)) H):=propext ⟨by rintro ⟨_,_,_,_,e,q⟩;cases e;exact q,by intro q;exact zX op x y w rfl q⟩
theorem fz(T:Txt K mg t):FnOk P w K mg base CX0 1 t.f_3 t.e_3 ["width"] cT:=by
 refine T.d_3.F.ok sc_3 ∅ ?_;rintro cdv A outer s H vs Q E hr ⟨w,rfl,h0,h8,q⟩;refine ⟨_,
   (XSs.h
   (af
    (au (i:=1) sc_3.nd rfl ll ae)
   (af
    (di PassesOwn.never rfl (bp gl T.z_range (aa (yqv 0 vl) ai)) (bh (i:=2) sc_3.nd rfl ll)
     (ak
      (au (i:=1) sc_3.nd rfl ll (ao bB (yqv 1 vl) ae))))
   (ak
    (ax (yqv 1 vl)))))),?_⟩
 rw [show aM _ [V.int w]=[some (.int w),none,none] from rfl];rwa [];refine zC Jn Jn (cE (fun i σ H'=>H'=H/\∃b,σ=[some (.int w),some (.int (2 ^ i)),b]) ⟨rfl,none,rfl⟩ ?_ ?_)
 ·rintro i σ H2 hi ⟨rfl,b,rfl⟩;rwa [];exact ⟨.inr ⟨Jm,Jm⟩,_,by rw [Int.pow_succ]⟩
 ·rintro σ H2 ⟨rfl,b,rfl⟩;rwa [];exact q
theorem ic(T:Txt K mg t):FnOk P w K mg base CX0 2 t.f_4 t.e_4 ["op","x","y","width"] dO:=by
 have G_3:=@fz P w K mg base t T;refine T.d_4.F.ok x3 ∅ ?_;rintro cdv A outer s H vs Q E hr ⟨op,x,y,w,rfl,h0,h8,q⟩;refine ⟨_,
   (XSs.h
   (af
    (aO (aw bq (yqv 0 vl) aq (aE _))
     (ak
      (ax (ao aX (ao b8 (yqv 1 vl) (yqv 2 vl)) (ay T.d_3 G_3 hr.m (aa (yqv 3 vl) ai) gl))))
     aC)
   (af
    (aO (aw bq (yqv 0 vl) aq (aE _))
     (ak
      (ax (ao aX (ao eB (yqv 1 vl) (yqv 2 vl)) (ay T.d_3 G_3 hr.m (aa (yqv 3 vl) ai) gl))))
     aC)
   (af
    (aO (aw bq (yqv 0 vl) aq (aE _))
     (ak
      (ax (ao qr (yqv 1 vl) (yqv 2 vl))))
     aC)
   (af
    (aO (aw bq (yqv 0 vl) aq (aE _))
     (ak
      (ax (ao uh (yqv 1 vl) (yqv 2 vl))))
     aC)
   (af
    (aO (aw bq (yqv 0 vl) aq (aE _))
     (ak
      (ax (ao qt (yqv 1 vl) (yqv 2 vl))))
     aC)
   (af
    (aO (aw bq (yqv 0 vl) aq (aE _))
     (ak
      (ax (bA (aw ug (yqv 1 vl) (yqv 2 vl) (aE _)) ae ae)))
     aC)
   (ak
    (ax (bA (aw bq (yqv 1 vl) (yqv 2 vl) (aE _)) ae ae)))))))))),?_⟩
 rw [show aM _ [V.str op,V.int x,V.int y,V.int w]=[some (.str op),some (.int x),some (.int y),some (.int w)] from rfl];rwa [gG];unfold gH at q;have hp:(0:Int)<2 ^ w.toNat:=qL Jm;refine aA (fun e=>?_) (fun e=>?_)
 ·rw [zq2 e] at q;exact zG h0 h8 hp q
 rw [zq1 e] at q;refine aA (fun e=>?_) (fun e=>?_)
 ·rw [zq2 e] at q;exact zG h0 h8 hp q
 rw [zq1 e] at q;refine aA (fun e=>?_) (fun e=>?_)
 ·rw [zq2 e] at q;exact q
 rw [zq1 e] at q;refine aA (fun e=>?_) (fun e=>?_)
 ·rw [zq2 e] at q;exact q
 rw [zq1 e] at q;refine aA (fun e=>?_) (fun e=>?_)
 ·rw [zq2 e] at q;exact q
 rw [zq1 e] at q;refine aA (fun e=>?_) (fun e=>?_)
 ·rw [zq2 e] at q;refine aA (fun e=>?_) (fun e=>?_)
  ·rw [zq2 e] at q;exact q
  ·rw [zq1 e] at q;exact q
 rw [zq1 e] at q;refine aA (fun e=>?_) (fun e=>?_)
 ·rw [zq2 e] at q;exact q
 ·rw [zq1 e] at q;exact q
def ke(K:W.Frag):Sp:=fun vs H Q _=>∃(o:Opd)(bx:Addr)(b:Bx)(ns:List Str)(w:Int),vs=[o.v,.ref bx]/\H bx=some (.dK b)/\BxG ns w b/\Opd.good ns w o/\Q (.int (c9 b o)) H
def oR(K:W.Frag)(a:Addr)(bx:Addr)(w:Int)(H:Hp)(Q:VK):Prop:=∃(d:Deed)(b:Bx)(ns:List Str),SqT K H a d.vs/\H bx=some (.dK b)/\BxG ns w b/\d.fine/\Deed.good ns w d/\1<=w/\w<=8/\∀H',Same H H'->Q (.int (bQ b w d)) H'
def k7(K:W.Frag):Sp:=fun vs H Q _=>∃(a:Addr)(bx:Addr)(w:Int),vs=[.ref a,.ref bx,.int w]/\oR K a bx w H Q
theorem pC(T:Txt K mg t):FnOk P w K mg base CX0 1 t.f_7 t.e_7 ["operand","boxes"] (ke K):=by
 refine T.d_7.F.ok x6 ∅ ?_;rintro cdv A outer s H vs Q E hr ⟨o,bx,b,ns,w,rfl,hB,hG,ho,q⟩;have hu:=fO hr;refine ⟨_,
   (XSs.h
   (ak
    (ax (bA (eA (bI lX gl T.z_isinstance boot_isinstance (aa (yqv 0 vl) (aa (ow (v:=.ty "str") gl T.z_str boot_str rfl) ai)))) (dh hu (yqv 1 vl) (yqv 0 vl) (fun _ _=>rfl)) (yqv 0 vl))))),?_⟩
 rw [show aM _ [o.v,V.ref bx]=[some o.v,some (.ref bx)] from rfl];rwa [];refine p8 (zA _ rfl ?_)
 cases o with
 |box n=>exact zB bx _ rfl (.inl (zB b (.inr n) (.inl hB) rfl (hG.val ho).symm)) q
 |word i=>exact q
theorem tQ{o:Opd}{bx:Addr}{H:Hp}{Q:VK}{E:XK}:ke K [o.v,.ref bx] H Q E=∃(b:Bx)(ns:List Str)(w:Int),H bx=some (.dK b)/\BxG ns w b/\Opd.good ns w o/\Q (.int (c9 b o)) H:=
 propext ⟨fun ⟨o',_,b,ns,w,e,q⟩=>by
  have e2:o=o':=by
   injection e with e1 _
   cases o<;>cases o'<;>first | (injection e1 with e1;rw [e1]) | cases e1
  subst e2;injection e with _ e;injection e with e _;injection e with e;subst e;exact zO b ns w q,fun ⟨b,ns,w,q⟩=>zK o bx b ns w ⟨rfl,q⟩⟩
theorem kX{ns:List Str}{w:Int}{d:Deed}(h:Deed.good ns w d):∀o∈cZ d,Opd.good ns w o:=by
 cases d with
 |tell a=>intro o ho;rw [zq28.mp ho];exact h
 |copy n a=>intro o ho;rw [zq28.mp ho];exact h.2
 |op f n a c=>
  intro o ho;rcases zq8.mp ho with z | z
  ·rw [z];exact h.2.2.1
  ·rw [zq28.mp z];exact h.2.2.2
theorem pw(T:Txt K mg t):FnOk P w K mg base CX0 3 t.f_8 t.e_8 ["deed","boxes","width"] (k7 K):=by
 have G_5:=@pz P w K mg base t T;have G_7:=@pC P w K mg base t T;have G_4:=@ic P w K mg base t T;refine T.d_8.F.ok sc_8 ∅ ?_;rintro cdv A outer s H vs Q E hr ⟨a,bx,w,rfl,d,b,ns,hA,hB,hG,hf,hd,w1,w8,q⟩;refine ⟨_,
   (XSs.h
   (af
    (dQ (i:=3) sc_8.nd rfl ll rfl Jl (tns:=["operand"]) (cns:=["boxes"]) (ci:=[1]) rfl (CompSc.of Jl) (qm (ay T.d_5 G_5 hr.m (aa (yqv 0 vl) ai) gl)) (fun _=>(bh (i:=1) (show List.Nodup [(".0":Str),("operand":Str),("boxes":Str)] by decide +kernel) rfl ll (Or.inr Jl))) (fun _=>cJ) (fun _=>(ay T.d_7 G_7 hr.m (aa (yqv 1 vl) (aa (yqv 2 vc) ai)) gl)))
   (af
    (aO (aw bq (bI d5 gl T.z_len PySem.boot_len (aa (yqv 3 vl) ai)) ae (aE _))
     (ak
      (ax (av aW (yqv 3 vl) ae)))
     aC)
   (ak
    (ax (ay T.d_4 G_4 hr.m (aa (av aG (yqv 0 vl) ae) (aa (av aW (yqv 3 vl) ae) (aa (av aW (yqv 3 vl) ae) (aa (yqv 2 vl) ai)))) gl)))))),?_⟩
 rw [show aM _ [V.ref a,V.ref bx,V.int w]=[some (.ref a),some (.ref bx),some (.int w),none] from rfl];rwa [tL];refine zD d hA hf fun p hp=>⟨⟨_,SqT.of ac⟩,fun acc hacc bk=>?_⟩;have s1:Same H (upd H p (.tup ((cZ d).map Opd.v))):=Same.upd hp;refine oV (xs:=(cZ d).map Opd.v) (fun x=>match x with | .int i=>.int i | .str n=>.int (aH b n) | _=>.non) (by rw [bP,ck];have:=mW (d:=d);omega) (SqT.of ac) hacc (fun x hm H3 Q' s3 h=>?_) ?_
 ·obtain ⟨o,ho,rfl⟩:=zq34.mp hm;rwa [tQ];refine zQ b ns w (s3 _ _ (s1 _ _ hB)) hG (kX hd o ho) ?_
  cases o<;>exact h
 ·have em:List.map (fun x:V=>match x with | .int i=>V.int i | .str n=>V.int (aH b n) | _=>V.non) ((cZ d).map Opd.v)=(cZ d).map fun o=>V.int (c9 b o):=by
   rw [qJ];refine List.map_congr_left fun o _=>?_
   cases o<;>rfl
  rw [em];have s2:=s1.updN (o:=.lst ((cZ d).map fun o=>V.int (c9 b o))) hacc;have hA2:=s2.seqT hA;have hL:upd (upd H p (.tup ((cZ d).map Opd.v))) acc (.lst ((cZ d).map fun o=>V.int (c9 b o))) acc=some (.lst ((cZ d).map fun o=>V.int (c9 b o))):=ac;have q2:=q _ s2;generalize upd (upd H p (.tup ((cZ d).map Opd.v))) acc (.lst ((cZ d).map fun o=>V.int (c9 b o)))=H2 at s2 hA2 hL q2 ⊢
  cases d with
  |tell o=>exact zA _ (.inl (SqL.of hL)) (aA (fun _=>zB _ _ (SqL.of hL) rfl q2) (fun e=>absurd rfl e))
  |copy n o=>exact zA _ (.inl (SqL.of hL)) (aA (fun _=>zB _ _ (SqL.of hL) rfl q2) (fun e=>absurd rfl e))
  |op f n o o2=>refine zA _ (.inl (SqL.of hL)) (aA (fun e=>absurd (show ((2:Nat):Int)=1 from e) Jm) (fun _=>zB _ _ hA2 rfl (zB _ _ (SqL.of hL) rfl (zB _ _ (SqL.of hL) rfl ?_))));rwa [jd];exact zC Jn w8 q2
theorem nF{a bx:Addr}{w:Int}{H:Hp}{Q:VK}{E:XK}:k7 K [.ref a,.ref bx,.int w] H Q E=∃(d:Deed)(b:Bx)(ns:List Str),SqT K H a d.vs/\H bx=some (.dK b)/\BxG ns w b/\d.fine/\Deed.good ns w d/\1<=w/\w<=8/\∀H',Same H H'->Q (.int (bQ b w d)) H':=propext ⟨by rintro ⟨_,_,_,e,q⟩;cases e;exact q,fun q=>zL _ _ _ rfl q⟩
variable {H:Hp}
def WordsIn(H:Hp)(c:Addr)(ws:Bx)(ins:List Str)(w:Int):Prop:=Rd H c (.dK ws)/\∀n∈ins,∃x,dZ ws n=some x/\0<=x/\x<2 ^ w.toNat
theorem WordsIn.get{c:Addr}{ws:Bx}{ins:List Str}{w:Int}(h:WordsIn H c ws ins w):∀n∈ins,0<=aH ws n/\aH ws n<2 ^ w.toNat:=fun n hn=>by obtain ⟨x,e,h0,h1⟩:=h.2 n hn;unfold aH;rw [e];exact ⟨h0,h1⟩
theorem WordsIn.same{H':Hp}{c:Addr}{ws:Bx}{ins:List Str}{w:Int}(h:WordsIn H c ws ins w)(s:Same H H'):WordsIn H' c ws ins w:=⟨by
 rcases h.1 with z | ⟨o,z⟩
 ·exact .inl (s _ _ z)
 ·exact .inr ⟨o,s _ _ z⟩,h.2⟩
def lV(K:W.Frag)(C:Addr)(p:Addr)(c:Addr)(H:Hp)(Q:VK):Prop:=∃(wd:Int)(ins:List Str)(oth:List Str)(ss:List Stm)(a:Addr)(b:Addr)(r:Addr)(xs:List V)(f:List Addr)(ws:Bx),ProgAt K C H p wd ins oth ss a b r xs f/\WordsIn H c ws ins wd/\(ins++oth).length<=1000/\
 ∀l H',Same H H'->H l=none->H' l=some (.dK (aD ins ws (ins++oth)))->Q (.ref l) H'
def iu(K:W.Frag)(C:Addr):Sp:=fun vs H Q _=>∃(p:Addr)(c:Addr),vs=[.ref p,.ref c]/\lV K C p c H Q
theorem mM(T:Txt K mg t):FnOk P w K mg base CX0 1 t.f_9 t.e_9 ["program","words"] (iu K t.C_Program):=by
 refine T.d_9.F.ok sc_9 ∅ ?_;rintro cdv A outer s H vs Q E hr ⟨p,c,rfl,wd,ins,oth,ss,a,b,r,xs,f,ws,hP,hW,hl,q⟩;have hu:=fO hr;refine ⟨_,
   (XSs.h
   (af
    (au (i:=2) sc_9.nd rfl ll g7)
   (af
    (di PassesOwn.never rfl (fi (aI (yqv 0 vl) rfl)) (bh (i:=3) sc_9.nd rfl ll)
     (ak
      (iI hu (yqv 2 vl) (yqv 3 vl) (bA (aw kW (yqv 3 vl) (aI (yqv 0 vl) rfl) rfl) (dh hu (yqv 1 vl) (yqv 3 vl) (fun _ _=>rfl)) ae) rfl)))
   (ak
    (ax (yqv 2 vl)))))),?_⟩
 rw [show aM _ [V.ref p,V.ref c]=[some (.ref p),some (.ref c),none,none] from rfl];rwa [];intro l hl0;have s1:Same H (upd H l (.dK [])):=Same.upd hl0;obtain ⟨dx,hob⟩:=hP.ob;refine bN (s1 _ _ hob) T.c_Program.cl T.n_Program_boxes rfl ?_;refine zD b rfl ⟨_,SqL.of (s1 _ _ hP.bx)⟩ ?_;refine p6 (xs:=(ins++oth).map V.str) (fun i σ H'=>Same H H'/\H' l=some (.dK (aD ins ws ((ins++oth).take i)))/\∃o,σ=[some (.ref p),some (.ref c),some (.ref l),o])
  (zC s1 ac ⟨_,rfl⟩) (fun i σ H' _ h=>SqL.of (h.1 _ _ hP.bx)) ?_ ?_
 ·rintro i x σ H' hx ⟨sm,hd,o,rfl⟩;rw [jm] at hx;obtain ⟨n,hn,rfl⟩:=zq56.mp hx;obtain ⟨hi,hne⟩:=zq25.mp hn;rwa [];obtain ⟨dx,hob⟩:=hP.ob;refine bN (sm _ _ hob) T.c_Program.cl T.n_Program_ins rfl ?_;rwa [];have en:aD ins ws ((ins++oth).take (i+1))=b6 (aD ins ws ((ins++oth).take i)) (.inr n) (.int (if n∈ins then aH ws n else 0)):=by rw [qI hi,hne,dJ]
  have lb:(aD ins ws ((ins++oth).take i)).length<sizeLine:=by have:=(fM hW.get _ ((ins++oth).take i) rfl).2.1;rw [lJ] at this;rw [bP];omega
  refine zM _ (.inl (SqL.of (sm _ _ hP.ia))) rfl fN ?_;rw [jI];refine aA (fun e=>?_) (fun e=>?_)
  ·obtain ⟨x,hx,_⟩:=hW.2 n e;have hx2:aH ws n=x:=by unfold aH;rw [hx];rfl
   rw [zq2 e,hx2] at en;refine zB c (.int x) rfl (.inl (zB ws (.inr n) (hW.same sm).1 rfl (oj hx).symm)) (zM _ (DPut.k (k:=.inr n) hd lb) (sm.updM hl0) ?_ ⟨_,rfl⟩);rw [ac,en]
  ·rw [zq1 e] at en;refine zM _ (DPut.k (k:=.inr n) hd lb) (sm.updM hl0) ?_ ⟨_,rfl⟩;rw [ac,en]
 ·rintro σ H' ⟨sm,hd,o,rfl⟩;rwa [];rw [ck,lN] at hd;exact q l H' sm hl0 hd
theorem gF{C p c:Addr}{Q:VK}{E:XK}:iu K C [.ref p,.ref c] H Q E=∃(wd:Int)(ins oth:List Str)(ss:List Stm)(a b r:Addr)(xs:List V)(f:List Addr)(ws:Bx),ProgAt K C H p wd ins oth ss a b r xs f/\WordsIn H c ws ins wd/\(ins++oth).length<=1000/\
  ∀l H',Same H H'->H l=none->H' l=some (.dK (aD ins ws (ins++oth)))->Q (.ref l) H':=propext ⟨by rintro ⟨_,_,e,q⟩;cases e;exact q,fun q=>zE _ _ rfl q⟩
variable {E:XK} {Q:VK}
def vA(wd:Int)(lf bx td:Addr):List (Str×V):=[("width",.int wd),("left",.ref lf),("boxes",.ref bx),("told",.ref td)]
structure RunH(K:W.Frag)(C:Addr)(H0 H:Hp)(p lf bx td:Addr)(wd:Int)(st:Stt):Prop where
 same:Same H0 H
 ob:∃dx,H p=some (.ins C dx (vA wd lf bx td))
 rows:∃xs,H lf=some (.lst xs)/\Paired (fun x s=>∃f,StmV K H0 x s f) xs.reverse st.left
 bxs:H bx=some (.dK st.bx)
 tds:H td=some (.lst (st.told.map V.int))
 fr:H0 p=none/\H0 lf=none/\H0 bx=none/\H0 td=none
 ne:lf≠td
section
variable {K:W.Frag} {C p lf bx td:Addr} {H0 H H':Hp} {wd:Int} {st:Stt}
theorem RunH.mv(h:RunH K C H0 H p lf bx td wd st)(s:Same H H'):RunH K C H0 H' p lf bx td wd st:=
 ⟨h.same.trans s,let ⟨dx,e⟩:=h.ob;⟨dx,s _ _ e⟩,let ⟨xs,e,r⟩:=h.rows;(zA xs (s _ _ e) r),s _ _ h.bxs,s _ _ h.tds,h.fr,h.ne⟩
theorem RunH.left(h:RunH K C H0 H p lf bx td wd st){xs:List V}{l:List Stm}(r:Paired (fun x s=>∃f,StmV K H0 x s f) xs.reverse l):RunH K C H0 (upd H lf (.lst xs)) p lf bx td wd ⟨l,st.bx,st.told⟩:=by obtain ⟨dx,e⟩:=h.ob;obtain ⟨zs,ez,_⟩:=h.rows;exact ⟨h.same.updM h.fr.2.1,⟨dx,by rw [aj (b9 e ez (by intro z;cases z))];exact e⟩,zA xs ac r,by rw [aj (b9 h.bxs ez (by intro z;cases z))];exact h.bxs,by rw [aj h.ne.symm];exact h.tds,h.fr,h.ne⟩
theorem RunH.putB(h:RunH K C H0 H p lf bx td wd st){b:Bx}:RunH K C H0 (upd H bx (.dK b)) p lf bx td wd ⟨st.left,b,st.told⟩:=by obtain ⟨dx,e⟩:=h.ob;obtain ⟨zs,ez,r⟩:=h.rows;exact ⟨h.same.updM h.fr.2.2.1,⟨dx,by rw [aj (b9 e h.bxs (by intro z;cases z))];exact e⟩,zA zs (by rw [aj (b9 ez h.bxs (by intro z;cases z))];exact ez) r,ac,by rw [aj (b9 h.tds h.bxs (by intro z;cases z))];exact h.tds,h.fr,h.ne⟩
theorem RunH.putT(h:RunH K C H0 H p lf bx td wd st){t:List Int}:RunH K C H0 (upd H td (.lst (t.map V.int))) p lf bx td wd ⟨st.left,st.bx,t⟩:=by obtain ⟨dx,e⟩:=h.ob;obtain ⟨zs,ez,r⟩:=h.rows;exact ⟨h.same.updM h.fr.2.2.2,⟨dx,by rw [aj (b9 e h.tds (by intro z;cases z))];exact e⟩,zA zs (by rw [aj h.ne];exact ez) r,by rw [aj (b9 h.bxs h.tds (by intro z;cases z))];exact h.bxs,ac,h.fr,h.ne⟩
end
def oS(K:W.Frag)(C:Addr)(p:Addr)(H:Hp)(Q:VK):Prop:=∃(H0:Hp)(lf:Addr)(bx:Addr)(td:Addr)(wd:Int)(st:Stt),RunH K C H0 H p lf bx td wd st/\∀H',Same H H'->Q (.bl (decide (st.left.length=0))) H'
def k9(K:W.Frag)(C:Addr):Sp:=fun vs H Q _=>∃(p:Addr),vs=[.ref p]/\oS K C p H Q
def lU(K:W.Frag)(C:Addr)(p:Addr)(r:Addr)(H:Hp)(Q:VK):Prop:=∃(H0:Hp)(lf:Addr)(bx:Addr)(td:Addr)(wd:Int)(st:Stt)(ys:List V)(ss:List Stm)(f:List Addr),RunH K C H0 H p lf bx td wd st/\H0 r=some (.lst ys)/\StmsV K H0 ys ss f/\st.left.length+ss.length<=10000000/\
 ∀H',RunH K C H0 H' p lf bx td wd ⟨ss++st.left,st.bx,st.told⟩->Q .non H'
def iq(K:W.Frag)(C:Addr):Sp:=fun vs H Q _=>∃(p:Addr)(r:Addr),vs=[.ref p,.ref r]/\lU K C p r H Q
def oQ(K:W.Frag)(C:Addr)(p:Addr)(q:Addr)(H:Hp)(Q:VK):Prop:=∃(H0:Hp)(lf:Addr)(bx:Addr)(td:Addr)(wd:Int)(st:Stt)(ns:List Str)(n:Str)(a:List Stm)(f:List Addr),RunH K C H0 H p lf bx td wd st/\StmV K H0 (.ref q) (.whl n a) f/\BxG ns wd st.bx/\n∈ns/\st.left.length+a.length<=9000000/\
 ∀H',RunH K C H0 H' p lf bx td wd ⟨if aH st.bx n≠0 then a++.whl n a::st.left else st.left,st.bx,st.told⟩->Q .non H'
def k6(K:W.Frag)(C:Addr):Sp:=fun vs H Q _=>∃(p:Addr)(q:Addr),vs=[.ref p,.ref q]/\oQ K C p q H Q
def kq(K:W.Frag)(C:Addr)(p:Addr)(q:Addr)(H:Hp)(Q:VK):Prop:=∃(H0:Hp)(lf:Addr)(bx:Addr)(td:Addr)(wd:Int)(st:Stt)(ns:List Str)(d:Deed),RunH K C H0 H p lf bx td wd st/\SqT K H q d.vs/\d.fine/\Deed.good ns wd d/\BxG ns wd st.bx/\1<=wd/\wd<=8/\st.told.length<=1000000/\
 ∀H',RunH K C H0 H' p lf bx td wd ⟨st.left,doB wd d st.bx,doT wd d st.bx st.told⟩->Q .non H'
def fX(K:W.Frag)(C:Addr):Sp:=fun vs H Q _=>∃(p:Addr)(q:Addr),vs=[.ref p,.ref q]/\kq K C p q H Q
theorem bg{H0:Hp}{xs:List V}{l:List Stm}(r:Paired (fun x s=>∃f,StmV K H0 x s f) xs.reverse l):xs.length=l.length:=by have:=r.length;rw [uw] at this;exact this
theorem pA(T:Txt K mg t):FnOk P w K mg base CX0 1 t.f_11 t.e_11 ["self"] (k9 K t.C_Run):=by
 refine T.d_11.F.ok vR ∅ ?_;rintro cdv A outer s H vs Q E hr ⟨p,rfl,H0,lf,bx,td,wd,st,hR,q⟩;refine ⟨_,
   (XSs.h
   (ak
    (ax (fh (sv (n:=0) (kJ Jm hr)) (aI (yqv 0 vl) rfl) (bj ai) (aE _))))),?_⟩
 rw [show aM _ [V.ref p]=[some (.ref p)] from rfl];rwa [];obtain ⟨dx,e⟩:=hR.ob;obtain ⟨xs,ex,r⟩:=hR.rows;refine bN e T.c_Run.cl T.n_Run_left rfl ?_;intro l hl;have lx:=bg r;have s1:=Same.upd (o:=.lst []) hl;refine zA (decide (st.left.length=0)) ?_ (q _ s1)
 by_cases h:xs.length=0
 ·have z:=Rq.lists (K:=K) (H:=upd H l (.lst [])) (n:=0) (a:=lf) (b:=l) (xs:=xs) (ys:=[]) (fun _=>true) (SqL.of (s1 _ _ ex)) (SqL.of ac) h (fun j x y hx hy=>by simp at hy);rw [h] at z;rw [cm Jn];exact z
 ·rw [zq7 Jn];exact Rq.lens (SqL.of (s1 _ _ ex)) (SqL.of ac) h
theorem i9(T:Txt K mg t):FnOk P w K mg base CX0 1 t.f_15 t.e_15 ["self","rows"] (iq K t.C_Run):=by
 refine T.d_15.F.ok vT ∅ ?_;rintro cdv A outer s H vs Q E hr ⟨p,r,rfl,H0,lf,bx,td,wd,st,ys,ss,f,hR,hr0,hS,hl,q⟩;refine ⟨_,
   (XSs.h
   (ak
    (bw (gL PySem.F.plainAttrs_list PySem.F.slot_list_extend PySem.F.type_list_extend kQ (aI (yqv 0 vl) rfl) (aa (dP rfl T.z_list T.z_reversed (aa (yqv 1 vl) ai) gl gl) ai))))),?_⟩
 rw [show aM _ [V.ref p,V.ref r]=[some (.ref p),some (.ref r)] from rfl];rwa [];obtain ⟨dx,e⟩:=hR.ob;obtain ⟨xs,ex,rr⟩:=hR.rows;have lx:=bg rr;have ly:=hS.length;refine bN e T.c_Run.cl T.n_Run_left rfl ?_;refine ⟨.inl ⟨rfl,_,SqL.of ex⟩,zA ys (SqL.of (hR.same _ _ hr0)) fun l hl=>?_⟩;have s1:=Same.upd (o:=.lst ys.reverse) hl;refine zW lf l xs ys.reverse rfl rfl (s1 _ _ ex) ac (by rw [uw,bP];omega) ?_;refine q _ ((hR.mv s1).left (st:=st) (xs:=xs++ys.reverse) (l:=ss++st.left) ?_);rw [uz,uA];refine Paired.app ?_ rr;have key:∀{zs:List V} {us:List Stm} {g:List Addr},StmsV K H0 zs us g->Paired (fun x s=>∃f,StmV K H0 x s f) zs us:=by
  intro zs us g h
  induction zs generalizing us g with
  |nil=>cases h;exact .nil
  |cons z zs ih=>cases h with | cons h1 h2=>exact .cons ⟨_,h1⟩ (ih h2)
 exact key hS
theorem bE{C p r:Addr}{H:Hp}:iq K C [.ref p,.ref r] H Q E=∃(H0:Hp)(lf bx td:Addr)(wd:Int)(st:Stt)(ys:List V)(ss:List Stm)(f:List Addr),RunH K C H0 H p lf bx td wd st/\H0 r=some (.lst ys)/\StmsV K H0 ys ss f/\st.left.length+ss.length<=10000000/\
  ∀H',RunH K C H0 H' p lf bx td wd ⟨ss++st.left,st.bx,st.told⟩->Q .non H':=propext ⟨by rintro ⟨_,_,e,q⟩;cases e;exact q,fun q=>zE _ _ rfl q⟩
theorem pv(T:Txt K mg t):FnOk P w K mg base CX0 2 t.f_13 t.e_13 ["self","row"] (k6 K t.C_Run):=by
 have G_15:=@i9 P w K mg base t T;refine T.d_13.F.ok vS ∅ ?_;rintro cdv A outer s H vs Q E hr ⟨p,qw,rfl,H0,lf,bx,td,wd,st,ns,n,a,f,hR,hW,hG,hn,hl,q⟩;have hu:=fO hr;refine ⟨_,
   (XSs.h
   (ak
    (aO (aw qY (dh hu (aI (yqv 0 vl) rfl) (av aG (yqv 1 vl) ae) (fun _ _=>rfl)) ae (aE _))
     (af
      (bw (gL PySem.F.plainAttrs_list PySem.F.slot_list_append PySem.F.type_list_append cF (aI (yqv 0 vl) rfl) (aa (yqv 1 vl) ai)))
     (ak
      (bw (cK T.c_Run.cl T.d_15 G_15 hr.m (yqv 0 vl) (aa (av aG (yqv 1 vl) ae) ai)))))
     aC))),?_⟩
 rw [show aM _ [V.ref p,V.ref qw]=[some (.ref p),some (.ref qw)] from rfl];rwa [bE];obtain ⟨dx,e⟩:=hR.ob;obtain ⟨xs,ex,rr⟩:=hR.rows;have lx:=bg rr
 cases hW with
 | @whl _ ar _ ys _ f hq har hys=>
 have hq1:=hR.same.seqT hq;refine bN e T.c_Run.cl T.n_Run_boxes rfl ?_;refine zB _ _ hq1 rfl (zB bx _ rfl (.inl (zB st.bx (.inr n) (.inl hR.bxs) rfl (hG.val hn).symm)) ?_);rwa [];refine hX (fun h0=>?_) (fun h0=>?_)
 ·rw [zq2 h0] at q;refine bN e T.c_Run.cl T.n_Run_left rfl ⟨.inl ⟨rfl,_,SqL.of ex⟩,zJ lf xs _ rfl rfl ex (by rw [bP];omega) ?_⟩;have hR2:=hR.left (xs:=xs++[.ref qw]) (l:=.whl n a::st.left) (by rw [uz];exact .cons ⟨_,.whl hq har hys⟩ rr);obtain ⟨dx2,e2⟩:=hR2.ob;refine dz e2 rfl (zB _ _ (hR2.same.seqT hq) rfl ?_);rwa [bE];exact zZ H0 lf bx td wd _ ys a f (zH hR2 har hys (by show (_::st.left).length+_<=_;rw [bW];omega) fun H' h=>q H' h)
 ·rw [zq1 (fun z=>z h0)] at q;exact q _ hR
theorem eX{C p qw:Addr}{H:Hp}:k6 K C [.ref p,.ref qw] H Q E=∃(H0:Hp)(lf bx td:Addr)(wd:Int)(st:Stt)(ns:List Str)(n:Str)(a:List Stm)(f:List Addr),RunH K C H0 H p lf bx td wd st/\StmV K H0 (.ref qw) (.whl n a) f/\BxG ns wd st.bx/\n∈ns/\st.left.length+a.length<=9000000/\
  ∀H',RunH K C H0 H' p lf bx td wd ⟨if aH st.bx n≠0 then a++.whl n a::st.left else st.left,st.bx,st.told⟩->Q .non H':=propext ⟨by rintro ⟨_,_,e,q⟩;cases e;exact q,fun q=>zE _ _ rfl q⟩
theorem kU(T:Txt K mg t):FnOk P w K mg base CX0 4 t.f_14 t.e_14 ["self","deed"] (fX K t.C_Run):=by
 have G_8:=@pw P w K mg base t T;have G_6:=@j3 P w K mg base t T;refine T.d_14.F.ok sc_14 ∅ ?_;rintro cdv A outer s H vs Q E hr ⟨p,qd,rfl,H0,lf,bx,td,wd,st,ns,d,hR,hq,hf,hd,hG,w1,w8,hl,q⟩;have hu:=fO hr;refine ⟨_,
   (XSs.h
   (af
    (au (i:=2) sc_14.nd rfl ll (ay T.d_8 G_8 hr.m (aa (yqv 1 vl) (aa (aI (yqv 0 vl) rfl) (aa (aI (yqv 0 vl) rfl) ai))) gl))
   (af
    (au (i:=3) sc_14.nd rfl ll (ay T.d_6 G_6 hr.m (aa (yqv 1 vl) ai) gl))
   (ak
    (aO (aw mV (yqv 3 vl) cI (aE _))
     (ak
      (bw (gL PySem.F.plainAttrs_list PySem.F.slot_list_append PySem.F.type_list_append cF (aI (yqv 0 vl) rfl) (aa (yqv 2 vl) ai))))
     (ak
      (iI hu (aI (yqv 0 vl) rfl) (yqv 3 vl) (yqv 2 vl) rfl))))))),?_⟩
 rw [show aM _ [V.ref p,V.ref qd]=[some (.ref p),some (.ref qd),none,none] from rfl];rwa [nF,fW];obtain ⟨dx,e⟩:=hR.ob;refine bN e T.c_Run.cl T.n_Run_boxes rfl (bN e T.c_Run.cl T.n_Run_width rfl ?_);rwa [nF,fW];refine zO d st.bx ns (ze hq hR.bxs hG hf hd w1 w8 fun H1 s1=>zD d (s1.seqT hq) hf ?_);have hR1:=hR.mv s1;obtain ⟨dx1,e1⟩:=hR1.ob;have few:=hG.few
 cases d with
 |tell o=>
  refine aA (fun _=>bN e1 T.c_Run.cl T.n_Run_told rfl ⟨.inl ⟨rfl,_,SqL.of hR1.tds⟩,zJ td _ _ rfl rfl hR1.tds (by rw [ck,bP];omega) ?_⟩) (fun z=>absurd rfl z);have:=hR1.putT (t:=st.told++[bQ st.bx wd (.tell o)]);rw [fm] at this;exact q _ this
 |copy n o=>
  refine aA (fun z=>absurd z (by intro z;cases z)) (fun _=>bN e1 T.c_Run.cl T.n_Run_boxes rfl ?_);exact zB bx _ rfl (DPut.k (k:=.inr n) hR1.bxs (by rw [bP];omega)) (q _ hR1.putB)
 |op g n o o2=>refine aA (fun z=>absurd z (by intro z;cases z)) (fun _=>bN e1 T.c_Run.cl T.n_Run_boxes rfl ?_);exact zB bx _ rfl (DPut.k (k:=.inr n) hR1.bxs (by rw [bP];omega)) (q _ hR1.putB)
theorem cx{C p qd:Addr}{H:Hp}:fX K C [.ref p,.ref qd] H Q E=∃(H0:Hp)(lf bx td:Addr)(wd:Int)(st:Stt)(ns:List Str)(d:Deed),RunH K C H0 H p lf bx td wd st/\SqT K H qd d.vs/\d.fine/\Deed.good ns wd d/\BxG ns wd st.bx/\1<=wd/\wd<=8/\st.told.length<=1000000/\
  ∀H',RunH K C H0 H' p lf bx td wd ⟨st.left,doB wd d st.bx,doT wd d st.bx st.told⟩->Q .non H':=propext ⟨by rintro ⟨_,_,e,q⟩;cases e;exact q,fun q=>zE _ _ rfl q⟩
variable {E:XK} {H:Hp} {Q:VK} {p:Addr}
def oU(K:W.Frag)(C:Addr)(p:Addr)(H:Hp)(Q:VK):Prop:=∃(H0:Hp)(lf:Addr)(bx:Addr)(td:Addr)(wd:Int)(st:Stt)(ns:List Str)(k:Nat),RunH K C H0 H p lf bx td wd st/\SG ns wd k st/\k<=5000/\¬st.left.length=0/\∀H',RunH K C H0 H' p lf bx td wd (aT wd st)->Q .non H'
def kc(K:W.Frag)(C:Addr):Sp:=fun vs H Q _=>∃(p:Addr),vs=[.ref p]/\oU K C p H Q
theorem pB(T:Txt K mg t):FnOk P w K mg base CX0 5 t.f_12 t.e_12 ["self"] (kc K t.C_Run):=by
 have G_15:=@i9 P w K mg base t T;have G_13:=@pv P w K mg base t T;have G_14:=@kU P w K mg base t T;refine T.d_12.F.ok sc_12 ∅ ?_;rintro cdv A outer s H vs Q E hr ⟨p,rfl,H0,lf,bx,td,wd,st,ns,k,hR,hG,hk,hne,q⟩;have hu:=fO hr;refine ⟨_,
   (XSs.h
   (af
    (au (i:=1) sc_12.nd rfl ll (ql PySem.F.plainAttrs_list PySem.F.slot_list_pop PySem.F.type_list_pop sj (aI (yqv 0 vl) rfl)))
   (ak
    (aO (aw bq (av aG (yqv 1 vl) ae) aq (aE _))
     (ak
      (bw (cK T.c_Run.cl T.d_15 G_15 hr.m (yqv 0 vl) (aa (bA (aw qY (dh hu (aI (yqv 0 vl) rfl) (av aG (yqv 1 vl) ae) (fun _ _=>rfl)) ae (aE _)) (av aG (yqv 1 vl) ae) (av aG (yqv 1 vl) ae)) ai))))
     (ak
      (aO (aw bq (av aG (yqv 1 vl) ae) aq (aE _))
       (ak
        (bw (cK T.c_Run.cl T.d_13 G_13 hr.m (yqv 0 vl) (aa (yqv 1 vl) ai))))
       (ak
        (bw (cK T.c_Run.cl T.d_14 G_14 hr.m (yqv 0 vl) (aa (yqv 1 vl) ai)))))))))),?_⟩
 rw [show aM _ [V.ref p]=[some (.ref p),none] from rfl];rwa [bE,eX,cx];obtain ⟨dx,e⟩:=hR.ob;obtain ⟨xs,ex,rr⟩:=hR.rows;have lx:=bg rr;obtain ⟨left,bb,told⟩:=st;dsimp only at rr lx hne;have ll:=hG.len;have lt:=hG.told;dsimp only at ll lt
 cases left with
 |nil=>exact absurd rfl hne
 |cons s1 ss=>
 obtain ⟨xs',x,rfl⟩:∃xs' x,xs=xs'++[x]:=⟨xs.dropLast,xs.getLast (by intro z;rw [z] at lx;simp at lx),(rK _).symm⟩
 rw [uz] at rr;obtain ⟨hx,rr'⟩:(∃f,StmV K H0 x s1 f)/\Paired (fun x s=>∃f,StmV K H0 x s f) xs'.reverse ss:=by
  cases rr with
  |cons h t=>exact ⟨h,t⟩
 obtain ⟨f1,hx⟩:=hx;have hm:s1.many<=1000:=hG.many s1 Jo;have hgd:s1.good ns wd/\b7 ns wd ss:=hG.gd;have hbx:BxG ns wd bb:=hG.bx;have hR2:=hR.left (xs:=xs') (l:=ss) rr';have hR2':RunH K t.C_Run H0 (upd H lf (.lst xs')) p lf bx td wd ⟨ss,bb,told⟩:=hR2;rw [bW] at ll;refine bN e T.c_Run.cl T.n_Run_left rfl ⟨.inl ⟨rfl,_,SqL.of ex⟩,zJ lf (xs'++[x]) x rfl rfl ex Jo ?_⟩;have edl:(xs'++[x]).dropLast=xs':=by simp
 rw [edl];obtain ⟨dx2,e2⟩:=hR2.ob;generalize upd H lf (.lst xs')=H2 at hR2 hR2' e2 ⊢;rwa [bE,eX,cx]
 cases hx with
 | @deed qd d hf hq=>
  rwa [bE,eX,cx];refine fK hf (hR2.same.seqT hq) Jk Jk Jk (zA _ rfl ?_);rw [zq1 zq6];refine fK hf (hR2.same.seqT hq) Jk Jk Jk (zA _ rfl ?_);rw [zq1 zq6];refine dz e2 rfl (zg H0 lf bx td wd _ ns d (zj hR2' (hR2.same.seqT hq) hf hgd.1 hbx hG.wd.1 hG.wd.2 (by dsimp only;omega) fun H' h=>q H' h))
 | @ifs qd ar br n ys zs a b fa fb hq ha hb hya hyb=>
  rwa [bE,eX,cx];have hq2:=hR2.same.seqT hq;obtain ⟨hn,ga,gb⟩:n∈ns/\b7 ns wd a/\b7 ns wd b:=hgd.1;have la:=bf a;have lb:=bf b;simp only [Stm.many] at hm;refine zF _ _ hq2 rfl rfl (zA true rfl ?_);rw [zq2 rfl];refine dz e2 rfl (bN e2 T.c_Run.cl T.n_Run_boxes rfl (zB _ _ hq2 rfl (zB bx _ rfl (.inl (zB bb (.inr n) (.inl hR2'.bxs) rfl (hbx.val hn).symm)) ?_)));have q2:∀H',RunH K t.C_Run H0 H' p lf bx td wd ⟨(if aH bb n≠0 then a else b)++ss,bb,told⟩->Q .non H':=q;rwa [];refine hX (fun h0=>zB _ _ hq2 rfl ?_) (fun h0=>zB _ _ hq2 rfl ?_)
  ·rwa [bE];rw [zq2 h0] at q2;exact zZ H0 lf bx td wd _ ys a fa (zH hR2' ha hya (by dsimp only;omega) fun H' h=>q2 H' h)
  ·rwa [bE];rw [zq1 (fun z=>z h0)] at q2;exact zZ H0 lf bx td wd _ zs b fb (zH hR2' hb hyb (by dsimp only;omega) fun H' h=>q2 H' h)
 | @whl qd ar n ys a f hq ha hy=>have hq2:=hR2.same.seqT hq;obtain ⟨hn,ga⟩:n∈ns/\b7 ns wd a:=hgd.1;have la:=bf a;simp only [Stm.many] at hm;rwa [bE,eX,cx];refine zF _ _ hq2 rfl rfl (zA false Jk ?_);rw [zq1 zq6];refine zF _ _ hq2 rfl rfl (zA true rfl ?_);rw [zq2 rfl];exact dz e2 rfl (zi H0 lf bx td wd _ ns n a _ (zI hR2' (.whl hq ha hy) hbx hn (by dsimp only;omega) fun H' h=>q H' h))
theorem cy{C:Addr}:kc K C [.ref p] H Q E=∃(H0:Hp)(lf bx td:Addr)(wd:Int)(st:Stt)(ns:List Str)(k:Nat),RunH K C H0 H p lf bx td wd st/\SG ns wd k st/\k<=5000/\¬st.left.length=0/\∀H',RunH K C H0 H' p lf bx td wd (aT wd st)->Q .non H':=propext ⟨by rintro ⟨_,e,q⟩;cases e;exact q,fun q=>zA _ rfl q⟩
theorem d3{C:Addr}:k9 K C [.ref p] H Q E=∃(H0:Hp)(lf bx td:Addr)(wd:Int)(st:Stt),RunH K C H0 H p lf bx td wd st/\∀H',Same H H'->Q (.bl (decide (st.left.length=0))) H':=propext ⟨by rintro ⟨_,e,q⟩;cases e;exact q,fun q=>zA _ rfl q⟩
def lW(K:W.Frag)(C CP:Addr)(p:Addr)(pp:Addr)(c:Addr)(H:Hp)(Q:VK):Prop:=∃(H0:Hp)(dx:Addr)(wd:Int)(ins:List Str)(oth:List Str)(ss:List Stm)(a:Addr)(b:Addr)(r:Addr)(xs:List V)(f:List Addr)(ws:Bx),Same H0 H/\H0 p=none/\H p=some (.ins C dx [])/\
 ProgAt K CP H0 pp wd ins oth ss a b r xs f/\WordsIn H0 c ws ins wd/\(ins++oth).length<=1000/\ss.length<=1000/\
 ∀lf bx td H',RunH K C H0 H' p lf bx td wd ⟨ss,aD ins ws (ins++oth),[]⟩->Q .non H'
def iy(K:W.Frag)(C CP:Addr):Sp:=fun vs H Q _=>∃(p:Addr)(pp:Addr)(c:Addr),vs=[.ref p,.ref pp,.ref c]/\lW K C CP p pp c H Q
theorem mQ(T:Txt K mg t):FnOk P w K mg base CX0 2 t.f_10 t.e_10 ["self","program","words"] (iy K t.C_Run t.C_Program):=by
 have G_9:=@mM P w K mg base t T;refine T.d_10.F.ok vQ ∅ ?_;rintro cdv A outer s H vs Q E hr ⟨p,pp,c,rfl,H0,dx,wd,ins,oth,ss,a,b,r,xs,f,ws,s0,hp0,hp,hP,hW,hl,hs,q⟩;refine ⟨_,
   (XSs.h
   (af
    (bS (yqv 0 vl) (aI (yqv 1 vl) rfl) rfl)
   (af
    (bS (yqv 0 vl) (dP rfl T.z_list T.z_reversed (aa (aI (yqv 1 vl) rfl) ai) gl gl) rfl)
   (af
    (bS (yqv 0 vl) (ay T.d_9 G_9 hr.m (aa (yqv 1 vl) (aa (yqv 2 vl) ai)) gl) rfl)
   (ak
    (bS (yqv 0 vl) (bj ai) rfl)))))),?_⟩
 rw [show aM _ [V.ref p,V.ref pp,V.ref c]=[some (.ref p),some (.ref pp),some (.ref c)] from rfl];rwa [gF];obtain ⟨dxp,hob⟩:=hP.ob;refine bN (s0 _ _ hob) T.c_Program.cl T.n_Program_width rfl (hU hp T.c_Run.cl T.n_Run_width Jo ?_);rw [bv Jp,uB];have s1:=s0.updM (o:=.ins t.C_Run dx [("width",V.int wd)]) hp0;have e1:upd H p (.ins t.C_Run dx [("width",V.int wd)]) p=some (.ins t.C_Run dx [("width",V.int wd)]):=ac;generalize upd H p (.ins t.C_Run dx [("width",V.int wd)])=H1 at s1 e1 ⊢;rwa [gF];refine bN (s1 _ _ hob) T.c_Program.cl T.n_Program_rows rfl (zB r xs rfl (SqL.of (s1 _ _ hP.rs)) fun lf hlf=>?_);have f2:=s1.free hlf;have s2:=s1.updN (o:=.lst xs.reverse) hlf;have nlf:p≠lf:=am e1 hlf;have g2:upd H1 lf (.lst xs.reverse) lf=some (.lst xs.reverse):=ac;have e2:upd H1 lf (.lst xs.reverse) p=some (.ins t.C_Run dx [("width",V.int wd)]):=by rw [aj nlf];exact e1
 generalize upd H1 lf (.lst xs.reverse)=H2 at s2 g2 e2 ⊢;refine hU e2 T.c_Run.cl T.n_Run_left Jo ?_;rw [bv Jl];have s3:=s2.updM (o:=.ins t.C_Run dx ([(("width":Str),V.int wd)]++[(("left":Str),V.ref lf)])) hp0;have e3:upd H2 p (.ins t.C_Run dx ([(("width":Str),V.int wd)]++[(("left":Str),V.ref lf)])) p=some (.ins t.C_Run dx ([(("width":Str),V.int wd)]++[(("left":Str),V.ref lf)])):=ac;have g3:upd H2 p (.ins t.C_Run dx ([(("width":Str),V.int wd)]++[(("left":Str),V.ref lf)])) lf=some (.lst xs.reverse):=by rw [aj nlf.symm];exact g2
 generalize upd H2 p (.ins t.C_Run dx ([(("width":Str),V.int wd)]++[(("left":Str),V.ref lf)]))=H3 at s3 e3 g3 ⊢;rwa [gF];refine zi wd ins oth ss a b r xs f ws (zG (hP.same s3) (hW.same s3) hl fun bx H4 s4 hbx gb=>?_);refine hU (s4 _ _ e3) T.c_Run.cl T.n_Run_boxes Jo ?_;rw [bv Jl];have nbx:bx≠p:=(am e3 hbx).symm;have fb:=s3.free hbx;have s5:=(s3.trans s4).updM (o:=.ins t.C_Run dx ([(("width":Str),V.int wd)]++[(("left":Str),V.ref lf)]++[(("boxes":Str),V.ref bx)])) hp0;have e5:upd H4 p (.ins t.C_Run dx ([(("width":Str),V.int wd)]++[(("left":Str),V.ref lf)]++[(("boxes":Str),V.ref bx)])) p=some (.ins t.C_Run dx ([(("width":Str),V.int wd)]++[(("left":Str),V.ref lf)]++[(("boxes":Str),V.ref bx)])):=ac;have g5:upd H4 p (.ins t.C_Run dx ([(("width":Str),V.int wd)]++[(("left":Str),V.ref lf)]++[(("boxes":Str),V.ref bx)])) lf=some (.lst xs.reverse):=by rw [aj nlf.symm];exact s4 _ _ g3
 have b5:upd H4 p (.ins t.C_Run dx ([(("width":Str),V.int wd)]++[(("left":Str),V.ref lf)]++[(("boxes":Str),V.ref bx)])) bx=some (.dK (aD ins ws (ins++oth))):=by rw [aj nbx];exact gb
 generalize upd H4 p (.ins t.C_Run dx ([(("width":Str),V.int wd)]++[(("left":Str),V.ref lf)]++[(("boxes":Str),V.ref bx)]))=H5 at s5 e5 g5 b5 ⊢;rwa [];intro td htd;have ntd:p≠td:=am e5 htd;have ft:=s5.free htd;have s6:=Same.upd (o:=.lst []) htd;refine hU (s6 _ _ e5) T.c_Run.cl T.n_Run_told Jo ?_;rw [bv Jl];refine q lf bx td _ ⟨(s5.trans s6).updM hp0,⟨dx,ac⟩,zA xs.reverse ?_ ?_,?_,?_,zG hp0 f2 fb ft,am g5 htd⟩
 ·rw [aj nlf.symm];exact s6 _ _ g5
 ·rw [uA];have key:∀{zs:List V} {us:List Stm} {g:List Addr},StmsV K H0 zs us g->Paired (fun x s=>∃f,StmV K H0 x s f) zs us:=by
   intro zs us g h
   induction zs generalizing us g with
   |nil=>cases h;exact .nil
   |cons z zs ih=>cases h with | cons h1 h2=>exact .cons ⟨_,h1⟩ (ih h2)
  exact key hP.st
 ·rw [aj nbx];exact s6 _ _ b5
 ·rw [aj ntd.symm];exact ac
theorem el{C CP pp c:Addr}:iy K C CP [.ref p,.ref pp,.ref c] H Q E=∃(H0:Hp)(dx:Addr)(wd:Int)(ins oth:List Str)(ss:List Stm)(a b r:Addr)(xs:List V)(f:List Addr)(ws:Bx),Same H0 H/\H0 p=none/\H p=some (.ins C dx [])/\
  ProgAt K CP H0 pp wd ins oth ss a b r xs f/\WordsIn H0 c ws ins wd/\(ins++oth).length<=1000/\ss.length<=1000/\
  ∀lf bx td H',RunH K C H0 H' p lf bx td wd ⟨ss,aD ins ws (ins++oth),[]⟩->Q .non H':=propext ⟨by rintro ⟨_,_,_,e,q⟩;cases e;exact q,fun q=>zL _ _ _ rfl q⟩
def ProgIn(K:W.Frag)(C:Addr)(H:Hp)(pp c:Addr)(wd:Int)(ins oth:List Str)(ss:List Stm)(ws:Bx):Prop:=(∃a b r xs f,ProgAt K C H pp wd ins oth ss a b r xs f)/\WordsIn H c ws ins wd/\1<=wd/\wd<=8/\(ins++oth).length<=1000/\b7 (ins++oth) wd ss/\aK ss<=1000
theorem ProgIn.sg{C pp c:Addr}{wd:Int}{ins oth:List Str}{ss:List Stm}{ws:Bx}(h:ProgIn K C H pp c wd ins oth ss ws):SG (ins++oth) wd 0 ⟨ss,aD ins ws (ins++oth),[]⟩:=
 ⟨⟨h.2.2.1,h.2.2.2.1⟩,h9 h.2.1.get h.2.2.2.2.1,h.2.2.2.2.2.1,fun x hx=>bO (cv hx) h.2.2.2.2.2.2,by have:=bf ss;have:=h.2.2.2.2.2.2;dsimp only;omega,zq4 _,fun x hx=>by cases hx⟩
variable {H:Hp}
def RwsV(K:W.Frag)(H:Hp)(xs:List V)(ss:List Stm):Prop:=Paired (fun x s=>∃f,StmV K H x s f) xs ss
theorem RwsV.of{K:W.Frag}:∀{xs:List V} {ss:List Stm} {f:List Addr},StmsV K H xs ss f->RwsV K H xs ss
 |_,_,_,.nil=>.nil
 |_,_,_,.cons h t=>.cons ⟨_,h⟩ (RwsV.of t)
theorem jM{K:W.Frag}{H:Hp}:∀{ks:List W.WData} {xs:List V},NksV K H ks xs->ks.length=xs.length
 |_,_,.nil=>rfl
 |_,_,.cons _ t=>by rw [bW,bW,jM t]
theorem i8{K:W.Frag}{H:Hp}{k:W.WData}{x:V}(h:NkV K H k x):∀{ks:List W.WData} {xs:List V},NksV K H ks xs->NksV K H (ks++[k]) (xs++[x])
 |_,_,.nil=>.cons h .nil
 |_,_,.cons a t=>.cons a (i8 h t)
theorem pe{K:W.Frag}{a:Addr}{d:Deed}(h:SqT K H a d.vs):NkV K H (frz (.deed d)) (.ref a):=by
 refine .tup h ?_;have ho:∀o:Opd,NkV K H (vW o.v) o.v:=fun o=>by cases o<;>constructor
 cases d with
 |tell o=>exact .cons .str (.cons (ho o) .nil)
 |copy n o=>exact .cons .str (.cons .str (.cons (ho o) .nil))
 |op f n o p=>exact .cons .str (.cons .str (.cons (ho o) (.cons (ho p) .nil)))
def qO(K:W.Frag)(d:Nat)(a:Addr)(H:Hp)(Q:VK):Prop:=∃(xs:List V)(ss:List Stm),H a=some (.lst xs)/\RwsV K H xs ss/\(∀s∈ss,s.deep<d/\s.many<=1000)/\xs.length<=2000000/\∀p H',Same H H'->NkV K H' (.tuple (dU ss)) (.ref p)->Q (.ref p) H'
def jY(K:W.Frag)(d:Nat):Sp:=fun vs H Q _=>∃a:Addr,vs=[.ref a]/\qO K d a H Q
def js(K:W.Frag)(d:Nat)(x:V)(H:Hp)(Q:VK):Prop:=∃(s:Stm)(f:List Addr),StmV K H x s f/\s.deep<d/\s.many<=1000/\∀y H',Same H H'->NkV K H' (frz s) y->Q y H'
def de(K:W.Frag)(d:Nat):Sp:=fun vs H Q _=>∃x:V,vs=[x]/\js K d x H Q
theorem eW{d:Nat}{a:Addr}{Q:VK}{E:XK}:jY K d [.ref a] H Q E=qO K d a H Q:=propext ⟨by rintro ⟨_,e,q⟩;cases e;exact q,fun q=>zA _ rfl q⟩
theorem nD{d:Nat}{x:V}{Q:VK}{E:XK}:de K d [x] H Q E=js K d x H Q:=propext ⟨by rintro ⟨_,e,q⟩;cases e;exact q,fun q=>zA _ rfl q⟩
theorem jF(T:Txt K mg t)(d:Nat)(G_19:FnOk P w K mg base CX0 (2 * d+1) t.f_19 t.e_19 ["row"] (de K d)):FnOk P w K mg base CX0 (2 * d+2) t.f_18 t.e_18 ["rows"] (jY K d):=by
 refine T.d_18.F.ok vV ∅ ?_;rintro cdv A outer s H vs Q E hr ⟨a,rfl,xs,ss,ha,hx,hd,hl,q⟩;refine ⟨_,
   (XSs.h
   (ak
    (ax (bM fw gl T.z_tuple boot_tuple (aa (cH (tns:=["row"]) (cns:=[]) (ci:=[]) rfl (CompSc.of Jl) (fi (yqv 0 vl)) (fun _=>(bh (i:=1) (show List.Nodup [(".0":Str),("row":Str)] by decide +kernel) rfl ll (Or.inr Jl))) (fun _=>cJ) (fun _=>(ay T.d_19 G_19 hr.m (aa (yqv 1 vl) ai) gl))) ai))))),?_⟩
 rw [show aM _ [V.ref a]=[some (.ref a)] from rfl];rwa [nD];refine ⟨⟨_,SqL.of ha⟩,fun acc hacc bk=>?_⟩;have lx:=hx.length;refine jw (xs:=xs) (fun i ys H'=>Same H H'/\H' acc=some (.lst ys)/\NksV K H' (dU (ss.take i)) ys) (zC (Same.upd hacc) ac .nil) (fun i ys H' _ h=>SqL.of (h.1 _ _ ha)) ?_ ?_
 ·rintro i x ys H' os hxi ho ⟨sm,hacc2,hk⟩
  match os,ho with
  | [o],_=>rwa [nD];refine ⟨zA ([some x]) rfl rfl,?_⟩;rw [zq2 trivial];obtain ⟨s,hs,f,hsv⟩:=L2.Paired.get hx hxi;have hi:i<ss.length:=(zq25.mp hs).1;have hse:ss[i]=s:=(zq25.mp hs).2;have hds:=hd s (lK hs);have hly:=jM hk;rw [bY,ck,lJ] at hly;refine zF s f (hsv.same sm) hds.1 hds.2 (fun y H2 s2 hy=>zH (s2 _ _ hacc2) (by rw [bP];omega) ((sm.trans s2).updM hacc) ac ?_);have tt:TSame H2 (upd H2 acc (.lst (ys++[y]))):=TSame.updL (s2 _ _ hacc2);rw [qI hi,hse,bY,fm,<- bY];exact i8 (hy.keep tt) ((hk.keep s2.ts).keep tt)
 ·rintro ys H' ⟨sm,hacc2,hk⟩;rw [lx,lN] at hk;refine ⟨_,.inl ⟨SqL.of hacc2,fun p hp=>q p _ (sm.trans (Same.upd hp)) (.tup (SqT.of ac) (hk.keep (Same.upd hp).ts))⟩⟩
theorem kG(T:Txt K mg t)(d:Nat)(G_18:FnOk P w K mg base CX0 (2 * d+2) t.f_18 t.e_18 ["rows"] (jY K d)):FnOk P w K mg base CX0 (2 * (d+1)+1) t.f_19 t.e_19 ["row"] (de K (d+1)):=by
 refine T.d_19.F.ok vX ∅ ?_;rintro cdv A outer s H vs Q E hr ⟨x,rfl,s,f,hx,hd,hm,q⟩;refine ⟨_,
   (XSs.h
   (af
    (aO (aw bq (av aG (yqv 0 vl) ae) aq (aE _))
     (ak
      (ax (aL (aa aq (aa (av aG (yqv 0 vl) ae) (aa (ay T.d_18 G_18 hr.m (aa (av aG (yqv 0 vl) ae) ai) gl) (aa (ay T.d_18 G_18 hr.m (aa (av aG (yqv 0 vl) ae) ai) gl) ai)))))))
     aC)
   (af
    (aO (aw bq (av aG (yqv 0 vl) ae) aq (aE _))
     (ak
      (ax (aL (aa aq (aa (av aG (yqv 0 vl) ae) (aa (ay T.d_18 G_18 hr.m (aa (av aG (yqv 0 vl) ae) ai) gl) ai))))))
     aC)
   (ak
    (ax (yqv 0 vl)))))),?_⟩
 rw [show aM _ [x]=[some x] from rfl];have deepOf:∀{l:List Stm},aR l<d->aK l<=1000->∀s∈l,s.deep<d/\s.many<=1000:=fun h1 h2 s hs=>⟨jo (bG hs) h1,bO (cv hs) h2⟩
 cases hx with
 | @deed q0 dd hf hq=>
  rwa [eW];refine fK hf hq Jk Jk Jk (zA _ rfl ?_);rw [zq1 zq6];refine fK hf hq Jk Jk Jk (zA _ rfl ?_);rw [zq1 zq6];exact q _ H (Same.refl H) (pe hq)
 | @ifs q0 a b n xs ys ones others f g hq ha hb h1 h2=>
  simp only [Stm.deep,Stm.many] at hd hm;have l1:=bf ones;have l2:=bf others;rwa [eW];refine zB _ _ hq rfl ?_;rwa [eW];refine aA (fun _=>zB _ _ hq rfl (zB _ _ hq rfl ?_)) (fun z=>absurd trivial z);rwa [eW];refine zP xs ones ha (.of h1) (deepOf Jn Jn) (by rw [h1.length];omega) fun p1 H1 s1 k1=>zB _ _ (s1.seqT hq) rfl ?_;rwa [eW];refine zP ys others (s1 _ _ hb) (.of (h2.same s1)) (deepOf Jn Jn) (by rw [h2.length];omega) fun p2 H2 s2 k2 p3 hp3=>?_;have s3:=Same.upd (o:=.tup [V.str "if",V.str n,V.ref p1,V.ref p2]) hp3;exact q _ _ ((s1.trans s2).trans s3) (.tup (SqT.of ac) (.cons .str (.cons .str (.cons ((k1.keep s2.ts).keep s3.ts) (.cons (k2.keep s3.ts) .nil)))))
 | @whl q0 a n xs rows f hq ha h1=>simp only [Stm.deep,Stm.many] at hd hm;have l1:=bf rows;rwa [eW];refine zB _ _ hq rfl ?_;rwa [eW];refine aA (fun z=>absurd z Jk) (fun _=>zB _ _ hq rfl ?_);rwa [eW];refine aA (fun _=>zB _ _ hq rfl (zB _ _ hq rfl ?_)) (fun z=>absurd trivial z);rwa [eW];refine zP xs rows ha (.of h1) (deepOf Jn Jn) (by rw [h1.length];omega) fun p1 H1 s1 k1 p3 hp3=>?_;have s3:=Same.upd (o:=.tup [V.str "while",V.str n,V.ref p1]) hp3;exact q _ _ (s1.trans s3) (.tup (SqT.of ac) (.cons .str (.cons .str (.cons (k1.keep s3.ts) .nil))))
theorem fU(T:Txt K mg t):∀d,FnOk P w K mg base CX0 (2 * d+1) t.f_19 t.e_19 ["row"] (de K d)/\FnOk P w K mg base CX0 (2 * d+2) t.f_18 t.e_18 ["rows"] (jY K d)
 |0=>by
  have h0:FnOk P w K mg base CX0 (2 * 0+1) t.f_19 t.e_19 ["row"] (de K 0):=⟨fun vs H Q E h=>by obtain ⟨_,_,_,_,_,h,_⟩:=h;omega,fun _ _ _ _ _ _ _ _ _ _ _ _ _ h=>by obtain ⟨_,_,_,_,_,h,_⟩:=h;omega⟩
  exact ⟨h0,jF T 0 h0⟩
 |d+1=>by have h1:=kG T d (fU T d).2;exact ⟨h1,jF T (d+1) h1⟩
def gP(K:W.Frag)(C:Addr)(d:Nat)(p:Addr)(H:Hp)(Q:VK):Prop:=∃(H0:Hp)(lf bx td:Addr)(wd:Int)(st:Stt),RunH K C H0 H p lf bx td wd st/\(∀s∈st.left,s.deep<d/\s.many<=1000)/\st.left.length<=2000000/\IntD st.bx/\∀q H',Same H H'->NkV K H' (HTS.stK st) (.ref q)->Q (.ref q) H'
def iz(K:W.Frag)(C:Addr)(d:Nat):Sp:=fun vs H Q _=>∃p:Addr,vs=[.ref p]/\gP K C d p H Q
theorem cc{K:W.Frag}{C p:Addr}{d:Nat}{H:Hp}{Q:VK}{E:XK}:iz K C d [.ref p] H Q E=gP K C d p H Q:=propext ⟨by rintro ⟨_,e,q⟩;cases e;exact q,fun q=>zA _ rfl q⟩
theorem mR(T:Txt K mg t)(d:Nat):FnOk P w K mg base CX0 (2 * d+3) t.f_17 t.e_17 ["going"] (iz K t.C_Run d):=by
 have G_18:=(@fU P w K mg base t T d).2;refine T.d_17.F.ok vU ∅ ?_;rintro cdv A outer s H vs Q E hr ⟨p,rfl,H0,lf,bx,td,wd,st,hR,hd,hl,hI,q⟩;refine ⟨_,
   (XSs.h
   (ak
    (ax (aL (aa (ay T.d_18 G_18 hr.m (aa (aI (yqv 0 vl) rfl) ai) gl) (aa (iH rfl T.z_tuple (aI (yqv 0 vl) rfl) gl) ai)))))),?_⟩
 rw [show aM _ [V.ref p]=[some (.ref p)] from rfl];rwa [eW];obtain ⟨dx,e⟩:=hR.ob;obtain ⟨xs,ex,rr⟩:=hR.rows;have lx:=bg rr;refine bN e T.c_Run.cl T.n_Run_left rfl ?_;rwa [eW];refine zP xs st.left.reverse ex ?_ (fun s hs=>hd s (List.mem_reverse.mp hs)) Jn fun p1 H1 s1 k1=>?_
 ·have z:=L2.Paired.rev rr;rw [uA] at z;exact Paired.mono (fun _ _ ⟨f,h⟩=>⟨f,h.same hR.same⟩) z
 ·refine bN (s1 _ _ e) T.c_Run.cl T.n_Run_boxes rfl (zB _ _ rfl (s1 _ _ hR.bxs) fun l hl1 q1 hq1=>?_);have s2:=Same.upd (o:=.tup (st.bx.map (·.2))) hl1;have s3:=Same.upd (o:=.tup [V.ref p1,V.ref l]) hq1;refine q q1 _ ((s1.trans s2).trans s3) (.tup (SqT.of ac) (.cons ((k1.keep s2.ts).keep s3.ts) (.cons (.tup (SqT.of (s3 _ _ ac)) ?_) .nil)));have z:=NksV.of (K:=K) (H:=upd (upd H1 l (.tup (st.bx.map (·.2)))) q1 (.tup [V.ref p1,V.ref l])) (f:=fun p:Key×V=>vW p.2) (g:=fun p:Key×V=>p.2) (l:=st.bx) fun x hx=>?_
  ·exact z
  ·obtain ⟨i,hi⟩:=hI.nums x hx;rw [hi];exact .int
theorem rU{st:Stt}{e:Nat}(h:∀s∈st.left,s.deep<=e):GV.dpN (HTS.stK st)<=2 * e+3:=by
 have h1:GV.cV (dU st.left.reverse)<=2 * e+1:=by rw [bY];refine eg fun x hx=>?_;obtain ⟨s,hs,rfl⟩:=zq34.mp hx;have:=mh s;have:=h s (List.mem_reverse.mp hs);omega
 have h2:GV.cV (bxW st.bx)<=0:=eg fun x hx=>by obtain ⟨p,_,rfl⟩:=zq34.mp hx;exact qz (qQ _)
 unfold HTS.stK;simp only [GV.dpN,GV.cV];omega
def dq(H:Hp)(p lf bx td:Addr):Hp:=fun a=>if a=p\/a=lf\/a=bx\/a=td then none else H a
theorem iR{H:Hp}{p lf bx td a:Addr}(h:¬(a=p\/a=lf\/a=bx\/a=td)):dq H p lf bx td a=H a:=by unfold dq;rw [zq1 h]
theorem gq{H:Hp}{p lf bx td a:Addr}(h:a=p\/a=lf\/a=bx\/a=td):dq H p lf bx td a=none:=by unfold dq;rw [zq2 h]
theorem m4{H:Hp}{p lf bx td:Addr}:Same (dq H p lf bx td) H:=fun a o e=>by
 unfold dq at e
 split at e
 ·cases e
 ·exact e
section
variable {K:W.Frag} {C p lf bx td d:Addr} {H H0 H3:Hp} {wd:Int} {st:Stt} {o:HO}
theorem RunH.tup(h:RunH K C H0 H3 p lf bx td wd st):TSame H3 (dq H3 p lf bx td):=by
 obtain ⟨dx,e⟩:=h.ob;obtain ⟨xs,ex,_⟩:=h.rows;have n:∀a u,H3 a=some u->(∀C dx fs,u≠.ins C dx fs)->(∀zs,u≠.lst zs)->(∀kvs,u≠.dK kvs)->¬(a=p\/a=lf\/a=bx\/a=td):=by
  rintro a u q n1 n2 n3 (rfl | rfl | rfl | rfl)
  ·rw [e] at q;cases q;exact n1 _ _ _ rfl
  ·rw [ex] at q;cases q;exact n2 _ rfl
  ·rw [h.bxs] at q;cases q;exact n3 _ rfl
  ·rw [h.tds] at q;cases q;exact n2 _ rfl
 exact ⟨fun c ys q=>by rw [iR (n _ _ q (fun _ _ _ z=>nomatch z) (fun _ z=>nomatch z) (fun _ z=>nomatch z))];exact q,fun c ob u q=>by rw [iR (n _ _ q (fun _ _ _ z=>nomatch z) (fun _ z=>nomatch z) (fun _ z=>nomatch z))];exact q⟩
theorem RunH.old(h:RunH K C H0 H3 p lf bx td wd st){a:Addr}{u:HO}(e:H0 a=some u):dq H3 p lf bx td a=some u:=by
 rw [iR]
 ·exact h.same _ _ e
 ·rintro (rfl | rfl | rfl | rfl)
  ·rw [h.fr.1] at e;cases e
  ·rw [h.fr.2.1] at e;cases e
  ·rw [h.fr.2.2.1] at e;cases e
  ·rw [h.fr.2.2.2] at e;cases e
theorem RunH.cut(h:RunH K C H0 H3 p lf bx td wd st):RunH K C (dq H3 p lf bx td) H3 p lf bx td wd st:=by obtain ⟨xs,ex,r⟩:=h.rows;exact ⟨m4,h.ob,zA xs ex (Paired.mono (fun _ _ ⟨f,hs⟩=>⟨f,hs.same fun a u e=>h.old e⟩) r),h.bxs,h.tds,zG (gq (.inl rfl)) (gq (.inr (.inl rfl))) (gq (.inr (.inr (.inl rfl)))) (gq (.inr (.inr (.inr rfl)))),h.ne⟩
theorem RunH.else_(h:RunH K C H0 H p lf bx td wd st){φ:Heap->Prop}(hd:H0 d=some (.ext φ)):RunH K C (upd H0 d o) (upd H d o) p lf bx td wd st:=by
 obtain ⟨dx,e⟩:=h.ob;obtain ⟨xs,ex,r⟩:=h.rows;have hd':=h.same _ _ hd;have n1:p≠d:=b9 e hd' (fun z=>nomatch z);have n2:lf≠d:=b9 ex hd' (fun z=>nomatch z);have n3:bx≠d:=b9 h.bxs hd' (fun z=>nomatch z);have n4:td≠d:=b9 h.tds hd' (fun z=>nomatch z);refine ⟨fun a u q=>?_,⟨dx,by rw [aj n1];exact e⟩,zA xs (by rw [aj n2];exact ex) (Paired.mono (fun _ _ ⟨f,hs⟩=>⟨f,?_⟩) r),by rw [aj n3];exact h.bxs,by rw [aj n4];exact h.tds,zG (by rw [aj n1];exact h.fr.1) (by rw [aj n2];exact h.fr.2.1) (by rw [aj n3];exact h.fr.2.2.1) (by rw [aj n4];exact h.fr.2.2.2),h.ne⟩
 ·by_cases z:a=d
  ·subst z;rw [ac] at q ⊢;exact q
  ·rw [aj z] at q ⊢;exact h.same _ _ q
 ·refine hs.keep ⟨fun c ys e=>by rw [aj (b9 e hd (fun z=>nomatch z))];exact e,fun c o u e=>by rw [aj (b9 e hd (fun z=>nomatch z))];exact e⟩ (Kept.upd fun z=>?_);obtain ⟨zs,hz⟩:=hs.tracked d z;rw [hd] at hz;cases hz
theorem RunH.add(h:RunH K C H0 H p lf bx td wd st)(hd:H d=none):RunH K C (upd H0 d o) (upd H d o) p lf bx td wd st:=by
 obtain ⟨dx,e⟩:=h.ob;obtain ⟨xs,ex,r⟩:=h.rows;have n1:p≠d:=am e hd;have n2:lf≠d:=am ex hd;have n3:bx≠d:=am h.bxs hd;have n4:td≠d:=am h.tds hd;refine ⟨fun a u q=>?_,⟨dx,by rw [aj n1];exact e⟩,zA xs (by rw [aj n2];exact ex) (Paired.mono (fun _ _ ⟨f,hs⟩=>⟨f,hs.same (Same.upd (h.same.free hd))⟩) r),by rw [aj n3];exact h.bxs,by rw [aj n4];exact h.tds,zG (by rw [aj n1];exact h.fr.1) (by rw [aj n2];exact h.fr.2.1) (by rw [aj n3];exact h.fr.2.2.1) (by rw [aj n4];exact h.fr.2.2.2),h.ne⟩
 by_cases z:a=d
 ·subst z;rw [ac] at q ⊢;exact q
 ·rw [aj z] at q ⊢;exact h.same _ _ q
end
theorem lq{w:Int}{s:Stt}{d:Nat}(h:∀x∈s.left,x.deep<=d):∀x∈(aT w s).left,x.deep<=d:=by
 obtain ⟨left,b,told⟩:=s
 cases left with
 |nil=>exact h
 |cons x ss=>
  have hx:=h x (cC ..);have hs:∀y∈ss,y.deep<=d:=fun y hy=>h y (bz _ hy)
  cases x with
  |deed dd=>exact hs
  |ifs n a b2=>
   rw [Stm.deep] at hx;intro y hy;have hy':y∈(if aH b n≠0 then a else b2)++ss:=hy;rcases zq23.mp hy' with z | z
   ·split at z
    ·have:=bG z;omega
    ·have:=bG z;omega
   ·exact hs y z
  |whl n a=>
   rw [Stm.deep] at hx;intro y hy;have hy':y∈(if aH b n≠0 then a++Stm.whl n a::ss else ss):=hy
   split at hy'
   ·rcases zq23.mp hy' with z | z
    ·have:=bG z;omega
    ·rcases zq8.mp z with z | z
     ·rw [z,Stm.deep];exact hx
     ·exact hs y z
   ·exact hs y hy'
theorem ik{w:Int}{s:Stt}{d:Nat}(h:∀x∈s.left,x.deep<=d):∀i,∀x∈(aF w i s).left,x.deep<=d
 |0=>h
 |i+1=>lq (ik h i)
def uD(pr:Params)(K:W.Frag)(H:Hp)(d:Addr)(wd:Int)(st:Stt)(n:Nat):Prop:=∃kvs:List (W.WData×V),DnAt pr K H d kvs/\Paired (fun j kv=>kv.1=HTS.stK (aF wd j st)/\∃q,kv.2=.ref q/\SqT K H q [.int (j:Int),.int ((aF wd j st).told.length:Int)]) (List.range n) kvs
theorem ip{F:Nat->W.WData}{G:Nat->V->Prop}{k:W.WData}:∀{l:List Nat} {kvs:List (W.WData×V)},Paired (fun j kv=>kv.1=F j/\G j kv.2) l kvs->(aN kvs k=none/\∀j∈l,F j≠k)\/∃j∈l,F j=k/\∃v,aN kvs k=some v/\G j v
 |_,_,.nil=>.inl ⟨rfl,fun j hj=>by cases hj⟩
 |_,_,.cons (a:=a) (b:=b) h t=>by
  by_cases e:b.1=k
  ·exact .inr (zD a (cC ..) (h.1.symm.trans e) (zA b.2 (aQ e) h.2))
  ·rw [aP e];rcases ip (k:=k) t with ⟨h1,h2⟩ | ⟨j,hj,h1,h2⟩
   ·exact .inl ⟨h1,fun j hj=>by
     rcases zq8.mp hj with z | z
     ·rw [z,<- h.1];exact e
     ·exact h2 j z⟩
   ·exact .inr (zD j (bz _ hj) h1 h2)
theorem uJ{pr:Params}{K:W.Frag}{H H':Hp}{d:Addr}{kvs:List (W.WData×V)}(h:DnAt pr K H d kvs)(s:TSame H H')(e:H' d=H d):DnAt pr K H' d kvs:=by obtain ⟨es,h1,h2,h3⟩:=h;exact zD es (e.trans h1) h2 fun p hp=>⟨(h3 p hp).1.keep s,(h3 p hp).2⟩
theorem rT{pr:Params}{K:W.Frag}{H:Hp}{d:Addr}{kvs:List (W.WData×V)}(h:DnAt pr K H d kvs):∃φ,H d=some (.ext φ):=by obtain ⟨es,h1,_⟩:=h;exact ⟨_,h1⟩
theorem qj{H H':Hp}{d:Addr}{o:HO}(s:TSame H H'):TSame (upd H d o) (upd H' d o):=
 ⟨fun c ys e=>by
  by_cases z:c=d
  ·subst z;rw [ac] at e ⊢;exact e
  ·rw [aj z] at e ⊢;exact s.1 c ys e,fun c ob u e=>by
  by_cases z:c=d
  ·subst z;rw [ac] at e ⊢;exact e
  ·rw [aj z] at e ⊢;exact s.2 c ob u e⟩
def dE(wd:Int)(st:Stt)(n:Nat):Prop:=∀i j,i<j->j<n->HTS.stK (aF wd i st)≠HTS.stK (aF wd j st)
def dF(wd:Int)(st:Stt)(n:Nat):Prop:=∀i,i<n->¬(aF wd i st).left.length=0
def iM(wd:Int)(st:Stt)(H:Hp)(Q:VK):Prop:=∃n:Nat,n<=1000/\(aF wd n st).left.length=0/\dF wd st n/\dE wd st n/\
 ∀p u v H',Same H H'->H u=none->H v=none->H' p=some (.tup [.str "over",.ref u,.ref v])->H' u=some (.lst ((aF wd n st).told.map V.int))->H' v=some (.dK (aF wd n st).bx)->Q (.ref p) H'
def gc(wd:Int)(st:Stt)(H:Hp)(Q:VK):Prop:=∃f n:Nat,f<n/\n<=1000/\dF wd st (n+1)/\dE wd st n/\HTS.stK (aF wd f st)=HTS.stK (aF wd n st)/\(aF wd f st).told.length<=(aF wd n st).told.length/\
 ∀p u v H',Same H H'->H u=none->H v=none->H' p=some (.tup [.str "round",.ref u,.ref v,.int (f:Int),.int ((n:Int)-f)])->H' u=some (.lst (((aF wd n st).told.take (aF wd f st).told.length).map V.int))->H' v=some (.lst (((aF wd n st).told.drop (aF wd f st).told.length).map V.int))->Q (.ref p) H'
def rL(X:Addr)(wd:Int)(st:Stt)(H:Hp)(E:XK):Prop:=dF wd st 1001/\dE wd st 1001/\∀H',Same H H'->E (.ref X) none H'
def jr(K:W.Frag)(C X:Addr)(pp c:Addr)(H:Hp)(Q:VK)(E:XK):Prop:=∃(wd:Int)(ins oth:List Str)(ss:List Stm)(ws:Bx),ProgIn K C H pp c wd ins oth ss ws/\aR ss<=2/\
 (iM wd ⟨ss,aD ins ws (ins++oth),[]⟩ H Q\/gc wd ⟨ss,aD ins ws (ins++oth),[]⟩ H Q\/rL X wd ⟨ss,aD ins ws (ins++oth),[]⟩ H E)
def jX(K:W.Frag)(C X:Addr):Sp:=fun vs H Q E=>∃pp c:Addr,vs=[.ref pp,.ref c]/\jr K C X pp c H Q E
theorem jc{K:W.Frag}{C X pp c:Addr}{H:Hp}{Q:VK}{E:XK}:jX K C X [.ref pp,.ref c] H Q E=jr K C X pp c H Q E:=propext ⟨by rintro ⟨_,_,e,q⟩;cases e;exact q,fun q=>zE _ _ rfl q⟩
theorem pk(T:Txt K mg t):FnOk P w K mg base (CX1 P w) 10 t.f_16 t.e_16 ["program","words"] (jX K t.C_Program t.X_TooLong):=by
 have G_10:=@mQ P w K mg base t T;have G_11:=@pA P w K mg base t T;have G_12:=@pB P w K mg base t T;have G_17:=@mR P w K mg base t T 3;refine T.d_16.F.okX sc_16 ∅ ?_;rintro cdv A outer s H vs Q E hr ⟨pp,c,rfl,wd,ins,oth,ss,ws,hI,hdp,h⟩;refine ⟨_,
   (XSs.h
   (af
    (au (i:=2) sc_16.nd rfl ll (g8 T.c_Run T.d_10 G_10 hr.m (aa (yqv 0 vl) (aa (yqv 1 vl) ai)) gl))
   (af
    (au (i:=3) sc_16.nd rfl ll lD)
   (af
    (di j6 rfl (bp gl T.z_range (aa (ao b8 (c4 (v:=.int 1000) gl T.g_MOST_STEPS ⟨_,rfl⟩) ae) ai)) (bh (i:=4) sc_16.nd rfl ll)
     (af
      (aO (eA (fj T.c_Run.cl T.d_11 G_11 hr.m (yqv 2 vl)))
       (ak
        (ax (aL (aa aq (aa (aI (yqv 2 vl) rfl) (aa (aI (yqv 2 vl) rfl) ai))))))
       aC)
     (af
      (au (i:=5) sc_16.nd rfl ll (ay T.d_17 G_17 hr.m (aa (yqv 2 vl) ai) gl))
     (af
      (aO (aw (sy (kJ (n:=9) Jm hr)) (yqv 5 vl) (yqv 3 vl) rfl)
       (af
        (au (i:=6) sc_16.nd rfl ll (av aG (g6 (kJ (n:=9) Jm hr) (yqv 3 vl) (yqv 5 vl) (fun _ _=>rfl)) ae))
       (af
        (au (i:=7) sc_16.nd rfl ll (av aG (g6 (kJ (n:=9) Jm hr) (yqv 3 vl) (yqv 5 vl) (fun _ _=>rfl)) ae))
       (ak
        (ax (aL (aa aq (aa (bH eu (aI (yqv 2 vl) rfl) bZ (c3 (yqv 7 vl))) (aa (bH eu (aI (yqv 2 vl) rfl) (c3 (yqv 7 vl)) bZ) (aa (yqv 6 vl) (aa (ao eB (yqv 4 vl) (yqv 6 vl)) ai))))))))))
       aC)
     (af
      (oo (kJ (n:=9) Jm hr) (yqv 3 vl) (yqv 5 vl) (aL (aa (yqv 4 vl) (aa (bI d5 gl T.z_len PySem.boot_len (aa (aI (yqv 2 vl) rfl) ai)) ai))) rfl)
     (ak
      (bw (fj T.c_Run.cl T.d_12 G_12 hr.m (yqv 2 vl)))))))))
   (ak
    (lE nI rfl T.x_TooLong T.q_TooLong (aa aq ai) gl)))))),?_⟩
 rw [show aM _ [V.ref pp,V.ref c]=[some (.ref pp),some (.ref c),none,none,none,none,none,none] from rfl];simp_arith! [el,d3,cy,cc];intro p dx hp hdx hne;obtain ⟨⟨a,b,r,xs,f,hP⟩,hW,w1,w8,hl,hg,hmany⟩:=id hI;have sg:=hI.sg;have s1:Same H (upd (upd H dx (.own p)) p (.ins t.C_Run dx [])):=(Same.upd hdx).updM hp;simp only [el];refine ⟨H,dx,wd,ins,oth,ss,a,b,r,xs,f,ws,s1,hp,ac,hP,hW,hl,by have:=bf ss;omega,fun lf bx td H1 hR=>⟨trivial,aS ?_⟩⟩;have hdeep:∀x∈(⟨ss,aD ins ws (ins++oth),[]⟩:Stt).left,x.deep<=2:=fun x hx=>bO (bG hx) hdp;generalize (⟨ss,aD ins ws (ins++oth),[]⟩:Stt)=st0 at sg hR h hdeep;simp_arith! [el,d3,cy,cc];intro d hd;refine aS ?_;simp_arith! [el,d3,cy,cc];obtain ⟨N,hN,hleft,hkeys,hend⟩:∃N,N<=1001/\dF wd st0 N/\dE wd st0 N/\(N<=1000->((aF wd N st0).left.length=0/\
   ∀p u v H',Same H H'->H u=none->H v=none->H' p=some (.tup [.str "over",.ref u,.ref v])->H' u=some (.lst ((aF wd N st0).told.map V.int))->H' v=some (.dK (aF wd N st0).bx)->Q (.ref p) H')\/
   (¬(aF wd N st0).left.length=0/\∃f:Nat,f<N/\HTS.stK (aF wd f st0)=HTS.stK (aF wd N st0)/\(aF wd f st0).told.length<=(aF wd N st0).told.length/\
   ∀p u v H',Same H H'->H u=none->H v=none->H' p=some (.tup [.str "round",.ref u,.ref v,.int (f:Int),.int ((N:Int)-f)])->H' u=some (.lst (((aF wd N st0).told.take (aF wd f st0).told.length).map V.int))->H' v=some (.lst (((aF wd N st0).told.drop (aF wd f st0).told.length).map V.int))->Q (.ref p) H'))/\
   (N=1001->∀H',Same H H'->E (.ref t.X_TooLong) none H'):=by
  rcases h with ⟨n,h1,h2,h3,h4,h5⟩ | ⟨f,n,h1,h2,h3,h4,h5,h6,h7⟩ | ⟨h1,h2,h3⟩
  ·exact zT n Jn h3 h4 (fun _=>.inl ⟨h2,h5⟩) Jn
  ·exact zT n Jn (fun i hi=>h3 i Jn) h4 (fun _=>.inr ⟨h3 n Jn,zM f h1 h5 h6 h7⟩) Jn
  ·exact zT 1001 Jn h1 h2 Jn fun _=>h3
 clear h;have fr:=hR.fr;obtain ⟨dx1,e1⟩:=hR.ob;obtain ⟨xs1,ex1,_⟩:=hR.rows;have n1:d≠p:=(am e1 hd).symm;have n2:d≠lf:=(am ex1 hd).symm;have n3:d≠bx:=(am hR.bxs hd).symm;have n4:d≠td:=(am hR.tds hd).symm;have hd0:H d=none:=hR.same.free hd;refine zC Jm Jm (cE (fun i σ H'=>i<=N/\(∃H0,Same H H0/\uD w.params K H0 d wd st0 i/\RunH K t.C_Run H0 H' p lf bx td wd (aF wd i st0))/\∃o4 o5 o6 o7,σ=[some (.ref pp),some (.ref c),some (.ref p),some (.ref d),o4,o5,o6,o7]) (zC (ce _) (zD (upd H d (eG w.params d [])) (Same.upd hd0) (zA ([]) DnAt.new .nil) ?_) (zS _ _ _ _ rfl)) ?_ ?_)
 ·exact hR.add hd
 ·rintro i σ H2 hi ⟨hiN,⟨H0,s0,hseen,hR2⟩,o4,o5,o6,o7,rfl⟩;simp_arith! [d3,cy,cc];have sgi:=sg.run i;have hdi:=ik (w:=wd) hdeep i;obtain ⟨dx2,e2⟩:=hR2.ob;refine dz e2 rfl (zf H0 lf bx td wd _ ⟨hR2,fun H3 s3=>?_⟩);have hR3:=hR2.mv s3;obtain ⟨dx3,e3⟩:=hR3.ob;refine aA (fun h0=>?_) (fun h0=>aS ?_)
  ·have e:i=N:=by
    by_cases z:i<N
    ·exact absurd h0 (hleft i z)
    ·omega
   subst e;rcases hend.1 Jn with ⟨_,q⟩ | ⟨z,_⟩
   ·refine bN e3 T.c_Run.cl T.n_Run_told rfl (bN e3 T.c_Run.cl T.n_Run_boxes rfl fun u hu=>?_);have s4:=Same.upd (o:=.tup [V.str "over",V.ref td,V.ref bx]) hu;exact q u td bx _ ((s0.trans hR3.same).trans s4) fr.2.2.2 fr.2.2.1 ac (s4 _ _ hR3.tds) (s4 _ _ hR3.bxs)
   ·exact absurd h0 z
  ·simp_arith! [d3,cy,cc];refine zf H0 lf bx td wd _ (zH hR3 (fun x hx=>⟨by have:=hdi x hx;omega,sgi.many x hx⟩) (by have:=sgi.len;omega) sgi.bx.isI fun k H4 s4 hk=>aS ?_);have hR4:=hR3.mv s4;have hk8:GV.dpN (HTS.stK (aF wd i st0))<=8:=by have:=rU hdi;omega
   obtain ⟨kvs,hD,hsv⟩:=hseen;have hD4:=hD.same hR4.same;have hv:=ip (F:=fun j=>HTS.stK (aF wd j st0)) (G:=fun j v=>∃q,v=.ref q/\SqT K H0 q [V.int (j:Int),V.int ((aF wd j st0).told.length:Int)]) (k:=HTS.stK (aF wd i st0)) hsv;simp_arith! [d3,cy,cc];refine zF kvs _ hD4 hk hk8 ?_;rcases hv with ⟨hv,hnew⟩ | ⟨j,hj,hjk,v,hv,q0,rfl,hq0⟩
   ·rw [hv,Option.isSome_none,zq1 zq6];refine aS ?_;have hlt:i<N:=by
     by_cases z:i<N
     ·exact z
     ·obtain rfl:i=N:=by omega
      rcases hend.1 Jn with ⟨z,_⟩ | ⟨_,f0,hf0,hfk,_⟩
      ·exact absurd z h0
      ·exact absurd hfk (hnew f0 (zq46.mpr hf0))
    simp_arith! [d3,cy,cc];obtain ⟨dx4,e4⟩:=hR4.ob;refine bN e4 T.c_Run.cl T.n_Run_told rfl (zB _ _ rfl (.inl (SqL.of hR4.tds)) fun u hu=>?_);rw [ck];have s5:=Same.upd (o:=.tup [V.int (i:Int),V.int ((aF wd i st0).told.length:Int)]) hu;have hR5:=hR4.mv s5;have hu5:upd H4 u (.tup [V.int (i:Int),V.int ((aF wd i st0).told.length:Int)]) u=some (.tup [V.int (i:Int),V.int ((aF wd i st0).told.length:Int)]):=ac;have hk5:=hk.keep s5.ts;have hD5:=hD4.same s5;generalize upd H4 u (.tup [V.int (i:Int),V.int ((aF wd i st0).told.length:Int)])=H5 at hR5 hu5 hk5 hD5 ⊢;have hln:=hsv.length;rw [List.length_range] at hln;refine zS d k kvs _ (ze rfl rfl hD5 hk5 hk8 (by rw [bP];omega) hv fun o hD6=>aS ?_);have sB:Same H0 (dq H5 p lf bx td):=fun a u e=>hR5.old e;obtain ⟨φ,hφ⟩:=rT hD;have hR6:=hR5.cut.else_ (o:=o) (sB _ _ hφ);have tC:=hR5.tup;have t6:TSame H0 (upd (dq H5 p lf bx td) d o):=⟨fun c ys e=>by rw [aj (b9 e hφ (fun z=>nomatch z))];exact sB _ _ e,fun c ob u e=>by rw [aj (b9 e hφ (fun z=>nomatch z))];exact sB _ _ e⟩
    have hS6:uD w.params K (upd (dq H5 p lf bx td) d o) d wd st0 (i+1):=by refine zA (kvs++[(HTS.stK (aF wd i st0),.ref u)]) (uJ hD6 (qj tC) (by rw [ac,ac])) ?_;rw [oG];refine Paired.snoc (Paired.mono (fun j kv ⟨z1,q,z2,z3⟩=>⟨z1,zA q z2 (t6.seqT z3)⟩) hsv) ⟨rfl,zA u rfl ?_⟩;have ud:u≠d:=b9 hu5 (hR5.same _ _ hφ) (fun z=>nomatch z);exact SqT.of (by rw [aj ud];exact tC.1 _ _ hu5)
    have sH:Same H (upd (dq H5 p lf bx td) d o):=fun a u e=>by rw [aj (fun z=>by rw [z,hd0] at e;cases e)];exact sB _ _ (s0 _ _ e)
    simp_arith! [cy];obtain ⟨dx6,e6⟩:=hR6.ob;exact dz e6 rfl (zg _ lf bx td wd _ _ i (zH hR6 sgi Jn h0 fun H7 hR7=>zC hlt (zD _ sH hS6 hR7) (zS _ _ _ _ rfl)))
   ·rw [hv,Option.isSome_some,zq2 rfl];have hjm:=zq46.mp hj;have e:i=N:=by
     by_cases z:i<N
     ·exact absurd hjk (hkeys j i hjm z)
     ·omega
    subst e;rcases hend.1 Jn with ⟨z,_⟩ | ⟨_,f0,hf0,hfk,hlen,q⟩
    ·exact absurd z h0
    have hfj:f0=j:=by
     rcases Nat.lt_trichotomy f0 j with z | z | z
     ·exact absurd (hfk.trans hjk.symm) (hkeys f0 j z hjm)
     ·exact z
     ·exact absurd (hjk.trans hfk.symm) (hkeys j f0 z hf0)
    subst hfj;have hq4:=hR4.same.seqT hq0;refine zK d k kvs _ _ (zU rfl rfl hD4 hk hk8 hv ?_);simp_arith! [];refine zB _ _ hq4 rfl (aS ?_);simp_arith! [];refine zK d k kvs _ _ (zU rfl rfl hD4 hk hk8 hv ?_);simp_arith! [];refine zB _ _ hq4 rfl (aS ?_);simp_arith! [];obtain ⟨dx4,e4⟩:=hR4.ob;refine bN e4 T.c_Run.cl T.n_Run_told rfl ?_;simp_arith! [];refine zA _ (SqL.of hR4.tds) fun u1 hu1=>?_;have s5:=Same.upd (o:=.lst (cj ((aF wd i st0).told.map V.int) none (some ((aF wd f0 st0).told.length:Int)))) hu1;have hR5:=hR4.mv s5;refine bN (s5 _ _ e4) T.c_Run.cl T.n_Run_told rfl ?_;simp_arith! [];refine zA _ (SqL.of hR5.tds) fun u2 hu2 u3 hu3=>?_;have s6:=Same.upd (o:=.lst (cj ((aF wd i st0).told.map V.int) (some ((aF wd f0 st0).told.length:Int)) none)) hu2;have s7:=Same.upd (o:=.tup [V.str "round",V.ref u1,V.ref u2,V.int (f0:Int),V.int ((i:Int)-f0)]) hu3;have sA:=s0.trans hR4.same;refine q u3 u1 u2 _ ((sA.trans (s5.trans s6)).trans s7) (sA.free hu1) ((sA.trans s5).free hu2) ac ?_ ?_
    ·rw [s7 _ _ (s6 _ _ ac),gp Jn,gM,List.map_take]
    ·rw [s7 _ _ ac,kz Jn,gM,List.map_drop]
 ·rintro σ H2 ⟨hiN,⟨H0,s0,hseen,hR2⟩,o4,o5,o6,o7,rfl⟩;dsimp only;refine aS ?_;simp_arith! [];exact hend.2 Jn _ (s0.trans hR2.same)
def gO(K:W.Frag)(C:Addr)(pp:Addr)(H:Hp)(Q:VK):Prop:=∃(wd:Int)(oth:List Str)(ss:List Stm),(∃a b r xs f,ProgAt K C H pp wd [] oth ss a b r xs f)/\1<=wd/\wd<=8/\oth.length<=1000/\b7 oth wd ss/\aK ss<=1000/\aR ss<=2/\
 (iM wd ⟨ss,aD [] [] oth,[]⟩ H Q\/gc wd ⟨ss,aD [] [] oth,[]⟩ H Q\/(dF wd ⟨ss,aD [] [] oth,[]⟩ 1001/\dE wd ⟨ss,aD [] [] oth,[]⟩ 1001/\∀H',Same H H'->Q (.str "refused") H'))
def ir(K:W.Frag)(C:Addr):Sp:=fun vs H Q _=>∃pp:Addr,vs=[.ref pp]/\gO K C pp H Q
theorem jT{K:W.Frag}{C pp:Addr}{H:Hp}{Q:VK}{E:XK}:ir K C [.ref pp] H Q E=gO K C pp H Q:=propext ⟨by rintro ⟨_,e,q⟩;cases e;exact q,fun q=>zA _ rfl q⟩
theorem mL(T:Txt K mg t):FnOk P w K mg base CX0 11 t.f_22 t.e_22 ["_law_program"] (ir K t.C_Program):=by
 have G_16:=@pk P w K mg base t T;refine T.d_22.F.ok sc_22 ∅ (fun cdv A outer s H vs Q E hr h=>?_);obtain ⟨pp,rfl,wd,oth,ss,⟨a,b,r,xs,f,hP⟩,w1,w8,hl,hg,hm,hdp,h⟩:=h;refine ⟨_,
   (XSs.h
   (af
    (au (i:=1) sc_22.nd rfl ll cI)
   (af
    (au (i:=2) sc_22.nd rfl ll cI)
   (af
    (oq (i:=1) (j:=2) (l:=3) T.d_16 G_16 hr.m (aa (yqv 0 vl) (aa g7 ai)) gl sc_22.nd rfl ll rfl ll rfl rfl gl T.x_TooLong)
   (af
    (aO (aw mV (yqv 2 vl) cI (aE _))
     (ak
      (ax (yqv 1 vl)))
     aC)
   (af
    (aO (uc (ue (eA (bI iP gl T.z_isinstance boot_isinstance (aa (yqv 2 vl) (aa (aL (aa (c4 (v:=.ref t.X_NoLine) gl T.x_NoLine rfl) (aa (c4 (v:=.ref t.X_NoName) gl T.x_NoName rfl) (aa (c4 (v:=.ref t.X_NoProgram) gl T.x_NoProgram rfl) (aa (c4 (v:=.ref t.X_TooGreat) gl T.x_TooGreat rfl) ai))))) ai)))) (qp (qo (eA (bI ku gl T.z_isinstance boot_isinstance (aa (yqv 2 vl) (aa (c4 (v:=.ref t.X_LoomError) gl T.x_LoomError rfl) ai))))))))
     (ak
      (ax cI))
     aC)
   (ak
    (ax aq)))))))),?_⟩
 rw [show aM _ [V.ref pp]=[some (.ref pp),none,none,none] from rfl];simp_arith! [jc];refine aS ?_;simp_arith! [jc];refine aS ?_;simp_arith! [jc];intro d hd;have s1:=Same.upd (o:=.dK []) hd;refine zK wd ([]) oth ss ([]) (zC (zU (zK a b r xs f (hP.same s1)) ⟨?_,fun n hn=>by cases hn⟩ w1 w8 (by simpa using hl) (by simpa using hg) hm) hdp ?_)
 ·exact .inl ac
 rw [uB];rcases h with ⟨n,h1,h2,h3,h4,h5⟩ | ⟨f0,n,h1,h2,h3,h4,h5,h6,h7⟩ | ⟨h1,h2,h3⟩
 ·refine .inl (zT n h1 h2 h3 h4 fun p u v H' s hu hv e1 e2 e3=>aS ?_);simp_arith! [];rw [zq2 (cm trivial)];exact h5 p u v H' (s1.trans s) (s1.free hu) (s1.free hv) e1 e2 e3
 ·refine .inr (.inl (zR f0 n (zU h1 h2 h3 h4 h5 h6 fun p u v H' s hu hv e1 e2 e3=>aS ?_)));simp_arith! [];rw [zq2 (cm trivial)];exact h7 p u v H' (s1.trans s) (s1.free hu) (s1.free hv) e1 e2 e3
 ·refine .inr (.inr (zC h1 h2 fun H' s=>⟨T.m_TooLong_TooLong,fun ea hea=>aS ?_⟩));simp_arith! [];rw [zq1 (fun z=>nomatch of_decide_eq_true z)];refine aS ?_;simp_arith! [];intro tp htp;have s2:=Same.upd (o:=dS ea (.ref t.X_TooLong)) hea;have s3:=Same.upd (o:=.tup [V.ref t.X_NoLine,V.ref t.X_NoName,V.ref t.X_NoProgram,V.ref t.X_TooGreat]) htp;refine zJ t.X_TooLong ([t.X_NoLine,t.X_NoName,t.X_NoProgram,t.X_TooGreat]) false (s3 _ _ ac) ac T.i_TooLong ?_ ?_
  ·simp only [List.map_cons,List.map_nil,W.kitAny,T.i_TooLong_NoLine,T.i_TooLong_NoName,T.i_TooLong_NoProgram,T.i_TooLong_TooGreat]
  ·rw [zq1 zq6];refine zF t.X_TooLong true (s3 _ _ ac) T.i_TooLong T.i_TooLong_LoomError ?_;rw [zq1 Jm];refine aS ?_;simp_arith! [];exact h3 _ (s1.trans (s.trans (s2.trans s3)))
def sp_law(K:W.Frag):Sp:=fun vs H Q _=>∃(a:Addr)(ns:List Int),vs=[.ref a]/\SqL K H a (ns.map V.int)/\ns.length<=63/\(∀z∈ns,Builtin.Int.intBits z<=2 ^ 20)/\∀H',Q (.bl true) H'
def iw:Sp:=fun vs H Q _=>∃c k:Int,vs=[.int c,.int k]/\Builtin.Int.intBits c<=2 ^ 20+64/\0<=k/\k<=1000/\Q (.int (d8 c k)) H
theorem pW{c k:Int}{H:Hp}{Q:VK}{E:XK}:iw [.int c,.int k] H Q E=(Builtin.Int.intBits c<=2 ^ 20+64/\0<=k/\k<=1000/\Q (.int (d8 c k)) H):=propext ⟨by rintro ⟨_,_,e,q⟩;cases e;exact q,by intro q;exact zE c k rfl q⟩
theorem mO(T:Txt K mg t):FnOk P w K mg base CX0 1 t.f_20 t.e_20 ["_law_cell","_law_k"] iw:=by
 refine T.d_20.F.ok sc_20 ∅ ?_;rintro cdv A outer s H vs Q E hr ⟨c,k,rfl,hb,k0,k1,q⟩;refine ⟨_,
   (XSs.h
   (af
    (aO (aw uf (yqv 0 vl) (ao km ae ae) (aE _))
     (ak
      (ax (ao aX (ao bJ (ao eB (yqv 0 vl) (ao km ae ae)) (ao kn ae (ao bB ae (ao aX (yqv 1 vl) ae)))) (ao kn ae ae))))
     aC)
   (af
    (au (i:=2) sc_20.nd rfl ll (ao aX (ao bB (ao b8 (ao b8 (ao b8 (ao oz (yqv 0 vl) (yqv 0 vl)) (ao bB ae (yqv 0 vl))) (ao bB ae (yqv 1 vl))) ae) ae) ae))
   (ak
    (ax (ao aX (ao b8 (ao bB (yqv 2 vl) (yqv 2 vl)) ae) ae)))))),?_⟩
 rw [show aM _ [V.int c,V.int k]=[some (.int c),some (.int k),none] from rfl];rwa [];unfold d8 at q;have cp:lO 10 40:=zC Jm Jm Jm
 refine ⟨cp,aA (fun e=>?_) (fun e=>?_)⟩
 ·rw [zq2 e] at q;have m0:0<=k % 60:=dD _ Jm;have m1:k % 60<60:=gN _ Jm;refine zU cp (.inl ⟨Jm,Jm⟩) (zC Jn Jn Jm) (CDivB.pow Jn) (zC Jm Jm Jm) Jm q
 ·rw [zq1 e] at q;have n0:0<=(c * c+3 * c+7919 * k+1) * 48271 % 2147483629:=dD _ Jm;have n1:(c * c+3 * c+7919 * k+1) * 48271 % 2147483629<2147483629:=gN _ Jm;refine zI (IntMulOk.of_le hb hb Jm) (.inl ⟨Jm,Jm⟩) (.inl ⟨Jm,Jm⟩) (.inr ⟨Jm,Jm⟩) (.inl ⟨Jn,Jn⟩) q
def ix:Sp:=fun vs H Q _=>∃c:Int,vs=[.int c]/\Builtin.Int.intBits c<=2 ^ 20+64/\∀p H',Same H H'->H p=none->H' p=some (.lst ((eM c).map V.str))->Q (.ref p) H'
theorem jU{c:Int}{H:Hp}{Q:VK}{E:XK}:ix [.int c] H Q E=(Builtin.Int.intBits c<=2 ^ 20+64/\∀p H',Same H H'->H p=none->H' p=some (.lst ((eM c).map V.str))->Q (.ref p) H'):=propext ⟨by rintro ⟨_,e,q⟩;cases e;exact q,by intro q;exact zA c rfl q⟩
theorem mP(T:Txt K mg t):FnOk P w K mg base CX0 2 t.f_21 t.e_21 ["_law_cell"] ix:=by
 have G_20:=@mO P w K mg base t T;refine T.d_21.F.ok sc_21 ∅ ?_;rintro cdv A outer s H vs Q E hr ⟨c,rfl,hb,q⟩;refine ⟨_,
   (XSs.h
   (af
    (au (i:=1) sc_21.nd rfl ll aq)
   (af
    (au (i:=2) sc_21.nd rfl ll (ay T.d_20 G_20 hr.m (aa (yqv 0 vl) (aa ae ai)) gl))
   (af
    (au (i:=3) sc_21.nd rfl ll (ao b8 ae (ao aX (yqv 2 vl) ae)))
   (af
    (au (i:=4) sc_21.nd rfl ll (ao aX (ao bJ (yqv 2 vl) ae) (yqv 3 vl)))
   (af
    (au (i:=5) sc_21.nd rfl ll (bj ai))
   (af
    (di PassesOwn.never rfl (bp gl T.z_range (aa ae ai)) (bh (i:=6) sc_21.nd rfl ll)
     (af
      (au (i:=7) sc_21.nd rfl ll aq)
     (af
      (di PassesOwn.never rfl (bp gl T.z_range (aa (yqv 3 vl) ai)) (bh (i:=8) sc_21.nd rfl ll)
       (af
        (au (i:=9) sc_21.nd rfl ll (ao b8 (ao b8 (ao bJ (yqv 2 vl) ae) (ao bB (yqv 8 vl) (yqv 8 vl))) (ao bB (bM kr gl T.z_int boot_int (aa (fh bq (yqv 8 vl) (yqv 4 vl) (aE _)) ai)) (yqv 6 vl))))
       (ak
        (au (i:=7) sc_21.nd rfl ll (ao j4 (yqv 7 vl) (av rY (yqv 1 vl) (ao aX (yqv 9 vl) ae)))))))
     (ak
      (bw (gL PySem.F.plainAttrs_list PySem.F.slot_list_append PySem.F.type_list_append cF (yqv 5 vl) (aa (yqv 7 vl) ai)))))))
   (af
    (aO (aw bq (ao aX (ao bJ (yqv 2 vl) ae) ae) ae (aE _))
     (ak
      (au (i:=5) sc_21.nd rfl ll (bj (lC Jp))))
     aC)
   (ak
    (ax (yqv 5 vl))))))))))),?_⟩
 rw [show aM _ [V.int c]=[some (.int c),none,none,none,none,none,none,none,none,none] from rfl];rwa [pW];refine zG hb Jm Jm ?_;unfold eM at q;have m0:=i7 c 3;generalize d8 c 3=m at m0 q ⊢;have z0:0<=m % 6:=dD _ Jm;have z1:m % 6<6:=gN _ Jm;have l0:0<=m / 6 % (1+m % 6):=dD _ Jn;refine ⟨CDivB.small Jm Jm,Jn,fun p0 hp0=>⟨Jm,Jm,cE (fun i σ H'=>Same H H'/\H' p0=some (.lst ((nms m i).map V.str))/\∃o6 o7 o8 o9,σ=[some (.int c),some (.str "abcdefghijklmnopqrstuvwxyz"),some (.int m),some (.int (1+m % 6)),some (.int (m / 6 % (1+m % 6))),some (.ref p0),o6,o7,o8,o9])
  (zC (Same.upd hp0) ac (zS _ _ _ _ rfl)) ?_ ?_⟩⟩
 ·rintro i σ H' hi ⟨sm,hl,o6,o7,o8,o9,rfl⟩;rwa [];refine ⟨Jn,Jn,cE (fun j σ H2=>H2=H'/\∃o8 o9,σ=[some (.int c),some (.str "abcdefghijklmnopqrstuvwxyz"),some (.int m),some (.int (1+m % 6)),some (.int (m / 6 % (1+m % 6))),some (.ref p0),some (.int i),some (.str (nm m (m / 6 % (1+m % 6)) i j)),o8,o9])
   ⟨rfl,zR _ _ rfl⟩ ?_ ?_⟩
  ·rintro j σ H2 hj ⟨rfl,o8,o9,rfl⟩;rwa [];have hi8:i<8:=hi;have hb1:(if decide ((j:Int)=m / 6 % (1+m % 6))=true then (1:Int) else 0)=0\/(if decide ((j:Int)=m / 6 % (1+m % 6))=true then (1:Int) else 0)=1:=by
    split
    ·exact .inr rfl
    ·exact .inl rfl
   refine zH (CDivB.small Jm Jm) (.inl ⟨Jn,by omega +splitNatSub⟩) (.inl ⟨Jn,Jn⟩) Jk (zD _ (sh _) ?_ (zR _ _ rfl));rw [mG];show j+1<=sizeLine;rw [bP];omega
  ·rintro σ H2 ⟨rfl,o8,o9,rfl⟩;rwa [];have hi8:i<8:=hi;refine ⟨.inl ⟨rfl,_,SqL.of hl⟩,zT _ hl ?_ (fun b o e=>?_) ?_ (zS _ _ _ _ rfl)⟩
   ·rw [ck];unfold nms;rw [ck,List.length_range,bP];omega
   ·rw [aj (am e hp0)];exact sm b o e
   ·rw [ac,mI,fm];rfl
 ·rintro σ H' ⟨sm,hl,o6,o7,o8,o9,rfl⟩;rwa [];refine ⟨CDivB.small Jm Jm,aA (fun e=>?_) (fun e=>?_)⟩
  ·rw [zq2 e] at q;intro p hp;exact q p _ (sm.trans (Same.upd hp)) (sm.free hp) ac
  ·rw [zq1 e] at q;exact q p0 H' sm hp0 hl
def cG(K:W.Frag)(d:Nat):Sp:=fun vs H Q _=>∃(a:Addr)(xs:List V)(ss:List Stm)(f:List Addr),vs=[.ref a]/\H a=some (.lst xs)/\StmsV K H xs ss f/\aR ss<d/\aK ss<=1000/\
 ∀p ys g H',Same H H'->H' p=some (.lst ys)->StmsV K H' ys ss g->(p::g).Nodup->(∀c∈p::g,H c=none)->Q (.ref p) H'
def dc(K:W.Frag)(d:Nat):Sp:=fun vs H Q _=>∃(x:V)(s:Stm)(f:List Addr),vs=[x]/\StmV K H x s f/\s.deep<d/\s.many<=1000/\
 ∀y g H',Same H H'->StmV K H' y s g->g.Nodup->(∀c∈g,H c=none)->Q y H'
theorem nC{d:Nat}{x:V}{H:Hp}{Q:VK}{E:XK}:dc K d [x] H Q E=∃(s:Stm)(f:List Addr),StmV K H x s f/\s.deep<d/\s.many<=1000/\∀y g H',Same H H'->StmV K H' y s g->g.Nodup->(∀c∈g,H c=none)->Q y H':=
 propext ⟨by rintro ⟨_,s,f,e,q⟩;cases e;exact zR s f q,by rintro ⟨s,f,q⟩;exact zL x s f rfl q⟩
theorem aY{d:Nat}{a:Addr}{H:Hp}{Q:VK}{E:XK}:cG K d [.ref a] H Q E=∃(xs:List V)(ss:List Stm)(f:List Addr),H a=some (.lst xs)/\StmsV K H xs ss f/\aR ss<d/\aK ss<=1000/\
 ∀p ys g H',Same H H'->H' p=some (.lst ys)->StmsV K H' ys ss g->(p::g).Nodup->(∀c∈p::g,H c=none)->Q (.ref p) H':=
 propext ⟨by rintro ⟨_,xs,ss,f,e,q⟩;cases e;exact zO xs ss f q,by rintro ⟨xs,ss,f,q⟩;exact zX a xs ss f rfl q⟩
theorem dG(T:Txt K mg t)(d:Nat)(G_2:FnOk P w K mg base CX0 (2 * d+1) t.f_2 t.e_2 ["row"] (dc K d)):FnOk P w K mg base CX0 (2 * d+2) t.f_1 t.e_1 ["rows"] (cG K d):=by
 refine T.d_1.F.ok wZ ∅ ?_;rintro cdv A outer s H vs Q E hr ⟨a,xs,ss,f,rfl,ha,hx,hd,hl,q⟩;refine ⟨_,
   (XSs.h
   (ak
    (ax (cH (tns:=["row"]) (cns:=[]) (ci:=[]) rfl (CompSc.of Jl) (fi (yqv 0 vl)) (fun _=>(bh (i:=1) (show List.Nodup [(".0":Str),("row":Str)] by decide +kernel) rfl ll (Or.inr Jl))) (fun _=>cJ) (fun _=>(ay T.d_2 G_2 hr.m (aa (yqv 1 vl) ai) gl)))))),?_⟩
 rw [show aM _ [V.ref a]=[some (.ref a)] from rfl];rwa [nC];refine ⟨⟨_,SqL.of ha⟩,fun acc hacc bk=>?_⟩;have lx:=hx.length;have lm:=bf ss;refine jw (xs:=xs) (fun i ys H'=>Same H H'/\H' acc=some (.lst ys)/\ys.length=i/\∃g,StmsV K H' ys (ss.take i) g/\(acc::g).Nodup/\∀c∈acc::g,H c=none) ?_ ?_ ?_ ?_
 ·exact zG (Same.upd hacc) ac rfl (zD ([]) .nil Jo (fun c hc=>by rw [zq28.mp hc];exact hacc))
 ·intro i ys H' _ h;exact SqL.of (h.1 _ _ ha)
 ·rintro i x ys H' os hxi ho ⟨sm,hacc2,ly,g,hg,nd,fr⟩
  match os,ho with
  | [o],_=>
   rwa [nC];refine ⟨zA ([some x]) rfl rfl,?_⟩;rw [zq2 trivial];obtain ⟨s,f',hs,hsv,_⟩:=hx.get hxi;have hi:i<ss.length:=(zq25.mp hs).1;have hse:ss[i]=s:=(zq25.mp hs).2;have hds:=bG (lK hs);refine zF s f' (hsv.same sm) Jn (by have:=cv (lK hs);omega) fun y g2 H2 s2 hy nd2 fr2=>?_;have na:acc∉g:=(zq30.mp nd).1;have na2:acc∉g2:=fun z=>by rw [fr2 acc z] at hacc2;cases hacc2
   have tt:TSame H2 (upd H2 acc (.lst (ys++[y]))):=TSame.updL (s2 _ _ hacc2);refine zI (s2 _ _ hacc2) (by rw [bP];omega) ((sm.trans s2).updM hacc) ac (by simp [ly]) (zD (g++g2) ?_ ?_ fun c hc=>?_)
   ·rw [qI hi,hse];exact ((hg.same s2).keep tt (Kept.upd na)).snoc (hy.keep tt (Kept.upd na2))
   ·refine zq30.mpr ⟨fun z=>(zq23.mp z).elim na na2,fR (zq30.mp nd).2 nd2 fun c h1 h2=>?_⟩;obtain ⟨zs,hz⟩:=hg.tracked c h1;rw [fr2 c h2] at hz;cases hz
   ·rcases zq8.mp hc with z | z
    ·rw [z];exact hacc
    ·rcases zq23.mp z with z | z
     ·exact fr c (bz _ z)
     ·exact sm.free (fr2 c z)
 ·rintro ys H' ⟨sm,hacc2,ly,g,hg,nd,fr⟩;rw [lx,lN] at hg;exact q acc ys g H' sm hacc2 hg nd fr
theorem ky(T:Txt K mg t)(d:Nat)(G_1:FnOk P w K mg base CX0 (2 * d+2) t.f_1 t.e_1 ["rows"] (cG K d)):FnOk P w K mg base CX0 (2 * (d+1)+1) t.f_2 t.e_2 ["row"] (dc K (d+1)):=by
 refine T.d_2.F.ok x2 ∅ ?_;rintro cdv A outer s H vs Q E hr ⟨x,s,f,rfl,hx,hd,hm,q⟩;refine ⟨_,
   (XSs.h
   (af
    (aO (aw bq (av aG (yqv 0 vl) ae) aq (aE _))
     (ak
      (ax (aL (aa aq (aa (av aG (yqv 0 vl) ae) (aa (ay T.d_1 G_1 hr.m (aa (av aG (yqv 0 vl) ae) ai) gl) (aa (ay T.d_1 G_1 hr.m (aa (av aG (yqv 0 vl) ae) ai) gl) ai)))))))
     aC)
   (af
    (aO (aw bq (av aG (yqv 0 vl) ae) aq (aE _))
     (ak
      (ax (aL (aa aq (aa (av aG (yqv 0 vl) ae) (aa (ay T.d_1 G_1 hr.m (aa (av aG (yqv 0 vl) ae) ai) gl) ai))))))
     aC)
   (ak
    (ax (yqv 0 vl)))))),?_⟩
 rw [show aM _ [x]=[some x] from rfl]
 cases hx with
 | @deed q0 dd hf hq=>
  rwa [aY];refine fK hf hq Jk Jk Jk (zA _ rfl ?_);rw [zq1 zq6];refine fK hf hq Jk Jk Jk (zA _ rfl ?_);rw [zq1 zq6];exact q _ [] H (Same.refl H) (.deed hf hq) Jo (fun c hc=>by cases hc)
 | @ifs q0 a b n xs ys ones others f g hq ha hb h1 h2=>
  simp only [Stm.deep,Stm.many] at hd hm;rwa [aY];refine zB _ _ hq rfl ?_;rwa [aY];refine aA (fun _=>zB _ _ hq rfl (zB _ _ hq rfl ?_)) (fun z=>absurd trivial z);rwa [aY];refine zJ xs ones f ha h1 Jn Jn fun p1 zs1 g1 H1 s1 e1 k1 nd1 fr1=>zB _ _ (s1.seqT hq) rfl ?_;rwa [aY];refine zJ ys others g (s1 _ _ hb) (h2.same s1) Jn Jn fun p2 zs2 g2 H2 s2 e2 k2 nd2 fr2 p3 hp3=>?_;have s3:=Same.upd (o:=.tup [V.str "if",V.str n,V.ref p1,V.ref p2]) hp3;have s12:=s1.trans s2;refine q _ (p1::p2::(g1++g2)) _ (s12.trans s3) (.ifs (SqT.of ac) (s3 _ _ (s2 _ _ e1)) (s3 _ _ e2) ((k1.same s2).same s3) (k2.same s3)) ?_ (fun c hc=>?_)
  ·have dj:∀c∈p1::g1,c∉p2::g2:=fun c h1 h2=>by
    have ex:∃u,H1 c=some u:=by
     rcases zq8.mp h1 with z | z
     ·exact ⟨_,by rw [z];exact e1⟩
     ·obtain ⟨u,hu⟩:=k1.tracked c z;exact ⟨_,hu⟩
    obtain ⟨u,hu⟩:=ex;rw [fr2 c h2] at hu;cases hu
   have n5:=fR nd1 nd2 dj;refine (List.Perm.nodup_iff ?_).mp n5;rw [jn];exact .cons _ List.perm_middle
  ·rcases zq8.mp hc with z | z
   ·rw [z];exact fr1 p1 Jo
   rcases zq8.mp z with z | z
   ·rw [z];exact s1.free (fr2 p2 Jo)
   rcases zq23.mp z with z | z
   ·exact fr1 c (bz _ z)
   ·exact s1.free (fr2 c (bz _ z))
 | @whl q0 a n xs rows f hq ha h1=>simp only [Stm.deep,Stm.many] at hd hm;rwa [aY];refine zB _ _ hq rfl ?_;rwa [aY];refine aA (fun z=>absurd z Jk) (fun _=>zB _ _ hq rfl ?_);rwa [aY];refine aA (fun _=>zB _ _ hq rfl (zB _ _ hq rfl ?_)) (fun z=>absurd trivial z);rwa [aY];refine zJ xs rows f ha h1 Jn Jn fun p1 zs1 g1 H1 s1 e1 k1 nd1 fr1 p3 hp3=>?_;have s3:=Same.upd (o:=.tup [V.str "while",V.str n,V.ref p1]) hp3;exact q _ (p1::g1) _ (s1.trans s3) (.whl (SqT.of ac) (s3 _ _ e1) (k1.same s3)) nd1 fr1
theorem fS(T:Txt K mg t):∀d,FnOk P w K mg base CX0 (2 * d+1) t.f_2 t.e_2 ["row"] (dc K d)/\FnOk P w K mg base CX0 (2 * d+2) t.f_1 t.e_1 ["rows"] (cG K d)
 |0=>by
  have h0:FnOk P w K mg base CX0 (2 * 0+1) t.f_2 t.e_2 ["row"] (dc K 0):=⟨fun vs H Q E h=>by obtain ⟨_,_,_,_,_,h,_⟩:=h;omega,fun _ _ _ _ _ _ _ _ _ _ _ _ _ h=>by obtain ⟨_,_,_,_,_,h,_⟩:=h;omega⟩
  exact ⟨h0,dG T 0 h0⟩
 |d+1=>by have h1:=ky T d (fS T d).2;exact ⟨h1,dG T (d+1) h1⟩
def jt(K:W.Frag)(C:Addr)(d:Nat)(p:Addr)(a0:Addr)(b0:Addr)(r0:Addr)(wd:Int)(H:Hp)(Q:VK):Prop:=∃(dx:Addr)(ins:List Str)(oth:List Str)(xs:List V)(ss:List Stm)(f:List Addr),H p=some (.ins C dx [])/\
 H a0=some (.lst (ins.map V.str))/\H b0=some (.lst (oth.map V.str))/\H r0=some (.lst xs)/\StmsV K H xs ss f/\aR ss<d/\aK ss<=1000/\ins.length<=1000/\oth.length<=1000/\
 ∀a b r ys g H',SameX p H H'->ProgAt K C H' p wd ins oth ss a b r ys g->(a::b::r::g).Nodup->(∀c∈a::b::r::g,H c=none)->Q .non H'
def jZ(K:W.Frag)(C:Addr)(d:Nat):Sp:=fun vs H Q _=>∃(p:Addr)(a0:Addr)(b0:Addr)(r0:Addr)(wd:Int),vs=[.ref p,.int wd,.ref a0,.ref b0,.ref r0]/\jt K C d p a0 b0 r0 wd H Q
theorem pq(T:Txt K mg t)(d:Nat):FnOk P w K mg base CX0 (2 * d+3) t.f_0 t.e_0 ["self","width","ins","boxes","rows"] (jZ K t.C_Program d):=by
 have G_1:=(@fS P w K mg base t T d).2;refine T.d_0.F.ok wY ∅ ?_;rintro cdv A outer s H vs Q E hr ⟨p,a0,b0,r0,wd,rfl,dx,ins,oth,xs,ss,f,hp,ha,hb,hr0,hx,hd,hm,hi,ho,q⟩;refine ⟨_,
   (XSs.h
   (af
    (bS (yqv 0 vl) (yqv 1 vl) rfl)
   (af
    (bS (yqv 0 vl) (bM c6 gl T.z_list boot_list (aa (yqv 2 vl) ai)) rfl)
   (af
    (bS (yqv 0 vl) (ao gE (bM c6 gl T.z_list boot_list (aa (yqv 2 vl) ai)) (bM c6 gl T.z_list boot_list (aa (yqv 3 vl) ai))) rfl)
   (ak
    (bS (yqv 0 vl) (ay T.d_1 G_1 hr.m (aa (yqv 4 vl) ai) gl) rfl)))))),?_⟩
 rw [show aM _ [V.ref p,V.int wd,V.ref a0,V.ref b0,V.ref r0]=[some (.ref p),some (.int wd),some (.ref a0),some (.ref b0),some (.ref r0)] from rfl];rwa [aY];have na:a0≠p:=b9 ha hp (by intro z;cases z);have nb:b0≠p:=b9 hb hp (by intro z;cases z);have nr:r0≠p:=b9 hr0 hp (by intro z;cases z);refine hU hp T.c_Program.cl T.n_Program_width Jo ?_;rw [bv Jp,uB];obtain ⟨H1,hH1⟩:∃H1,H1=upd H p (.ins t.C_Program dx [("width",V.int wd)]):=⟨_,rfl⟩
 rw [<- hH1];have e1:H1 p=some (.ins t.C_Program dx [("width",V.int wd)]):=by rw [hH1];exact ac
 have s1:SameX p H H1:=by rw [hH1];exact SameX.upd
 have t1:TSame H H1:=by rw [hH1];exact TSame.updI hp
 rwa [aY];refine zA _ (.inl (SqL.of (s1 _ _ ha na))) fun l1 hl1=>?_;have np1:p≠l1:=am e1 hl1;refine hU (by rw [aj np1];exact e1) T.c_Program.cl T.n_Program_ins Jo ?_;rw [bv Jl];obtain ⟨H2,hH2⟩:∃H2,H2=upd (upd H1 l1 (.lst (ins.map V.str))) p (.ins t.C_Program dx ([(("width":Str),V.int wd)]++[(("ins":Str),V.ref l1)])):=⟨_,rfl⟩
 rw [<- hH2];have e2:H2 p=some (.ins t.C_Program dx ([(("width":Str),V.int wd)]++[(("ins":Str),V.ref l1)])):=by rw [hH2];exact ac
 have s2:SameX p H1 H2:=by rw [hH2];exact (SameX.of (Same.upd hl1)).trans SameX.upd
 have k2:H2 l1=some (.lst (ins.map V.str)):=by rw [hH2,aj np1.symm];exact ac
 have t2:TSame H1 H2:=by rw [hH2];exact (Same.upd hl1).ts.trans (TSame.updI (by rw [aj np1];exact e1))
 have s02:=s1.trans s2;rwa [aY];refine zA _ (.inl (SqL.of (s02 _ _ ha na))) fun l2 hl2=>?_;have s3:=Same.upd (o:=.lst (ins.map V.str)) hl2;refine zA _ (.inl (SqL.of (s3 _ _ (s02 _ _ hb nb)))) fun l3 hl3=>?_;have s4:=s3.trans (Same.upd (o:=.lst (oth.map V.str)) hl3);refine zF _ _ (by rw [aj (am ac hl3)];exact ac) ac (by rw [bP];simp only [List.length_map];omega) fun l4 hl4=>?_;have s5:=s4.trans (Same.upd (o:=.lst (ins.map V.str++oth.map V.str)) hl4);refine hU (s5 _ _ e2) T.c_Program.cl T.n_Program_boxes Jo ?_;rw [bv Jl];have np4:p≠l4:=am (s4 _ _ e2) hl4;obtain ⟨H3,hH3⟩:∃H3,H3=upd (upd (upd (upd H2 l2 (.lst (ins.map V.str))) l3 (.lst (oth.map V.str))) l4 (.lst (ins.map V.str++oth.map V.str))) p (.ins t.C_Program dx ([(("width":Str),V.int wd)]++[(("ins":Str),V.ref l1)]++[(("boxes":Str),V.ref l4)])):=⟨_,rfl⟩
 rw [<- hH3];have e3:H3 p=some (.ins t.C_Program dx ([(("width":Str),V.int wd)]++[(("ins":Str),V.ref l1)]++[(("boxes":Str),V.ref l4)])):=by rw [hH3];exact ac
 have s23:SameX p H2 H3:=by rw [hH3];exact (SameX.of s5).trans SameX.upd
 have k4:H3 l4=some (.lst (ins.map V.str++oth.map V.str)):=by rw [hH3,aj np4.symm];exact ac
 have t3:TSame H2 H3:=by rw [hH3];exact s5.ts.trans (TSame.updI (s5 _ _ e2))
 have s03:=s02.trans s23;rwa [aY];have pf:p∉f:=fun z=>by obtain ⟨zs,hz⟩:=hx.tracked p z;rw [hp] at hz;cases hz
 refine zJ xs ss f (s03 _ _ hr0 nr) (hx.keep ((t1.trans t2).trans t3) (fun c hc o e=>s03 c o e (fun z=>pf (by rw [<- z];exact hc)))) hd hm fun r ys g H4 s34 e4 k5 nd fr=>?_;refine hU (s34 _ _ e3) T.c_Program.cl T.n_Program_rows Jo ?_;rw [bv Jl];have pg:p∉r::g:=fun z=>by rw [fr p z] at e3;cases e3
 have npr:r≠p:=fun z=>pg (by rw [z];exact cC);have nl1:l1≠p:=np1.symm;have nl4:l4≠p:=np4.symm;have n14:l1≠l4:=am (s4 _ _ k2) hl4;have f1:H l1=none:=s1.free e1 hl1;have f4:H l4=none:=s02.free e2 (s4.free hl4);have k3:H3 l1=some (.lst (ins.map V.str)):=s23 _ _ k2 nl1;refine q l1 l4 r ys g _ (s03.trans ((SameX.of s34).trans SameX.upd)) ⟨⟨dx,ac⟩,?_,?_,?_,?_⟩ ?_ ?_
 ·rw [aj nl1];exact s34 _ _ k3
 ·rw [aj nl4,fm];exact s34 _ _ k4
 ·rw [aj npr];exact e4
 ·exact k5.keep (TSame.updI (s34 _ _ e3)) (Kept.upd fun z=>pg (bz _ z))
 ·have a1:l1∉r::g:=fun z=>by rw [fr l1 z] at k3;cases k3
  have a4:l4∉r::g:=fun z=>by rw [fr l4 z] at k4;cases k4
  refine zq30.mpr ⟨fun z=>?_,zq30.mpr ⟨a4,nd⟩⟩;rcases zq8.mp z with z | z
  ·exact n14 z
  ·exact a1 z
 ·intro c hc;rcases zq8.mp hc with z | hc
  ·rw [z];exact f1
  rcases zq8.mp hc with z | hc
  ·rw [z];exact f4
  exact s03.free e3 (fr c hc)
theorem nE{C p a0 b0 r0:Addr}{d:Nat}{wd:Int}{H:Hp}{Q:VK}{E:XK}:jZ K C d [.ref p,.int wd,.ref a0,.ref b0,.ref r0] H Q E=jt K C d p a0 b0 r0 wd H Q:=propext ⟨by rintro ⟨_,_,_,_,_,e,q⟩;cases e;exact q,fun q=>zK _ _ _ _ _ ⟨rfl,q⟩⟩
def wl(H:Hp)(a b c:Str)(many stp:Nat)(R3:List Stm)(v:V):Prop:=
 (R3=[]/\(1000<stp/\v=.str "refused"\/stp<=1000/\∃p u d,v=.ref p/\H p=some (.tup [.str "over",.ref u,.ref d])/\H u=some (.lst ((aZ many).map V.int))/\H d=some (.dK (bx3 a b c 0 0 0))))\/
 (R3=Rr c/\(1000<stp+2/\v=.str "refused"\/stp+2<=1000/\∃p u d,v=.ref p/\H p=some (.tup [.str "round",.ref u,.ref d,.int ((stp:Int)+1),.int 1])/\H u=some (.lst ((aZ many).map V.int))/\H d=some (.lst [])))
theorem bX{H:Hp}{p:Addr}{l:List V}{j:Int}{v:V}{Z:V->Prop}(h:H p=some (.lst l))(e:atI l j=some v)(q:Z v):∃xs v,SqL K H p xs/\atI xs j=some v/\Z v:=zB l v (SqL.of h) e q
theorem df{H:Hp}{ys:List V}{ts:List Stm}{g:List Addr}(h2:StmsV K H ys ts g):∀{xs:List V} {ss:List Stm} {f:List Addr},StmsV K H xs ss f->StmsV K H (xs++ys) (ss++ts) (f++g)
 |_,_,_,.nil=>h2
 |_,_,_,.cons (f:=f) (g:=g') h t=>by rw [jn,jn,ux];exact .cons h (df h2 t)
theorem si{a b c:Str}{x y z:Int}(h1:a≠b)(h2:a≠c)(h3:b≠c):cw [] (bx3 a b c x y z)=bx3 a b c x y z:=by simp [cw,bx3,b6,h1,h2,h3]
section
variable {a b c:Str} {one other many:Nat} {R3:List Stm} (h1:a≠b) (h2:a≠c) (h3:b≠c) (l1:one<=255) (l2:other<=255)
include h1 h2 h3 l1 l2
theorem qV{n:Nat}(h:n<=stp one other many):dF 8 (st0 a b c one other many R3) n:=fun i hi=>il h1 h2 h3 l1 l2 Jn
theorem mz{n:Nat}(h:n<=stp one other many+1):dE 8 (st0 a b c one other many R3) n:=fun i j hij hj e=>by have z:=congrArg ja e;rw [gI h1 h2 h3 l1 l2 Jn,gI h1 h2 h3 l1 l2 Jn] at z;omega
theorem qW{n:Nat}:dF 8 (st0 a b c one other many (Rr c)) n:=fun i _=>by
 rcases Nat.lt_trichotomy i (stp one other many) with z | z | z
 ·exact il h1 h2 h3 l1 l2 z
 ·rw [z,et h1 h2 h3 l1 l2];exact (by decide:¬2=0)
 ·obtain ⟨k,rfl⟩:=Nat.exists_eq_add_of_le z;rw [show (stp one other many).succ+k=stp one other many+1+k from rfl,ij h1 h2 h3 l1 l2];exact (by decide:¬1=0)
theorem qU:dE 8 (st0 a b c one other many (Rr c)) (stp one other many+2):=fun i j hij hj e=>by
 by_cases z:j<stp one other many+1
 ·exact mz h1 h2 h3 l1 l2 (n:=stp one other many+1) (zq4 _) i j hij z e
 ·obtain rfl:j=stp one other many+1:=by omega
  have z:=congrArg ja e;rw [gI h1 h2 h3 l1 l2 Jn,x9,ij h1 h2 h3 l1 l2 0,uW] at z;omega
end
theorem iE{H:Hp}{n:Str}{w:Int}{p p1 p2 p3:Addr}(h0:H p=none)(h1:upd H p (.tup [.str "copy",.str n,.int w]) p1=none) (h2:upd (upd H p (.tup [.str "copy",.str n,.int w])) p1 (.tup [.str "less",.str n,.str n,.int 1]) p2=none)
  (h3:upd (upd (upd H p (.tup [.str "copy",.str n,.int w])) p1 (.tup [.str "less",.str n,.str n,.int 1])) p2 (.lst [.ref p1]) p3=none) :
  Same H (upd (upd (upd (upd H p (.tup [.str "copy",.str n,.int w])) p1 (.tup [.str "less",.str n,.str n,.int 1])) p2 (.lst [.ref p1])) p3 (.tup [.str "while",.str n,.ref p2]))/\
  StmsV K (upd (upd (upd (upd H p (.tup [.str "copy",.str n,.int w])) p1 (.tup [.str "less",.str n,.str n,.int 1])) p2 (.lst [.ref p1])) p3 (.tup [.str "while",.str n,.ref p2])) [.ref p,.ref p3] [.deed (.copy n (.word w)),.whl n (Bl n)] [p2]:=by
 have s1:=Same.upd (o:=.tup [.str "copy",.str n,.int w]) h0;have s2:=Same.upd (o:=.tup [.str "less",.str n,.str n,.int 1]) h1;have s3:=Same.upd (o:=.lst [.ref p1]) h2;have s4:=Same.upd (o:=.tup [.str "while",.str n,.ref p2]) h3;have a1:=SqT.of (K:=K) (s4 _ _ (s3 _ _ (s2 _ _ ac)));have a2:=SqT.of (K:=K) (s4 _ _ (s3 _ _ ac));refine ⟨((s1.trans s2).trans s3).trans s4,.cons (f:=[]) (.deed trivial a1) (.cons (f:=[p2]) (g:=[]) (.whl (SqT.of ac) (s4 _ _ ac) (.cons (f:=[]) (g:=[]) (.deed (d:=.op "less" n (.box n) (.word 1)) (show ("less":Str)∈FB.opsL by decide +kernel) a2) .nil)) .nil)⟩
theorem sk(T:Txt K mg t):FnOk P w K mg base CX0 30 t.f_23 t.e_23 ["_law_script"] (sp_law K):=by
 have G_21:=@mP P w K mg base t T;have G_0:=@pq P w K mg base t T 2;have G_22:=@mL P w K mg base t T;refine T.d_23.F.ok sc_23 ∅ ?_;rintro cdv A outer s H vs Q E hr ⟨a0,ns,rfl,hS,hlen,hbits,q⟩;have hu:=fO hr;refine ⟨_,
   (XSs.h
   (af
    (au (i:=1) sc_23.nd rfl ll (bI (lY rfl) gl T.z_sum boot_sum (aa (bH eu (yqv 0 vl) bZ (c3 ae)) ai)))
   (af
    (au (i:=2) sc_23.nd rfl ll (ay T.d_21 G_21 hr.m (aa (yqv 1 vl) ai) gl))
   (af
    (au (i:=3) sc_23.nd rfl ll (ao b8 ae (ao aX (yqv 1 vl) ae)))
   (af
    (au (i:=4) sc_23.nd rfl ll (ao eB ae (yqv 3 vl)))
   (af
    (au (i:=5) sc_23.nd rfl ll (ao aX (ao bJ (yqv 1 vl) ae) ae))
   (af
    (dQ (i:=6) sc_23.nd rfl ll rfl Jl (tns:=["_law_k"]) (cns:=[]) (ci:=[]) rfl (CompSc.of Jl) (bp gl T.z_range (aa (yqv 5 vl) ai)) (fun _=>(bh (i:=1) (show List.Nodup [(".0":Str),("_law_k":Str)] by decide +kernel) rfl ll (Or.inr Jl))) (fun _=>cJ) (fun _=>(aL (aa aq (aa (ao aX (yqv 1 vl) ae) ai)))))
   (af
    (au (i:=7) sc_23.nd rfl ll (bj (aa (aL (aa aq (aa (av aW (yqv 2 vl) ae) (aa (yqv 3 vl) ai)))) (aa (aL (aa aq (aa (av aW (yqv 2 vl) ae) (aa (bj (aa (aL (aa aq (aa (av aW (yqv 2 vl) ae) (aa (av aW (yqv 2 vl) ae) (aa ae ai))))) ai)) ai)))) ai))))
   (af
    (au (i:=7) sc_23.nd rfl ll (ao gE (ao gE (yqv 7 vl) (yqv 6 vl)) (bj (aa (aL (aa aq (aa (av aW (yqv 2 vl) ae) (aa (yqv 4 vl) ai)))) (aa (aL (aa aq (aa (av aW (yqv 2 vl) ae) (aa (bj (aa (aL (aa aq (aa (av aW (yqv 2 vl) ae) (aa (av aW (yqv 2 vl) ae) (aa ae ai))))) ai)) ai)))) ai)))))
   (af
    (au (i:=8) sc_23.nd rfl ll (ao b8 (ao b8 (ao b8 (ao bB ae (yqv 3 vl)) (ao bB ae (yqv 4 vl))) ae) (yqv 5 vl)))
   (af
    (au (i:=9) sc_23.nd rfl ll (om (eS (av aW (yqv 2 vl) ae).h (ae).h (eS (av aW (yqv 2 vl) ae).h (ae).h (eS (av aW (yqv 2 vl) ae).h (ae).h pJ))) rfl rfl (by intro z;cases z) Jm))
   (ou
    (aO (aw bq (ao aX (ao bJ (yqv 1 vl) ae) ae) ae (aE _))
     (af
      (au (i:=10) sc_23.nd rfl ll (aL (aa aq (aa (cH (tns:=["_law_k"]) (cns:=[]) (ci:=[]) rfl (CompSc.of Jl) (bp gl T.z_range (aa (yqv 5 vl) ai)) (fun _=>(bh (i:=1) (show List.Nodup [(".0":Str),("_law_k":Str)] by decide +kernel) rfl ll (Or.inr Jl))) (fun _=>cJ) (fun _=>(ao aX (yqv 1 vl) ae))) (aa (yqv 9 vl) ai)))))
     (ak
      (aO (aw oy (yqv 8 vl) ae (aE _))
       (ak
        (au (i:=10) sc_23.nd rfl ll aq))
       aC)))
     (af
      (au (i:=7) sc_23.nd rfl ll (ao gE (yqv 7 vl) (bj (aa (aL (aa aq (aa (av aW (yqv 2 vl) ae) (aa ae ai)))) (aa (aL (aa aq (aa (av aW (yqv 2 vl) ae) (aa (bj ai) ai)))) ai)))))
     (af
      (au (i:=10) sc_23.nd rfl ll (aL (aa aq (aa (cH (tns:=["_law_k"]) (cns:=[]) (ci:=[]) rfl (CompSc.of Jl) (bp gl T.z_range (aa (yqv 5 vl) ai)) (fun _=>(bh (i:=1) (show List.Nodup [(".0":Str),("_law_k":Str)] by decide +kernel) rfl ll (Or.inr Jl))) (fun _=>cJ) (fun _=>(ao aX (yqv 1 vl) ae))) (aa (bj ai) (aa (ao b8 (yqv 8 vl) ae) (aa ae ai)))))))
     (ak
      (aO (aw oy (ao b8 (yqv 8 vl) ae) ae (aE _))
       (ak
        (au (i:=10) sc_23.nd rfl ll aq))
       aC)))))
   (ak
    (ax (fh (mT (kJ (n:=2) Jm hr)) (ay T.d_22 G_22 hr.m (aa (g8 T.c_Program T.d_0 G_0 hr.m (aa ae (aa (bj ai) (aa (bH eu (yqv 2 vl) bZ (c3 ae)) (aa (yqv 7 vl) ai)))) gl) ai) gl) (yqv 10 vl) (aE _)))))))))))))))),?_⟩
 rw [show aM _ [V.ref a0]=some (.ref a0)::List.replicate 10 none from rfl];simp_arith! [List.replicate_succ,List.replicate_zero,jU,nE,jT];have ec:cj (ns.map V.int) none (some 63)=ns.map V.int:=by rw [gp Jm,qH (by rw [ck];exact hlen)]
 refine zA _ hS (fun p hp=>zB p ns rfl (SqL.of (by rw [ac,ec])) (aS ?_));have s0:=Same.upd (o:=.lst (cj (ns.map V.int) none (some 63))) hp;generalize upd H p (.lst (cj (ns.map V.int) none (some 63)))=H0 at s0 ⊢;have hsum:Builtin.Int.intBits ns.sum<=2 ^ 20+63:=bO (FL.iB hbits) Jn;generalize ns.sum=fs at hsum ⊢;clear hS s0 hp p;simp_arith! [jU];refine ⟨Jn,fun pn H1 s1 hpn hnm=>aS ?_⟩;obtain ⟨a,b,c,rn,en,n1,n2,n3,ln⟩:=mE fs;rw [en] at hnm;have i0:atI ((a::b::c::rn).map V.str) 0=some (.str a):=gk rfl;have i1:atI ((a::b::c::rn).map V.str) 1=some (.str b):=gk rfl;have i2:atI ((a::b::c::rn).map V.str) 2=some (.str c):=gk rfl;simp_arith! [];refine aS ?_;simp_arith! [];refine aS ?_;simp_arith! [];have o0:=dD fs (show (9:Int)≠0 by decide);have o1:=gN fs (show (0:Int)<9 by decide);have m0:=dD (fs / 9) (show (10:Int)≠0 by decide);have m1:=gN (fs / 9) (show (0:Int)<10 by decide);obtain ⟨one,hone⟩:=iK (show 0<=241+fs % 9 by omega);obtain ⟨other,hother⟩:=iK (show 0<=496-(241+fs % 9) by omega);obtain ⟨many,hmany⟩:=iK m0;rw [hother,hone,hmany];have b1:one<=249:=by omega
 have b2:other<=255:=by omega
 have b3:many<=9:=by omega
 have b4:one+other=496:=by omega
 clear o0 o1 m0 m1 hone hother hmany hsum;refine ⟨CDivB.small Jm Jm,aS ?_⟩;simp_arith! [];refine zC Jn Jn fun pt hpt bk=>?_;refine gS (n:=((many:Int)).toNat) (fun i ys H'=>Same H1 H'/\H' pt=some (.lst ys)/\ys.length=i/\StmsV K H' ys ((List.range i).map tlS) []) (zG (Same.upd hpt) ac rfl .nil) ?_ ?_
 ·rintro i ys H' os hi ho ⟨sm,he,hl,hst⟩
  match os,ho with
  | [o],_=>rwa [];refine ⟨zA ([some (.int (0+(i:Int)))]) rfl rfl,?_⟩;rw [zq2 trivial,qE];intro p hp;have sp:=Same.upd (o:=.tup [V.str "tell",V.int ((i:Int) % 2)]) hp;refine zI (sp _ _ he) (by rw [bP];omega) ((sm.trans sp).updM hpt) ac (by simp [hl]) ?_;have tt:TSame (upd H' p (.tup [V.str "tell",V.int ((i:Int) % 2)])) (upd (upd H' p (.tup [V.str "tell",V.int ((i:Int) % 2)])) pt (.lst (ys++[V.ref p]))):=TSame.updL (sp _ _ he);rw [oG,fm];exact ((hst.same sp).keep tt (Kept.upd Jo)).snoc (g:=[]) (.deed (d:=.tell (.word ((i:Int) % 2))) trivial (SqT.of (tt.tup _ _ ac)))
 ·rintro ys H2 ⟨s2,het,hlt,hst⟩;refine aS ?_;simp_arith! [];have hn2:=s2 _ _ hnm;refine bX hn2 i0 fun p hp=>?_;have sA:=Same.upd (o:=.tup [V.str "copy",V.str a,V.int (one:Int)]) hp;refine bX (sA _ _ hn2) i0 (bX (sA _ _ hn2) i0 (bX (sA _ _ hn2) i0 fun p1 hp1 p2 hp2 p3 hp3 p4 hp4=>aS ?_));obtain ⟨s3,hr3⟩:=iE (K:=K) hp hp1 hp2 hp3;generalize upd (upd (upd (upd H2 p (.tup [.str "copy",.str a,.int (one:Int)])) p1 (.tup [.str "less",.str a,.str a,.int 1])) p2 (.lst [.ref p1])) p3 (.tup [.str "while",.str a,.ref p2])=H3 at s3 hr3 hp4 ⊢;clear hp hp1 hp2 hp3 sA;have s4:=Same.upd (o:=.lst [V.ref p,V.ref p3]) hp4;have e4:upd H3 p4 (.lst [V.ref p,V.ref p3]) p4=some (.lst [V.ref p,V.ref p3]):=ac;have hr4:=hr3.same s4;have s24:=s3.trans s4;generalize upd H3 p4 (.lst [V.ref p,V.ref p3])=H4 at s4 e4 hr4 s24 ⊢;have hst4:=(hst.same s24)
  have het4:=s24 _ _ het;have hn4:=s24 _ _ hn2;rw [nH];refine zW p4 pt _ _ rfl rfl e4 het4 (by rw [bW,bW,ut,bP];omega) fun p5 hp5=>?_;have s5:=Same.upd (o:=.lst ([V.ref p,V.ref p3]++ys)) hp5;have e5:upd H4 p5 (.lst ([V.ref p,V.ref p3]++ys)) p5=some (.lst ([V.ref p,V.ref p3]++ys)):=ac;have hr5:=df (hst4.same s5) (hr4.same s5);have hn5:=s5 _ _ hn4;have s25:=s24.trans s5;generalize upd H4 p5 (.lst ([V.ref p,V.ref p3]++ys))=H5 at s5 e5 hr5 hn5 s25 ⊢;clear hst4 het4 hn4 hst het hr3 hr4 e4 hp4 hp5 s4 s24 hn2;simp_arith! [];refine bX hn5 i1 fun q0 hq0=>?_;have sA:=Same.upd (o:=.tup [V.str "copy",V.str b,V.int (other:Int)]) hq0;refine bX (sA _ _ hn5) i1 (bX (sA _ _ hn5) i1 (bX (sA _ _ hn5) i1 fun q1 hq1 q2 hq2 q3 hq3 q4 hq4=>?_));obtain ⟨s6,hr6⟩:=iE (K:=K) hq0 hq1 hq2 hq3;generalize upd (upd (upd (upd H5 q0 (.tup [.str "copy",.str b,.int (other:Int)])) q1 (.tup [.str "less",.str b,.str b,.int 1])) q2 (.lst [.ref q1])) q3 (.tup [.str "while",.str b,.ref q2])=H6 at s6 hr6 hq4 ⊢;clear hq0 hq1 hq2 hq3 sA;have s7:=Same.upd (o:=.lst [V.ref q0,V.ref q3]) hq4;refine zF _ _ (s7 _ _ (s6 _ _ e5)) ac (by rw [bP];simp;omega) fun q5 hq5=>aS ?_;have s8:=Same.upd (o:=.lst ([V.ref p,V.ref p3]++ys++[V.ref q0,V.ref q3])) hq5;have e8:upd (upd H6 q4 (.lst [V.ref q0,V.ref q3])) q5 (.lst ([V.ref p,V.ref p3]++ys++[V.ref q0,V.ref q3])) q5=some (.lst ([V.ref p,V.ref p3]++ys++[V.ref q0,V.ref q3])):=ac;have hr8:=df ((hr6.same s7).same s8) (((hr5.same s6).same s7).same s8);have hn8:=s8 _ _ (s7 _ _ (s6 _ _ hn5));have s28:=((s25.trans s6).trans s7).trans s8;generalize upd (upd H6 q4 (.lst [V.ref q0,V.ref q3])) q5 (.lst ([V.ref p,V.ref p3]++ys++[V.ref q0,V.ref q3]))=H8 at s8 e8 hr8 hn8 s28 ⊢;generalize ([V.ref p,V.ref p3]++ys++[V.ref q0,V.ref q3])=xs8 at e8 hr8 ⊢;clear hr5 hr6 hq4 hq5 s6 s7 s5 s25 hn5 e5 s8;simp_arith! [];have er:[Stm.deed (Deed.copy a (Opd.word (one:Int))),Stm.whl a (Bl a)]++List.map tlS (List.range ((many:Int)).toNat)++[Stm.deed (Deed.copy b (Opd.word (other:Int))),Stm.whl b (Bl b)]=R0 a b one other many []:=by unfold R0 R1 HTS.R2 cA;rw [gM,List.range_eq_range'];simp
  rw [er] at hr8;generalize ([p2]++[]++[q2])=f8 at hr8;clear er hlt;have est:2 * (one:Int)+2 * (other:Int)+4+(many:Int)=(stp one other many:Int):=by unfold stp;omega
  refine zC (.inl ⟨Jm,Jm⟩) (.inl ⟨Jm,Jm⟩) (aS ?_);rw [est];simp_arith! [];intro pb hpb;have sb:=Same.upd (o:=.dK []) hpb;have hnb:=sb _ _ hn8;refine bX hnb i0 (bX hnb i1 (bX hnb i2 ⟨ac,zD (bx3 a b c 0 0 0) rfl (show 3<=15 by decide) (aS ?_)⟩));rw [si n1 n2 n3,kj];have s9:=Same.upd (o:=.dK (bx3 a b c 0 0 0)) hpb;have e9:upd H8 pb (.dK (bx3 a b c 0 0 0)) pb=some (.dK (bx3 a b c 0 0 0)):=ac;have f9:=s9 _ _ e8;have hr9:=hr8.same s9;have hn9:=s9 _ _ hn8;generalize upd H8 pb (.dK (bx3 a b c 0 0 0))=H9 at s9 e9 f9 hr9 hn9 ⊢;clear hnb sb hpb hr8 e8 hn8 s28 s9;have hstp:stp one other many<=1005:=by unfold stp;omega
  simp_arith! [];refine ⟨fun σ H'=>∃(R3:List Stm)(rw:Addr)(xs:List V)(f:List Addr)(v:V),σ=[some (V.ref a0),some (V.int fs),some (V.ref pn),some (V.int (one:Int)),some (V.int (other:Int)),some (V.int (many:Int)),some (V.ref pt),some (V.ref rw),some (V.int (stp one other many:Int)),some (V.ref pb),some v]/\H' pn=some (.lst ((a::b::c::rn).map V.str))/\H' rw=some (.lst xs)/\StmsV K H' xs (R0 a b one other many R3) f/\wl H' a b c many (stp one other many) R3 v,?_,?_⟩
  ·have hl:((List.range ((many:Int)).toNat).map fun i:Nat=>V.int ((i:Int) % 2))=(aZ many).map V.int:=by rw [gM];unfold aZ;rw [qJ];rfl
   refine ⟨CDivB.small Jm Jm,aA (fun hq=>zC Jn Jn fun acc hacc bk=>?_) (fun hq=>bX hn9 i2 fun p0 hp0=>?_)⟩
   ·refine jx (n:=((many:Int)).toNat) (fun i:Nat=>V.int ((i:Int) % 2)) (by rw [bP];omega) hacc (fun i hi H' Q' _ h=>?_) (fun u hu=>aS ?_)
    ·rwa [];exact h
    rw [hl] at hu ⊢;have s10:=Same.upd (o:=.lst ((aZ many).map V.int)) hacc;have s11:=Same.upd (o:=.tup [V.str "over",V.ref acc,V.ref pb]) hu;have s12:=s10.trans s11;simp_arith! [];refine aA (fun hg=>?_) (fun hg=>?_)
    ·exact zd ([]) q5 xs8 f8 _ rfl (s12 _ _ hn9) (s12 _ _ f9) (hr9.same s12) (.inl ⟨rfl,.inl ⟨Jn,rfl⟩⟩)
    ·exact zd ([]) q5 xs8 f8 _ rfl (s12 _ _ hn9) (s12 _ _ f9) (hr9.same s12) (.inl ⟨rfl,.inr ⟨Jn,zQ u acc pb rfl ac (s11 _ _ ac) (s12 _ _ e9)⟩⟩)
   ·have sA:=Same.upd (o:=.tup [V.str "copy",V.str c,V.int 7]) hp0;refine bX (sA _ _ hn9) i2 fun p1 hp1 p2 hp2 p3 hp3=>?_;have sB:=Same.upd (o:=.lst []) hp1;have sC:=Same.upd (o:=.tup [V.str "while",V.str c,V.ref p1]) hp2;have sD:=Same.upd (o:=.lst [V.ref p0,V.ref p2]) hp3;have hR:StmsV K (upd (upd (upd (upd H9 p0 (.tup [V.str "copy",V.str c,V.int 7])) p1 (.lst [])) p2 (.tup [V.str "while",V.str c,V.ref p1])) p3 (.lst [V.ref p0,V.ref p2])) [.ref p0,.ref p2] (Rr c) [p1]:=
     .cons (f:=[]) (.deed (d:=.copy c (.word 7)) trivial (SqT.of (sD _ _ (sC _ _ (sB _ _ ac))))) (.cons (f:=[p1]) (g:=[]) (.whl (SqT.of (sD _ _ ac)) (sD _ _ (sC _ _ ac)) .nil) .nil)
    have s10:=((sA.trans sB).trans sC).trans sD;have e10:upd (upd (upd (upd H9 p0 (.tup [V.str "copy",V.str c,V.int 7])) p1 (.lst [])) p2 (.tup [V.str "while",V.str c,V.ref p1])) p3 (.lst [V.ref p0,V.ref p2]) p3=some (.lst [V.ref p0,V.ref p2]):=ac;generalize upd (upd (upd (upd H9 p0 (.tup [V.str "copy",V.str c,V.int 7])) p1 (.lst [])) p2 (.tup [V.str "while",V.str c,V.ref p1])) p3 (.lst [V.ref p0,V.ref p2])=HA at hR s10 e10 ⊢;have lx:=hr9.length;refine zF _ _ (s10 _ _ f9) e10 ?_ fun p4 hp4=>aS ?_
    ·rw [lx,bP];simp [R0,R1,HTS.R2,cA];omega
    have s11:=Same.upd (o:=.lst (xs8++[V.ref p0,V.ref p2])) hp4;simp_arith! [];refine zC Jn Jn fun acc hacc bk=>?_;refine jx (n:=((many:Int)).toNat) (fun i:Nat=>V.int ((i:Int) % 2)) (by rw [bP];omega) hacc (fun i hi H' Q' _ h=>?_) ?_
    ·rwa [];exact h
    rw [hl];intro u hu v hv;have s12:=Same.upd (o:=.lst ((aZ many).map V.int)) hacc;have s13:=Same.upd (o:=.lst []) hu;have s14:=Same.upd (o:=.tup [V.str "round",V.ref acc,V.ref u,V.int ((stp one other many:Int)+1),V.int 1]) hv;have s15:=(s12.trans s13).trans s14;have s16:=(s10.trans s11).trans s15;have hr16:=df ((hR.same s11).same s15) (hr9.same s16);have er:R0 a b one other many []++Rr c=R0 a b one other many (Rr c):=by simp [R0,R1,HTS.R2]
    rw [er] at hr16;refine aS ?_;simp_arith! [];refine aA (fun hg=>?_) (fun hg=>?_)
    ·exact zd (Rr c) p4 _ _ _ rfl (s16 _ _ hn9) (s15 _ _ ac) hr16 (.inr ⟨rfl,.inl ⟨Jn,rfl⟩⟩)
    ·exact zd (Rr c) p4 _ _ _ rfl (s16 _ _ hn9) (s15 _ _ ac) hr16 (.inr ⟨rfl,.inr ⟨Jn,zQ v acc u rfl ac (s14 _ _ (s13 _ _ ac)) (s14 _ _ ac)⟩⟩)
  ·rintro σ H10 ⟨R3,rw0,xs,f,v,rfl,hn,hrw,hst,hdue⟩;refine aS ?_;obtain ⟨hgood,hmany,hdeep⟩:=sQ (a:=a) (b:=b) (c:=c) (one:=one) (other:=other) (many:=many) (R3:=R3) (hdue.elim (fun h=>.inl h.1) fun h=>.inr h.1) Jn b2;simp_arith! [];intro pi hpi;have s1:=Same.upd (o:=.lst []) hpi;refine zA _ (SqL.of (s1 _ _ hn)) fun po hpo=>?_;have ec3:cj ((a::b::c::rn).map V.str) none (some 3)=[a,b,c].map V.str:=by rw [gp Jm];rfl
   rw [ec3];have s2:=s1.trans (Same.upd (o:=.lst ([a,b,c].map V.str)) hpo);have ei:upd (upd H10 pi (.lst [])) po (.lst ([a,b,c].map V.str)) pi=some (.lst (([]:List Str).map V.str)):=Same.upd hpo _ _ ac;have eo:upd (upd H10 pi (.lst [])) po (.lst ([a,b,c].map V.str)) po=some (.lst ([a,b,c].map V.str)):=ac;generalize upd (upd H10 pi (.lst [])) po (.lst ([a,b,c].map V.str))=H11 at s2 ei eo ⊢;intro pp dx hpp hdx hne;have s3:=(Same.upd (o:=.own pp) hdx).updM (o:=.ins t.C_Program dx []) hpp;have hob:upd (upd H11 dx (.own pp)) pp (.ins t.C_Program dx []) pp=some (.ins t.C_Program dx []):=ac;generalize upd (upd H11 dx (.own pp)) pp (.ins t.C_Program dx [])=H12 at s3 hob ⊢;have s4:=s2.trans s3;rw [nE];refine zf dx ([]) ([a,b,c]) xs _ f (zk hob (s3 _ _ ei) (s3 _ _ eo) (s4 _ _ hrw) (hst.same s4) ?_ ?_ Jm Jo fun a1 b1 r1 ys1 g1 H13 sx hP _ _=>⟨rfl,?_⟩)
   ·omega
   ·omega
   dsimp only;rw [jT];refine zO 8 ([a,b,c]) _ (ze (zK a1 b1 r1 ys1 g1 hP) Jm Jm Jo hgood Jn Jn ?_);rw [rV n1 n2 n3];show iM 8 (st0 a b c one other many R3) _ _\/gc 8 (st0 a b c one other many R3) _ _\/dF 8 (st0 a b c one other many R3) 1001/\dE 8 (st0 a b c one other many R3) 1001/\_;have sD:∀x o,H10 x=some o->H13 x=some o:=fun x o e=>sx _ _ (s4 _ _ e) fun z=>by rw [z] at e;rw [s2 _ _ e] at hpp;cases hpp
   rcases hdue with ⟨rfl,⟨hb,rfl⟩ | ⟨hb,p0,u0,d0,rfl,eP,eU,eD⟩⟩ | ⟨rfl,⟨hb,rfl⟩ | ⟨hb,p0,u0,d0,rfl,eP,eU,eD⟩⟩
   ·exact .inr (.inr (zC (qV n1 n2 n3 Jn b2 Jn) (mz n1 n2 n3 Jn b2 Jn) fun H' _=>⟨.inl (zA _ rfl rfl),q H'⟩))
   ·refine .inl (zT (stp one other many) hb (by rw [et n1 n2 n3 Jn b2];rfl) (qV n1 n2 n3 Jn b2 (zq4 _)) (mz n1 n2 n3 Jn b2 Jn) fun p u d H' s hu hd e1 e2 e3=>⟨.inr (zN p p0 _ _ rfl rfl (SqT.of e1) (SqT.of (s _ _ (sD _ _ eP))) ?_),q H'⟩);rw [et n1 n2 n3 Jn b2] at e2 e3;exact .cons (.flat rfl rfl (by simp [eqV])) (.cons (.list (am (sD _ _ eU) hu).symm (SqL.of e2) (SqL.of (s _ _ (sD _ _ eU)))) (.cons (.dict (am (sD _ _ eD) hd).symm (.inl e3) (.inl (s _ _ (sD _ _ eD))) rfl (kC (by simp [bx3,n1,n2,n3]) rfl)) .nil))
   ·exact .inr (.inr (zC (qW n1 n2 n3 Jn b2) (fun i j h1 h2=>qU n1 n2 n3 Jn b2 i j h1 Jn) fun H' _=>⟨.inl (zA _ rfl rfl),q H'⟩))
   ·have r1:=ij (many:=many) n1 n2 n3 (show one<=255 by omega) b2 0;have r2:=ij (many:=many) n1 n2 n3 (show one<=255 by omega) b2 1;refine .inr (.inl (zR (stp one other many+1+0) (stp one other many+1+1) (zU Jn Jn (qW n1 n2 n3 Jn b2) (fun i j h1 h2=>qU n1 n2 n3 Jn b2 i j h1 Jn) (by rw [r1,r2]) (by rw [r1,r2];exact zq4 _) fun p u d H' s hu hd e1 e2 e3=>⟨.inr (zN p p0 _ _ rfl rfl (SqT.of e1) (SqT.of (s _ _ (sD _ _ eP))) ?_),q H'⟩)));rw [r1,r2,lN] at e2;rw [r1,r2,List.drop_length] at e3;exact .cons (.flat rfl rfl (by simp [eqV])) (.cons (.list (am (sD _ _ eU) hu).symm (SqL.of e2) (SqL.of (s _ _ (sD _ _ eU)))) (.cons (.list (xs:=[]) (am (sD _ _ eD) hd).symm (SqL.of e3) (SqL.of (s _ _ (sD _ _ eD)))) (.cons (.flat rfl rfl (by simp [eqV])) (.cons (.flat rfl rfl (by simp [eqV];omega)) .nil))))
theorem kO(T:Txt K mg t):∀(s:Shared)(u:Value),BindsTo s t.e_23 ⟨[u],[]⟩ [("_law_script",u)]:=by obtain ⟨oc,od,kV,doc,pm,an,cdv,ct,osl,e,_,_⟩:=T.d_23.F.ex;intro s u;rw [e];exact .of_eq rfl
end
theorem x8{l:W.OpenLaw}{q:Program}{loose:List Str}{XP:(Str->Option Value)->Heap->Prop}{YP:World->Heap->Prop}{d:DefRec}{K:Params->W.Frag}(hn:l.most=some 63)(hdf:d.params.defaults=[])(hd:d.name="law")
  (hY:∀(w:World)(h:Heap),YP w h->(K w.params).In h)
  (F:∀(w:World)(mg:Str->Option Value)(h:Heap),(K w.params).In h->h.Ns mainGlobals mg->∃t,Txt (K w.params) mg t) :
  W.WalkO q loose XP YP l.row.toRowW d [] (fun f vs=>PySem.call f vs):=by
 refine L2.oh (n:=63) (k:=100) (x:="_law_script") (CX:=fun _=>CX0) (sp:=fun w=>sp_law (K w.params)) hn Jm hdf ⟨rfl,Jm,Jm⟩ hY (fun w mg fa h KX G hmg=>?_) (fun _ _ a ns hl hb _ hS=>zP a ns rfl hS hl hb fun _=>rfl) fun _ _ _ _ _ z=>z;obtain ⟨t,T⟩:=F w mg h KX G;rw [hd] at hmg;have e0:=hmg.symm.trans T.d_23.M
 cases e0
 exact zA t.e_23 (kO T) (fun base _ _=>(sk T).mono Jm)
end K76
set_option maxHeartbeats 4000000
local macro_rules | `(tactic| simp_arith [$ts,*])=>`(tactic| ((try dsimp only); k_is))
local macro_rules | `(∅)=>`(by simp_arith [])
namespace PySem.W.Fast
def tw4089408174864138132:=0
def tw7991336375066179127:=0
def tw10503945515714488794:=0
def tw5130684931527918405:=0
def tw15212378865367516914:=0
def tw13884706918631835900:=0
def tw4192359847004420676:=0
def tw12602044314731009943:=0
def tw7642751254568090469:=0
def tw14094924833480275297:=0
def tw17197050886517456848:=0
def tw3771818198014472028:=0
def tw3527629881646575675:=0
def tw14988516366038780145:=0
def tw10707002643573108156:=0
def tw6377143749431484007:=0
def tw12227598838465127851:=0
def tw843481793546947507:=0
def tw11469267639731431319:=0
def tw11604408453329529334:=0
def tw18330899176867306207:=0
def tw16610939458845130687:=0
def tw5831198232950902717:=0
def tw6206206651051938632:=0
def tw11098999907773631465:=0
def tw7890947910775526710:=0
def tw3132427206123584693:=0
def tw8400015712159837765:=0
def tw9234730907417549619:=0
def tw3164710545054117781:=0
def tw10923794892245574300:=0
def tw10829813567207308137:=0
def tw5725217771967912048:=0
def tw10161976399099119881:=0
def tw10160912908624442617:=0
def tw6341176895702074914:=0
def tw15562595252892787965:=0
def tw16242022871233035105:=0
def tw10940124537491660714:=0
def tw2524063598936632485:=0
def tw13788806154296819966:=0
def tw8136824293520864384:=0
def tw14074340013372019258:=0
def tw12377134858365692927:=0
def tw17671011310560710100:=0
def tw13121371957197862010:=0
def tw3289394117872116052:=0
def tw13289103786712890812:=0
def tw8511201997470345925:=0
def tw1899153825297655350:=0
def tw4587530119205451199:=0
def tw2957926159598774604:=0
def tw15133974628083740419:=0
def tw11805356208495543356:=0
def tw14630864377846162010:=0
def tw3436913146850241174:=0
def tw15767805190893447144:=0
def tw282940761677266243:=0
def tw4500941539260178363:=0
def tw14319060222673054964:=0
def tw406817244988894216:=0
def tw15746355836579450816:=0
def tw1621012861542848629:=0
def tw5727161363654058626:=0
def tw13176301711070754139:=0
def tw17081458651714987607:=0
def tw4140441473780288474:=0
def tw1764196955873335474:=0
def tw7486272529603215348:=0
def tw16639222034452061966:=0
def tw17865767687086211329:=0
def tw8384020112693654916:=0
def tw13135582996118054359:=0
def tw7506729640231788874:=0
def tw6348312645828239448:=0
def tw15548509931598894136:=0
def tw12976067491471046024:=0
def tw5420682387046377683:=0
def tw14597877967120085537:=0
def tw3896484813227746234:=0
def tw11695642796302225321:=0
def tw17925692510135642891:=0
def tw12869741456786863951:=0
def tw3158751762092940321:=0
def tw12673585421033465799:=0
def tw5670786789028563626:=0
def tw2979377707569578971:=0
def tw648261035679881308:=0
def tw5842578423561762467:=0
def tw17870118321975388807:=0
def tw1761344313231080291:=0
def tw11316346518434690300:=0
def tw10215811010893009596:=0
def tw11402664847690771792:=0
def tw7793037118274588604:=0
def tw3588605757823185793:=0
def tw10176325874910908366:=0
def tw8804432405506738854:=0
def tw5228432885682882366:=0
def tw9437448159663911298:=0
def tw5185357950627901965:=0
def tw17568306790115466914:=0
def tw16257705577799862631:=0
def tw2449879321517917010:=0
def tw5788205124253875363:=0
def tw10606758329894562114:=0
def tw9351702720195349675:=0
def tw17537166788019065786:=0
def tw11896103506082874892:=0
def tw5170604379314291379:=0
def tw6687063768553917261:=0
def tw5747494733618649634:=0
def tw97205165509931510:=0
def tw14092226633666748326:=0
def tw17199905767835846230:=0
def tw14357208485157368541:=0
def tw10606124821365190244:=0
def tw17977223678946894003:=0
def tw15715373346394976760:=0
def tw8035732714734813002:=0
def tw11577882028847682710:=0
def tw8055357526314994187:=0
def tw16853304234265025465:=0
def tw13685942073517586050:=0
def tw12709605286547146957:=0
def tw3524256729817936571:=0
def tw18208573550194830877:=0
def tw13117150329405216907:=0
def tw7445674769784790444:=0
def tw9086210143713979010:=0
def tw16693963447643507293:=0
def tw15946670941700532888:=0
def tw14640280202116333616:=0
def tw17895061234316667627:=0
def tw2857167566985334688:=0
def tw18278562840441727463:=0
def tw7863305853380766666:=0
def tw3308113554918259616:=0
def tw12457205974085187587:=0
def tw13112368567333670959:=0
def tw8258701526691306777:=0
def tw2231708590055496967:=0
def tw17815731083340410802:=0
def tw15750940260154640192:=0
def tw13765946610033492449:=0
def tw3777267059140375625:=0
def tw2075618218553985358:=0
def tw8628360901093632582:=0
def tw4339539062834232936:=0
def tw5754429428720049072:=0
def tw12479089956693669273:=0
def tw5978093951289521023:=0
def tw11665842185201748295:=0
def tw12379475269023415780:=0
def tw18348692604158964714:=0
def tw8240996286026128358:=0
def tw13132024780340422846:=0
def tw2812187113229931103:=0
def tw4369697838056696897:=0
def tw3206254199814748281:=0
def tw4612147530642183906:=0
def tw17003419036616471993:=0
def tw14815839322969314255:=0
def tw14767241800099984340:=0
def tw1418555904740535973:=0
def tw12881194191819848042:=0
def tw7320428752487512721:=0
def tw15681775384093146178:=0
def tw2348110568675992330:=0
def tw1748823031699594328:=0
def tw10534275768959793143:=0
def tw12114530427769814099:=0
def tw6222656871249152322:=0
def tw3818773535869877154:=0
def tw15457033199699137591:=0
def tw14316274577552067693:=0
def tw14634362568075459347:=0
def tw4963560715649032020:=0
def tw14896881062737471155:=0
def tw6145519417344366809:=0
def tw2573683884835749632:=0
def tw8768220291879209583:=0
def tw16173973272147218808:=0
def tw3166361554008777817:=0
def tw9288633166622361810:=0
def tw3731696803992192363:=0
def tw271639800738374257:=0
def tw2390172033239112331:=0
def tw14901543664688063813:=0
def tw13293917254828398137:=0
def tw12051767937223392911:=0
def tw11313358090784907574:=0
def tw8679061896964769379:=0
def tw5385569840679478711:=0
def tw494262854818630051:=0
def tw2158139226225802946:=0
def tw18265435230217816701:=0
def tw15690260858818195628:=0
def tw13063804798452467307:=0
def tw12845832783985136181:=0
def tw5314356979976017455:=0
def tw9509142099508955876:=0
def tw6643317792549535596:=0
def tw6099244960967984363:=0
def tw4405058536548361706:=0
def tw12605458045558543418:=0
def tw5336532926074001587:=0
def tw3920301870979068577:=0
def tw1812376869846497199:=0
def tw16560092109618015813:=0
def tw16245264455544900545:=0
def tw15352450161502566257:=0
def tw13790034833469285130:=0
def tw10772189782920202076:=0
def tw9806533260227764355:=0
def tw9632406329654674262:=0
def tw9597384961594268624:=0
def tw9549324946815250826:=0
def tw894267002522897845:=0
def tw8914278263385160834:=0
def tw8576846635691653608:=0
def tw831643763289256631:=0
def tw7860440661782475340:=0
def tw7437538028843258119:=0
def tw7399376906185158778:=0
def tw7203785514072149287:=0
def tw6720719754171357460:=0
def tw6221660088128770390:=0
def tw6183117935472199841:=0
def tw6149100979892156467:=0
def tw4883839130217946925:=0
def tw4456660217099650297:=0
def tw4236735056673888116:=0
def tw3792623266664407612:=0
def tw3445693797197081121:=0
def tw3113447641401435933:=0
def tw282785599606148514:=0
def tw2557121642413624188:=0
def tw2462498162321571987:=0
def tw2269010074158403911:=0
def tw2258082625575887039:=0
def tw17509536891892425352:=0
def tw17230023741635370113:=0
def tw17177459026911485485:=0
def tw17063716933375873500:=0
def tw17037341403437424081:=0
def tw16553761748912365873:=0
def tw15701960297925492672:=0
def tw15453471621556489568:=0
def tw15215532664820697604:=0
def tw15135156343315081970:=0
def tw14893174182004276173:=0
def tw14700556717027310709:=0
def tw14585385195636905894:=0
def tw14150590113603301672:=0
def tw1412711387076278035:=0
def tw13851648207857511491:=0
def tw13809772030005153124:=0
def tw13570152569531932065:=0
def tw13372141960425338539:=0
def tw13186800551517457014:=0
def tw1293772439632485211:=0
def tw12613906869128702528:=0
def tw12145864630657895264:=0
def tw1210341949549243875:=0
def tw11782792418317837527:=0
def tw11675960176302003643:=0
def tw11594246596597339163:=0
def tw11555093876236769031:=0
def tw11196850167459679746:=0
def tw10646182960862679450:=0
def tw10562939409669240828:=0
def tw10544253430723754860:=0
def tw10325881934217037008:=0
def tw1001343994021589173:=0
end PySem.W.Fast
open PySem PySem.W PyProof.Rows
set_option maxRecDepth 100000 in
set_option maxHeartbeats 0 in
theorem PySem.Challenge.cw_deedloom_k76_runs_that_are_too_long_holds : PySem.Challenge.rw_deedloom_k76_runs_that_are_too_long.Holds := by
 w_on; o_law; k_head; (case hw=>w_witness2)
 k_fill
 refine K76.x8 (l := PySem.Challenge.rw_deedloom_k76_runs_that_are_too_long) rfl rfl rfl (fun w h Y=>PySem.W.kIn_of Y) ?F
 case F =>
  intro w mg h KX G
  exact ⟨⟨_,_,_,_,_,_,_,_,_,_,_,_,_,_,_,_,_,_,_,_,_,_,_,_,_,_,_,_,_,_,_,_,_,_,_,_,_,_,_,_,_,_,_,_,_,_,_,_,_,_,_,_,_,_,_,_,_⟩,⟨PySem.W.mg_of KX G ∅,L2.uI KX G ∅ ∅ ∅ ∅ ∅ ∅ ∅,by show PySem.W.findIn _ _ _ = some none; simp_arith [],by show PySem.W.findIn _ _ _ = some none; simp_arith [],by show PySem.W.findIn _ _ _ = some none; simp_arith [],by show PySem.W.findIn _ _ _ = some none; simp_arith [],L2.uI KX G ∅ ∅ ∅ ∅ ∅ ∅ ∅,by show PySem.W.findIn _ _ _ = some none; simp_arith [],by show PySem.W.findIn _ _ _ = some none; simp_arith [],by show PySem.W.findIn _ _ _ = some none; simp_arith [],by show PySem.W.findIn _ _ _ = some none; simp_arith [],PySem.W.mg_of KX G ∅,PySem.W.mg_of KX G ∅,PySem.W.mg_of KX G ∅,by (try dsimp only); k_exc,⟨by (try dsimp only); k_is,by (try dsimp only); k_is,by (try dsimp only); k_is,by (try dsimp only); k_is,by (try dsimp only); k_is,by (try dsimp only); k_is,by (try dsimp only); k_is,by (try dsimp only); k_is⟩,PySem.W.mg_of KX G ∅,PySem.W.mg_of KX G ∅,PySem.W.mg_of KX G ∅,by (try dsimp only); kts_exm,by (try dsimp only); kit_is,by (try dsimp only); kit_is,by (try dsimp only); kit_is,by (try dsimp only); kit_is,by (try dsimp only); kit_is,L2.iZ ∅ ∅ ∅ ∅ ∅ (L2.bn5 fun _ _ _ _ _ _ _ _ _ _ _=>rfl),L2.cr KX G ∅ ∅ ∅ ∅ (L2.bn1 fun _ _ _ _ _ _ _=>rfl),L2.cr KX G ∅ ∅ ∅ ∅ (L2.bn1 fun _ _ _ _ _ _ _=>rfl),L2.cr KX G ∅ ∅ ∅ ∅ (L2.bn1 fun _ _ _ _ _ _ _=>rfl),L2.cr KX G ∅ ∅ ∅ ∅ (L2.bn4 fun _ _ _ _ _ _ _ _ _ _=>rfl),L2.cr KX G ∅ ∅ ∅ ∅ (L2.bn1 fun _ _ _ _ _ _ _=>rfl),L2.cr KX G ∅ ∅ ∅ ∅ (L2.bn1 fun _ _ _ _ _ _ _=>rfl),L2.cr KX G ∅ ∅ ∅ ∅ (L2.bn2 fun _ _ _ _ _ _ _ _=>rfl),L2.cr KX G ∅ ∅ ∅ ∅ (L2.bn3 fun _ _ _ _ _ _ _ _ _=>rfl),L2.cr KX G ∅ ∅ ∅ ∅ (L2.bn2 fun _ _ _ _ _ _ _ _=>rfl),L2.iZ ∅ ∅ ∅ ∅ ∅ (L2.bn3 fun _ _ _ _ _ _ _ _ _=>rfl),L2.iZ ∅ ∅ ∅ ∅ ∅ (L2.bn1 fun _ _ _ _ _ _ _=>rfl),L2.iZ ∅ ∅ ∅ ∅ ∅ (L2.bn1 fun _ _ _ _ _ _ _=>rfl),L2.iZ ∅ ∅ ∅ ∅ ∅ (L2.bn2 fun _ _ _ _ _ _ _ _=>rfl),L2.iZ ∅ ∅ ∅ ∅ ∅ (L2.bn2 fun _ _ _ _ _ _ _ _=>rfl),L2.iZ ∅ ∅ ∅ ∅ ∅ (L2.bn2 fun _ _ _ _ _ _ _ _=>rfl),L2.cr KX G ∅ ∅ ∅ ∅ (L2.bn2 fun _ _ _ _ _ _ _ _=>rfl),L2.cr KX G ∅ ∅ ∅ ∅ (L2.bn1 fun _ _ _ _ _ _ _=>rfl),L2.cr KX G ∅ ∅ ∅ ∅ (L2.bn1 fun _ _ _ _ _ _ _=>rfl),L2.cr KX G ∅ ∅ ∅ ∅ (L2.bn1 fun _ _ _ _ _ _ _=>rfl),L2.cr KX G ∅ ∅ ∅ ∅ (L2.bn2 fun _ _ _ _ _ _ _ _=>rfl),L2.cr KX G ∅ ∅ ∅ ∅ (L2.bn1 fun _ _ _ _ _ _ _=>rfl),L2.cr KX G ∅ ∅ ∅ ∅ (L2.bn1 fun _ _ _ _ _ _ _=>rfl),L2.cr KX G ∅ ∅ ∅ ∅ (L2.bn1 fun _ _ _ _ _ _ _=>rfl),PySem.W.mg_none_of KX G ∅,PySem.W.mg_none_of KX G ∅,PySem.W.mg_none_of KX G ∅,PySem.W.mg_none_of KX G ∅,PySem.W.mg_none_of KX G ∅,PySem.W.mg_none_of KX G ∅,PySem.W.mg_none_of KX G ∅,PySem.W.mg_none_of KX G ∅,PySem.W.mg_none_of KX G ∅⟩⟩
